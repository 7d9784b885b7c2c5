import PyProof.Rows.All
import Wide.All
import OpenK.AllK
import Wide.FinOn
import HandS.ForMost
import HandS.Wide
import HandS.WideBits
import HandS.IsInst
import HandS.Defaults
import HandS.Star
import HandS.Evl
import HandS.NoneIn
import HandS.Style
import HandS.SlotsOwn
import HandS.MakeKwOnly
import HandS.ForExc
import HandS.ExcInit
import HandS.MapJoin
import HandS.NestedK
import HandS.Lambda
import HandS.EndTab
import HandS.TryMany
import HandS.HotCalls
import HandS.ExcField
import HandS.ClsMeth
import KE.KExcSuper
import KE.KExcIs
import KE.KOpsOwn
import KE.KNestM
import HandS.Property
import KE.DataEq
import HandS.Deep
import HandS.TupAny
import HandS.Zip
import HandS.Dict
import HandS.More
import HandS.FStr
import HandS.Text
import HandS.RaiseMore
import HandS.DictComp
import HandS.DictTup
import HandS.Conv
import HandS.Comp
import KE.KDictKeyed
import KE.KeyNested
import KE.SortData
import KE.KDictItemsList
import KE.GoesMore
import HandS.TupSets
import PySem.Challenge.RW_grainyard_k43_whole_single_sheets_by_try
set_option Elab.async false
set_option linter.all false
set_option maxRecDepth 100000
set_option maxHeartbeats 4000000
namespace Gy
open PySem PySem.Spec PyProof.Rows L2
theorem sq_nn (x : Int) : 0 ≤ x * x := by
  rcases Int.le_total 0 x with h | h
  · exact Int.mul_nonneg h h
  · exact Int.mul_nonneg_of_nonpos_of_nonpos h h
theorem sq_le {x y : Int} (h0 : 0 ≤ x) (h : x ≤ y) : x * x ≤ y * y := Int.mul_le_mul h h h0 (Int.le_trans h0 h)
theorem sq_lt {x y : Int} (h0 : 0 ≤ x) (h : x < y) : x * x < y * y := by
  have h1 : (x + 1) * (x + 1) ≤ y * y := sq_le (by omega) (by omega)
  grind
theorem lt_of_sq {x y : Int} (h0 : 0 ≤ y) (h : x * x < y * y) : x < y := by
  rcases Int.lt_or_le x y with z | z
  · exact z
  · have := sq_le h0 z
    omega
theorem le_of_sq {x y : Int} (h0 : 0 ≤ y) (h : x * x ≤ y * y) : x ≤ y := by
  rcases Int.lt_or_le y x with z | z
  · have := sq_lt h0 z
    omega
  · exact z
/-- Newton's step from above -/
theorem newton_up {g n : Int} (hg : 0 < g) (hn : 0 ≤ n) : n < ((g + n / g) / 2 + 1) * ((g + n / g) / 2 + 1) := by
  have hq : 0 ≤ n / g := Int.ediv_nonneg hn (by omega)
  have h1 : n < g * (n / g + 1) := by
    have := Int.lt_ediv_add_one_mul_self n hg
    grind
  generalize n / g = q at hq h1 ⊢
  have h2 : g + q + 1 ≤ 2 * ((g + q) / 2 + 1) := by omega
  generalize (g + q) / 2 = r at h2 ⊢
  have h3 := sq_nn (g - (q + 1))
  have h4 := sq_le (show 0 ≤ g + q + 1 by omega) h2
  grind
theorem newton_dn {g n : Int} (hg : 0 < g) (h : n < g * g) : (g + n / g) / 2 < g := by
  have h1 : n / g < g := Int.ediv_lt_of_lt_mul hg h
  omega
theorem newton_nn {g n : Int} (hg : 0 < g) (hn : 0 ≤ n) : 0 ≤ (g + n / g) / 2 := by
  have hq : 0 ≤ n / g := Int.ediv_nonneg hn (by omega)
  omega
/-- no root times a square is a square -/
theorem no_square {d k : Int} (hk : 0 ≤ k) (h1 : k * k < d) (h2 : d < (k + 1) * (k + 1)) : ∀ (n : Nat) (b w : Int), 0 < b → 0 ≤ w → b.toNat ≤ n → w * w ≠ d * b * b
  | 0, b, w, hb, _, hn => by omega
  | n + 1, b, w, hb, hw, hn => fun e => by
    have hbb : 0 < b * b := Int.mul_pos hb hb
    have l1 : (k * b) * (k * b) < w * w := by
      have := Int.mul_lt_mul_of_pos_right h1 hbb
      grind
    have l2 : w * w < ((k + 1) * b) * ((k + 1) * b) := by
      have := Int.mul_lt_mul_of_pos_right h2 hbb
      grind
    have m1 : k * b < w := lt_of_sq hw l1
    have m2 : w < (k + 1) * b := lt_of_sq (Int.mul_nonneg (by omega) (by omega)) l2
    have m3 : w - k * b < b := by grind
    refine no_square hk h1 h2 n (w - k * b) (d * b - k * w) (by omega) ?_ (by omega) (by grind)
    have : (k * w) * b ≤ (d * b) * b := by
      have z := Int.mul_le_mul_of_nonneg_right (Int.le_of_lt m1) hw
      grind
    have z : k * w ≤ d * b := Int.le_of_mul_le_mul_right this hb
    omega
/-! ### defs with defaults, methods by keywords -/
inductive Dflt (K : PySem.W.Frag) (r : Addr) : Prop
  | mk {y1 y2 : Addr} {d e f : Option Addr} {m n o : Nat} {s t u : Array (Option Value)} {v w x y : Tok} (a : K.lookup r = some ⟨.type "tuple", d, .seq #[.ref y1, .ref y2] m, s⟩)
      (b : K.lookup y1 = some ⟨.type "tuple", e, .seq #[.int 0 v, .int 0 w] n, t⟩) (c : K.lookup y2 = some ⟨.type "tuple", f, .seq #[.int 0 x, .int 0 y] o, u⟩) : Dflt K r
section
variable {K : PySem.W.Frag} {f T D : Addr} {oc tc u : Value} {od td : Option Addr} {fd : FuncData} {sl ts : Array (Option Value)} {tn : Nat} {its : Array Value} {ps : List Str} {x : Str}
theorem bd_given (l : K.lookup f = some ⟨oc, od, .func fd, sl⟩) (t : K.lookup T = some ⟨tc, td, .seq its tn, ts⟩) (h : ∀ us : List Value, us.length = ps.length → ∃ k, bindArgs fd ⟨us, []⟩ = seqItems? (.ref T) >>= k ∧ k (some its) = pure (ps.zip us)) : Binds K fd ps [] := fun s us X hl => by
  rw [List.append_nil] at hl ⊢
  obtain ⟨k, e1, e2⟩ := h us hl
  refine BindsTo.of_looks fun M => ?_
  rw [e1]
  exact looks_items X t rfl (.of_pure e2)
theorem bd_dflt {v : Value} (l : K.lookup f = some ⟨oc, od, .func fd, sl⟩) (t : K.lookup T = some ⟨tc, td, .seq #[v] tn, ts⟩) (h : ∀ us : List Value, us.length + 1 = ps.length → ∃ k, bindArgs fd ⟨us, []⟩ = seqItems? (.ref T) >>= k ∧ k (some #[v]) = pure (ps.zip (us ++ [v]))) : Binds K fd ps [v] := fun s us X hl => by
  rw [List.length_append] at hl
  obtain ⟨k, e1, e2⟩ := h us hl
  refine BindsTo.of_looks fun M => ?_
  rw [e1]
  exact looks_items X t rfl (.of_pure e2)
theorem bd_kw (l : K.lookup f = some ⟨oc, od, .func fd, sl⟩) (kd : PySem.W.nsIn K D x = some (some u)) (h : ∀ us : List Value, us.length + 1 = ps.length → KwChain D [(x, u)] (bindArgs fd ⟨us, []⟩) (ps.zip (us ++ [u]))) : Binds K fd ps [u] := fun s us X hl => by
  rw [List.length_append] at hl
  refine BindsTo.of_looks fun M => ?_
  refine KwChain.looks X ?_ (h us hl)
  intro q hq
  rcases List.mem_cons.mp hq with e | e
  · rw [e]
    exact kd
  · cases e
end
section
variable {X : Cx} {CX : CXT} {k : Nat} {f C : Addr} {fd : FuncData} {ps ks : List Str} {sp : Sp} {E : XK} {m : Str} {pos apos : Pos} {o : Expr} {kws : List Keyword} {ta : TE} {tk : TA}
theorem pe_methK0 {pl : Sem Bool} {g : List Value → List Value → List Value} {gV : List V → List V → List V} (he : PE X o ta) (c : Cls X.K C) (hm : Meth X.K C m f) (F : FnOk X.prog X.w X.K X.mg X.base CX k f fd ps sp) (hr : Room k X.A) (hb : KBn X.K fd ps 1 ks g gV) (hx : Passes CX X E) (hkw : PK X kws tk)
    (hall : (backToKw pos (keywordEach kws X.env)).all (·.1.isSome) = true := by rfl)
    (hks : (backToKw pos (keywordEach kws X.env)).filterMap (·.1) = ks := by rfl)
    (hpl : ((backTo pos (starEach [] X.env)).any (·.1) || (backToKw pos (keywordEach kws X.env)).any (·.1.isNone)) = false := by rfl)
    (ht : eval (.Call (.Attribute o m apos) [] kws pos) X.env = (do
      let ov ← eval o X.env
      standAt apos.atName
      let (f, first) ← holding [ov] (getMethod ov m pl)
      callWith pos f first (backTo pos (starEach [] X.env)) (backToKw pos (keywordEach kws X.env))) := by rfl) :
    PE X (.Call (.Attribute o m apos) [] kws pos) (fun σ H Q => ta σ H fun x H1 => ∃ a dx fs, x = .ref a ∧ H1 a = some (.ins C dx fs) ∧ fs.lookup m = none ∧ tk σ H1 fun zs H2 => zs.length = ks.length ∧ sp (gV [.ref a] zs) H2 Q E) := by
  refine ⟨fun pins s σ H Q I h => ?_⟩
  refine PySem.W.methodCall_KW (pl := pl) (thn (he.run pins s σ H _ I h) fun u s1 ⟨x, H1, I1, rx, a, dx, fs, ex, ea, l, q⟩ => ?_) ht
  subst ex
  obtain rfl : u = Value.ref a := rx
  refine getmeth_ok I1 ea c hm l ?_
  refine PySem.W.callWith_KW0 (first := [.ref a]) (h₀ := X.base) I.ok.mod.kin hm.kp hall ?_ hpl
  refine thn (hkw.run pos pins s1 σ H1 _ I1 q) fun ws s2 ⟨zs, H2, I2, rz, l2, q2⟩ => ⟨I2.kIn, ?_⟩
  rw [hks]
  exact run_fnN (us := [.ref a]) (vs := [.ref a]) F hr hb hx I2 (.cons rfl .nil) rz rfl l2 q2
end
/-! ### operators of an own class -/
section
variable {X : Cx} {CX : CXT} {n : Nat} {C g : Addr} {fd : FuncData} {ps : List Str} {sp : Sp} {E : XK}
theorem inst_of {pins : List (Addr × Obj)} {σ : L2.St} {H : Hp} {s : Shared} {a dx : Addr} {fs : List (Str × V)} (I : Inv X pins σ H s) (ha : H a = some (.ins C dx fs)) : ∃ ox od, PySem.W.InstAt s.heap a ox C od := by
  obtain ⟨mA, J, _⟩ := ins_get I.hok ha
  obtain ⟨od, J, _⟩ := J.look
  exact ⟨_, _, J⟩
/-- x op y of two instances -/
def rOwn2 (C : Addr) (sp : Sp) (E : XK) : R2 := fun x y H Q => ∃ a dx fs b dy gs, x = .ref a ∧ y = .ref b ∧ H a = some (.ins C dx fs) ∧ H b = some (.ins C dy gs) ∧ sp [x, y] H Q E
theorem op_bin {op : Operator} {nm : Str} (m : Meth X.K C nm g) (sf : PySem.W.selfFirst X.K C = true) (F : FnOk X.prog X.w X.K X.mg X.base CX n g fd ps sp) (hr : Room n X.A) (hb : Binds X.K fd ps []) (hx : Passes CX X E)
    (hn : PySem.dunder op.info.2 = nm := by decide +kernel) : OpR X (binaryOp op) (rOwn2 C sp E) := by
  intro pins s σ H x y v u Q I rx ry h
  obtain ⟨a, dx, fs, b, dy, gs, rfl, rfl, ha, hb', q⟩ := h
  cases (show v = Value.ref a from rx)
  cases (show u = Value.ref b from ry)
  obtain ⟨ox, od, J⟩ := inst_of I ha
  obtain ⟨oy, od', J'⟩ := inst_of I hb'
  obtain ⟨mm, hF⟩ := I.fr
  refine PySem.W.binop_K (op := op) hF I.ok.mod.kin J J'.type sf (by rw [hn]; exact m.at_) m.fn ?_
  refine wpAny_mono (run_fn (us := [.ref a, .ref b]) (vs := [.ref a, .ref b]) F hr hb .nil hx I (.cons rfl (.cons rfl .nil)) q) (fun w s' z => ?_) fun _ _ x => x
  obtain ⟨z', H', I', rz, qz⟩ := z
  exact SlX.cmpback rz ⟨z', H', I', rz, qz⟩
/-- x op i -/
def rOwnI (C : Addr) (sp : Sp) (E : XK) : R2 := fun x y H Q => ∃ a dx fs i, x = .ref a ∧ y = .int i ∧ H a = some (.ins C dx fs) ∧ sp [x, y] H Q E
theorem op_binI {op : Operator} {nm nr : Str} {fo ro : Option Value} (m : Meth X.K C nm g) (sf : PySem.W.selfFirst X.K C = true) (h0 : PySem.W.findIn X.K (.ref C) nr = some none) (h1 : PySem.W.findIn X.K (.type "int") nm = some fo) (h2 : PySem.W.findIn X.K (.type "int") nr = some ro)
    (h3 : PySem.W.subIn X.K (.type "int") (.ref C) = some false) (F : FnOk X.prog X.w X.K X.mg X.base CX n g fd ps sp) (hr : Room n X.A) (hb : Binds X.K fd ps []) (hx : Passes CX X E)
    (hn : PySem.dunder op.info.2 = nm := by decide +kernel) (hq : PySem.dunderR op.info.2 = nr := by decide +kernel) : OpR X (binaryOp op) (rOwnI C sp E) := by
  intro pins s σ H x y v u Q I rx ry h
  obtain ⟨a, dx, fs, i, rfl, rfl, ha, q⟩ := h
  cases (show v = Value.ref a from rx)
  obtain ⟨t, e⟩ := (show ∃ t, u = Value.int i t from ry)
  cases e
  obtain ⟨ox, od, J⟩ := inst_of I ha
  obtain ⟨mm, hF⟩ := I.fr
  refine PySem.W.ksp_binT (op := op) (T := "int") hF I.ok.mod.kin J rfl sf (by rw [hn]; exact m.at_) m.fn (by rw [hq]; exact h0) (.inl rfl) (by rw [hn]; exact h1) (by rw [hq]; exact h2) h3 ?_
  refine wpAny_mono (run_fn (us := [.ref a, .int i t]) (vs := [.ref a, .int i]) F hr hb .nil hx I (.cons rfl (.cons ⟨t, rfl⟩ .nil)) q) (fun w s' z => ?_) fun _ _ x => x
  obtain ⟨z', H', I', rz, qz⟩ := z
  exact SlX.cmpback rz ⟨z', H', I', rz, qz⟩
/-- -x -/
def rOwn1 (C : Addr) (sp : Sp) (E : XK) : V → Hp → VK → Prop := fun x H Q => ∃ a dx fs, x = .ref a ∧ H a = some (.ins C dx fs) ∧ sp [x] H Q E
theorem un_own (m : Meth X.K C "__neg__" g) (F : FnOk X.prog X.w X.K X.mg X.base CX n g fd ps sp) (hr : Room n X.A) (hb : Binds X.K fd ps []) (hx : Passes CX X E) : UnR X (unaryOp .USub) (rOwn1 C sp E) := by
  intro pins s σ H x v Q I rx h
  obtain ⟨a, dx, fs, rfl, ha, q⟩ := h
  cases (show v = Value.ref a from rx)
  obtain ⟨ox, od, J⟩ := inst_of I ha
  obtain ⟨mm, hF⟩ := I.fr
  exact PySem.W.ksp_neg hF I.ok.mod.kin J m.at_ m.fn (run_fn (us := [.ref a]) (vs := [.ref a]) F hr hb .nil hx I (.cons rfl .nil) q)
/-- x == y, y anything whose class does not come first -/
def rOwnE (K : PySem.W.Frag) (C : Addr) (sp : Sp) (E : XK) : R2 := fun x y H Q => ∃ a dx fs tb, x = .ref a ∧ H a = some (.ins C dx fs) ∧ TyX K H y tb ∧ PySem.W.notFirst K C tb = true ∧ sp [x, y] H Q E
theorem op_eqO2 (m : Meth X.K C "__eq__" g) (F : FnOk X.prog X.w X.K X.mg X.base CX n g fd ps sp) (hr : Room n X.A) (hb : Binds X.K fd ps []) (hx : Passes CX X E) : OpR X (compareOp .Eq) (rOwn2 C sp E) := by
  intro pins s σ H x y v u Q I rx ry h
  obtain ⟨a, dx, fs, b, dy, gs, rfl, rfl, ha, hb', q⟩ := h
  cases (show v = Value.ref a from rx)
  cases (show u = Value.ref b from ry)
  obtain ⟨ox, od, J⟩ := inst_of I ha
  obtain ⟨oy, od', J'⟩ := inst_of I hb'
  obtain ⟨mm, hF⟩ := I.fr
  show wpAny _ _ (richCompare .Eq (.ref a) (.ref b)) _ _ s
  refine PySem.W.cmp_K (op := .Eq) (tb := .ref C) hr.units0 hF I.ok.mod.kin J J'.type (by simp [PySem.W.notFirst]) m.at_ m.fn ?_
  refine wpAny_mono (run_fn (us := [.ref a, .ref b]) (vs := [.ref a, .ref b]) F hr hb .nil hx I (.cons rfl (.cons rfl .nil)) q) (fun w s' z => ?_) fun _ _ x => x
  obtain ⟨z', H', I', rz, qz⟩ := z
  exact SlX.cmpback rz ⟨z', H', I', rz, qz⟩
/-- below a built-in: the callee runs -/
theorem run_in {A : Around} {pins : List (Addr × Obj)} {σ : L2.St} {H : Hp} {s : Shared} {Q : VK} {us : List Value} {ws : List V} (F : FnOk X.prog X.w X.K X.mg X.base CX n g fd ps sp) (hr : Room n A) (e0 : Env0 X.prog X.w X.K X.mg X.base A X.stack s H) (hb : Binds X.K fd ps []) (hx : Passes CX X E) (I : Inv X pins σ H s) (r : Vals ws us) (h : sp ws H Q E) :
    wpAny (model X.prog X.w) A (call (.ref g) us) (EP X pins σ Q) X.xe s := by
  have hl : (us ++ []).length = ps.length := by rw [List.append_nil, ← r.length]; exact F.len _ _ _ _ h
  have b0 := hb s us I.kIn hl
  rw [List.append_nil] at b0
  refine wpAny_call (codeAny_mono (F.run A X.stack s H ⟨us, []⟩ us ws Q E hr e0 b0 r h) fun r s' hq => ?_)
  cases r with
  | error e => exact hx pins σ H s e s' I hq
  | ok fl =>
    cases fl with
    | ret u => exact I.after hq
    | next => exact False.elim hq
    | brk => exact False.elim hq
    | cont => exact False.elim hq
end
section
variable {prog : Program} {w : World} {A : Around} {E : Value → Shared → Prop} {s : Shared} {K : PySem.W.Frag} {x y C f : Addr} {ox : Obj} {od : Option Obj}
theorem ifBound_objNe {M : Model} {args : List Value} {Q : Option Value → Shared → Prop} (X : K.In s.heap) (I : PySem.W.InstAt s.heap x ox C od) (hs : PySem.W.findIn K (.ref C) "__ne__" = some (some (.builtin "object.__ne__")))
    (h : wpAny M A (call (.builtin "object.__ne__") (.ref x :: args)) (fun v => Q (some v)) E s) : wpAny M A (callSpecialIfBound? (.ref x) "__ne__" args) Q E s := by
  simp only [callSpecialIfBound?, bindSpecialIfBound?]
  refine wpAny_holding (wpAny_bind (wpAny_bind (wpAny_bind (I.type.here ((PySem.W.looks_findIn X hs).here ?_)))))
  refine wpAny_bind (wpAny_askSetting (wpAny_ite ?_))
  have fin : wpAny M A (call (.builtin "object.__ne__") ([.ref x] ++ args) >>= fun v => pure (some v)) Q E s := wpAny_bind (wpAny_mono h (fun v s' h' => wpAny_pure h') fun _ _ h' => h')
  split
  · exact wpAny_bind (wpAny_of_eq (F.cmp_object.ne.bind _) (wpAny_pure (by exact fin)))
  · exact wpAny_tryCatch (wpAny_bind (wpAny_of_eq (F.cmp_object.ne.bind _) (wpAny_pure (by exact fin))))
theorem ne_entry {b : Value} {Q : Fin → Shared → Prop} (hu : A.units < cLine) (X : K.In s.heap) (I : PySem.W.InstAt s.heap x ox C od) (hs : PySem.W.findIn K (.ref C) "__eq__" = some (some (.ref f))) (hf : PySem.W.isFn K (.ref f) = true)
    (h : wpAny (model prog w) A (call (.ref f) [.ref x, b]) (fun r s' => ∃ k, r = .bool k ∧ Q (.done (.ret (.bool (!k)))) s') E s) : wpAny (model prog w) A (Builtin.«object.__ne__» ⟨[.ref x, b], []⟩) Q E s := by
  unfold Builtin.«object.__ne__»
  refine wpAny_bind (wpAny_of_eq (a := (Value.ref x, [b])) rfl ?_)
  refine wpAny_bind (wpAny_cRoomFor hu ?_)
  refine wpAny_bind (PySem.W.ifBound_K X I hs hf (wpAny_mono h (fun r s' hr => ?_) fun _ _ z => z))
  obtain ⟨k, rfl, q⟩ := hr
  exact wpAny_bind (wpAny_truthy_bool (wpAny_pure q))
theorem call_objNe {b : Value} {Q : Value → Shared → Prop} (hu : A.in1.units < cLine) (X : K.In s.heap) (I : PySem.W.InstAt s.heap x ox C od) (hm : PySem.W.mroIn K C (.type "object") = some true) (hs : PySem.W.findIn K (.ref C) "__eq__" = some (some (.ref f))) (hf : PySem.W.isFn K (.ref f) = true)
    (h : wpAny (model prog w) A.in1 (call (.ref f) [.ref x, b]) (fun r s' => ∃ k, r = .bool k ∧ Q (.bool (!k)) s') E s) : wpAny (model prog w) A (call (.builtin "object.__ne__") [.ref x, b]) Q E s :=
  wpAny_call (codeAny_call_builtin F.cmp_object.ne.plain F.cmpEntry_ne (PySem.W.check_slot F.cmpKind_ne F.cmpSplit_ne (I.type.andThen (PySem.W.looks_mroIn X hm)) (F.cmpArgs_ne _ _) (ne_entry hu X I hs hf h)))
theorem rc_ne {oy : Obj} {od' : Option Obj} {Q : Value → Shared → Prop} (hu : A.in1.units < cLine) (hu0 : A.units < cLine) (X : K.In s.heap) (I : PySem.W.InstAt s.heap x ox C od) (J : PySem.W.InstAt s.heap y oy C od') (hm : PySem.W.mroIn K C (.type "object") = some true)
    (hn : PySem.W.findIn K (.ref C) "__ne__" = some (some (.builtin "object.__ne__"))) (hs : PySem.W.findIn K (.ref C) "__eq__" = some (some (.ref f))) (hf : PySem.W.isFn K (.ref f) = true)
    (h : wpAny (model prog w) A.in1 (call (.ref f) [.ref x, .ref y]) (fun r s' => ∃ k, r = .bool k ∧ Q (.bool (!k)) s') E s) : wpAny (model prog w) A (richCompare .NotEq (.ref x) (.ref y)) Q E s := by
  have one : wpAny (model prog w) A (tryCompare (.ref x) "__ne__" (.ref y)) (fun r s' => ∃ v, r = some v ∧ Q v s') E s := by
    unfold tryCompare
    refine wpAny_bind (ifBound_objNe X I hn (call_objNe hu X I hm hs hf (wpAny_mono h (fun r s' hr => ?_) fun _ _ e => e)))
    obtain ⟨k, rfl, q⟩ := hr
    exact ⟨k, rfl, wpAny_pure ⟨_, rfl, q⟩⟩
  unfold richCompare
  simp only [oneThing_ref]
  refine wpAny_holding (wpAny_bind (wpAny_cRoomFor hu0 ?_))
  refine wpAny_bind (I.type.here (wpAny_bind (J.type.here ?_)))
  simp only [bne_self_eq_false, Bool.false_eq_true, if_false]
  refine wpAny_bind (wpAny_pure ?_)
  simp only [Bool.false_eq_true, if_false]
  refine wpAny_bind (wpAny_mono one (fun r s' z => ?_) fun _ _ e => e)
  obtain ⟨v, rfl, hq⟩ := z
  exact wpAny_pure hq
theorem bool_own {Q : Value → Shared → Prop} (X : K.In s.heap) (I : PySem.W.InstAt s.heap x ox C od) (hs : PySem.W.findIn K (.ref C) "__bool__" = some (some (.ref f))) (hf : PySem.W.isFn K (.ref f) = true)
    (h : wpAny (model prog w) A.in1.in1 (call (.ref f) [.ref x]) (fun r s₁ => ∃ k, r = Value.bool k ∧ Q r s₁) E s) : wpAny (model prog w) A (call (.type "bool") [.ref x]) Q E s := by
  refine callType_codes (T := "bool") (Bi := Builtin.«object.__init__») (Q₁ := fun r s₁ => ∃ k, r = Value.bool k ∧ Q r s₁) PySem.F.called_bool (PySem.F.typeCall_bool_1 _) PySem.F.entry_object_init ?_ ?_
  · refine codeAny_of_tree ?_
    show wpAny _ A.in1.in1 (do checkBuiltinCall "bool.__new__" ⟨[.type "bool", .ref x], []⟩; again (.builtin "bool.__new__" ⟨[.type "bool", .ref x], []⟩)) _ _ s
    refine wpAny_bind (wpAny_of_eq (PySem.F.newCall_bool_1 _) (wpAny_pure ⟨plainId_quiet (by decide +kernel) _, codeAny_builtin PySem.F.entry_bool_new ?_⟩))
    rw [Around.under_plainId (by decide +kernel) _]
    have tr : wpAny (model prog w) A.in1.in1 (truthy (.ref x)) (fun k s₁ => Q (.bool k) s₁) E s := by
      unfold truthy
      refine wpAny_bind (m := callSpecial? (.ref x) (Str.ofString "__bool__")) (PySem.W.special_fn X I hs (beq_iff_eq.mp hf) (wpAny_mono h (fun r s' hr => ?_) fun _ _ y => y))
      obtain ⟨k, rfl, q⟩ := hr
      exact wpAny_pure q
    obtain ⟨hp, g, d, tk, os⟩ := s
    have f1 := F.conv_sub_bool
    repeat (any_goals (first | assumption | (with_reducible refine wpAny_mono tr (fun k s₁ q => ?_) fun _ _ z => z) | wp_step))
    all_goals first | exact ⟨_, rfl, q⟩ | skip
  · rintro obj s₁ ⟨k, rfl, hq⟩
    exact ⟨rfl, PySem.F.args_object_init_2 _ _, object_init_meets PySem.F.called_bool.init.lookup PySem.F.called_bool.made (by decide) prog w A.in1 _ s₁ ⟨rfl, rfl, hq⟩⟩
end
section
variable {X : Cx} {CX : CXT} {n : Nat} {C g : Addr} {fd : FuncData} {ps : List Str} {sp : Sp} {E : XK}
/-- x != y by the own == -/
def rOwnN (C : Addr) (sp : Sp) (E : XK) : R2 := fun x y H Q => ∃ a dx fs b dy gs, x = .ref a ∧ y = .ref b ∧ H a = some (.ins C dx fs) ∧ H b = some (.ins C dy gs) ∧ sp [x, y] H (fun z H' => ∃ k, z = .bl k ∧ Q (.bl (!k)) H') E
theorem op_neO2 (m : Meth X.K C "__eq__" g) (hm : PySem.W.mroIn X.K C (.type "object") = some true) (hn : PySem.W.findIn X.K (.ref C) "__ne__" = some (some (.builtin "object.__ne__"))) (F : FnOk X.prog X.w X.K X.mg X.base CX n g fd ps sp) (hr : Room (n + 1) X.A) (hb : Binds X.K fd ps []) (hx : Passes CX X E) :
    OpR X (compareOp .NotEq) (rOwnN C sp E) := by
  intro pins s σ H x y v u Q I rx ry h
  obtain ⟨a, dx, fs, b, dy, gs, rfl, rfl, ha, hb', q⟩ := h
  cases (show v = Value.ref a from rx)
  cases (show u = Value.ref b from ry)
  obtain ⟨ox, od, J⟩ := inst_of I ha
  obtain ⟨oy, od', J'⟩ := inst_of I hb'
  have hr1 : Room n X.A.in1 := Room.in1 hr
  show wpAny _ _ (richCompare .NotEq (.ref a) (.ref b)) _ _ s
  refine rc_ne hr1.units0 hr.units0 I.kIn J J' hm hn m.at_ m.fn ?_
  refine wpAny_mono (run_in (us := [.ref a, .ref b]) (ws := [.ref a, .ref b]) F hr1 I.env0.in1 hb hx I (.cons rfl (.cons rfl .nil)) q) (fun w s' z => ?_) fun _ _ x => x
  obtain ⟨z', H', I', rz, k, rfl, qz⟩ := z
  cases (show w = Value.bool k from rz)
  exact ⟨k, rfl, .bl (!k), H', I', rfl, qz⟩
/-- bool(x) -/
def rBoolO (C : Addr) (sp : Sp) (E : XK) : List V → Hp → VK → Prop := fun xs H Q => ∃ a dx fs, xs = [V.ref a] ∧ H a = some (.ins C dx fs) ∧ sp [.ref a] H (fun z H' => ∃ k, z = .bl k ∧ Q (.bl k) H') E
theorem call_boolO (m : Meth X.K C "__bool__" g) (F : FnOk X.prog X.w X.K X.mg X.base CX n g fd ps sp) (hr : Room (n + 2) X.A) (hb : Binds X.K fd ps []) (hx : Passes CX X E) : CallR X (.type "bool") (rBoolO C sp E) := by
  intro pins s σ H xs us Q I r h
  obtain ⟨a, dx, fs, rfl, ha, q⟩ := h
  obtain ⟨u, rfl, ru⟩ := r.one
  cases (show u = Value.ref a from ru)
  obtain ⟨ox, od, J⟩ := inst_of I ha
  have hr2 : Room n X.A.in1.in1 := (show Room (n + 1) X.A.in1 from Room.in1 hr).in1
  refine bool_own I.kIn J m.at_ m.fn (wpAny_mono (run_in (us := [.ref a]) (ws := [.ref a]) F hr2 I.env0.in1.in1 hb hx I (.cons rfl .nil) q) (fun w s' z => ?_) fun _ _ x => x)
  obtain ⟨z', H', I', rz, k, rfl, qz⟩ := z
  cases (show w = Value.bool k from rz)
  exact ⟨k, rfl, .bl k, H', I', rfl, qz⟩
/-- any(xs) of whole numbers -/
def rAnyI (K : PySem.W.Frag) : List V → Hp → VK → Prop := fun vs H Q => ∃ (a : Addr) (ns : List Int), vs = [V.ref a] ∧ SqL K H a (ns.map V.int) ∧ Q (.bl (ns.any fun i => i != 0)) H
theorem vals_ints : ∀ {ns : List Int} {us : List Value}, Vals (ns.map V.int) us → ∀ (i : Nat) (v : Value), us[i]? = some v → ∃ z t, ns[i]? = some z ∧ v = .int z t
  | [], us, h, i, v, hv => by
    rw [List.map_nil] at h
    cases h
    simp at hv
  | z :: ns, us, h, i, v, hv => by
    rw [List.map_cons] at h
    cases h with
    | cons r t =>
      obtain ⟨t', e⟩ := (show ∃ t, _ = Value.int z t from r)
      match i, hv with
      | 0, hv =>
        cases hv
        exact ⟨z, t', rfl, e⟩
      | i + 1, hv => exact vals_ints t i v (by simpa using hv)
theorem any_rangeI : ∀ ns : List Int, (List.range ns.length).any (fun i => ns.getD i 0 != 0) = ns.any fun i => i != 0
  | [] => rfl
  | b :: bs => by
    rw [List.length_cons, List.range_succ_eq_map, List.any_cons, List.any_map, List.any_cons, ← any_rangeI bs]
    all_goals rfl
theorem cr_anyI (hc : X.calm = true) : CallR X (.builtin "any") (rAnyI X.K) := by
  intro pins s σ H vs us Q I r h
  obtain ⟨a, ns, rfl, hs, q⟩ := h
  obtain ⟨its, rv, hl, _⟩ := I.list hs
  rw [Vals.ref1 r]
  refine call_any_walk (iter_any hl.isList fun s₂ e2 st hne => ?_)
  subst e2
  have tr : TruthOf X.prog X.w X.A.in1 (fun i v => its.toArray[i]? = some v) (fun i => ns.getD i 0 != 0) := fun i v s Q E hv hq => by
    obtain ⟨z, t, hz, rfl⟩ := vals_ints rv i v (by simpa using hv)
    have hg : ns.getD i 0 = z := by rw [List.getD_eq_getElem?_getD, hz] <;> rfl
    have hq' : Q (ns.getD i 0 != 0) s := hq
    rw [hg] at hq'
    exact P.truthy_int hq'
  refine ⟨_, _, _, _, _, _, _, rfl, Walks.list (A := X.A.in1) (I.ok.hd hc) _ a hne its.toArray, st, tr, fun h' tk hk => ?_⟩
  refine ⟨.bl _, H, I.kept fun b o eo => hk b o (fun hmem => ?_) (Heap.get?_push_of_some _ eo), ?_, q⟩
  · rcases List.mem_cons.mp hmem with e1 | hmem
    · exact absurd (e1 ▸ Heap.lt_size eo) (Nat.lt_irrefl _)
    · cases hmem
  · show Value.bool _ = Value.bool _
    have hlen := rv.length
    rw [List.length_map] at hlen
    rw [← any_rangeI, List.size_toArray, ← hlen]
end
/-! ### what is never reached -/
section
variable {X : Cx}
theorem ps_dead {st : Stmt} : PS X st (fun _ _ _ => False) := ⟨fun _ _ _ _ _ _ h => h.elim⟩
end
/-! ### a default that is an empty tuple -/
inductive Dfl0 (K : PySem.W.Frag) (r : Addr) : Prop
  | mk {d : Option Addr} {m : Nat} {s : Array (Option Value)} (a : K.lookup r = some ⟨.type "tuple", d, .seq #[] m, s⟩) : Dfl0 K r
theorem Dfl0.sq {K : PySem.W.Frag} {H : Hp} {r : Addr} (h : Dfl0 K r) : SqT K H r [] := by
  obtain ⟨a⟩ := h
  exact .inr ⟨_, _, _, a, rfl, rfl, Nat.zero_le _, .nil⟩
def topS (i : Nat) : Stmt := PySem.Challenge.pw_grainyard_k43_whole_single_sheets_by_try.main.body.getD i (.Pass ⟨0, 0, 0, 0⟩)
abbrev s_common_divisor : Stmt := topS 13
theorem sc_common_divisor : FnScope ["numbers", "found", "number", "rest"] ["numbers"] (defScope s_common_divisor) := ⟨rfl, rfl, rfl, by decide +kernel, rfl, by decide +kernel, by decide +kernel⟩
abbrev s_whole_root : Stmt := topS 15
theorem sc_whole_root : FnScope ["number", "guess"] ["number"] (defScope s_whole_root) := ⟨rfl, rfl, rfl, by decide +kernel, rfl, by decide +kernel, by decide +kernel⟩
abbrev s_is_root : Stmt := topS 16
theorem sc_is_root : FnScope ["number", "whole"] ["number"] (defScope s_is_root) := ⟨rfl, rfl, rfl, by decide +kernel, rfl, by decide +kernel, by decide +kernel⟩
abbrev s_check_root : Stmt := topS 17
theorem sc_check_root : FnScope ["root"] ["root"] (defScope s_check_root) := ⟨rfl, rfl, rfl, by decide +kernel, rfl, by decide +kernel, by decide +kernel⟩
abbrev s_sign : Stmt := topS 18
theorem sc_sign : FnScope ["pair", "root", "worth", "a", "b"] ["pair", "root"] (defScope s_sign) := ⟨rfl, rfl, rfl, by decide +kernel, rfl, by decide +kernel, by decide +kernel⟩
abbrev s_is_length : Stmt := topS 19
theorem sc_is_length : FnScope ["pair", "root"] ["pair", "root"] (defScope s_is_length) := ⟨rfl, rfl, rfl, by decide +kernel, rfl, by decide +kernel, by decide +kernel⟩
abbrev s_added : Stmt := topS 20
theorem sc_added : FnScope ["pairs", "a", "b"] ["pairs"] (defScope s_added) := ⟨rfl, rfl, rfl, by decide +kernel, rfl, by decide +kernel, by decide +kernel⟩
abbrev s_scaled : Stmt := topS 21
theorem sc_scaled : FnScope ["pair", "number", "a", "b"] ["pair", "number"] (defScope s_scaled) := ⟨rfl, rfl, rfl, by decide +kernel, rfl, by decide +kernel, by decide +kernel⟩
abbrev s_upright : Stmt := topS 22
theorem sc_upright : FnScope ["pair", "root", "divisor", "a", "b"] ["pair", "root"] (defScope s_upright) := ⟨rfl, rfl, rfl, by decide +kernel, rfl, by decide +kernel, by decide +kernel⟩
abbrev s_Table_init : Stmt := inClass (topS 24) 0
theorem sc_Table_init : FnScope ["self", "rows", "t00", "t01", "t10", "t11"] ["self", "rows"] (defScope s_Table_init) := ⟨rfl, rfl, rfl, by decide +kernel, rfl, by decide +kernel, by decide +kernel⟩
abbrev s_Table_rows : Stmt := inClass (topS 24) 1
theorem sc_Table_rows : FnScope ["self"] ["self"] (defScope s_Table_rows) := ⟨rfl, rfl, rfl, by decide +kernel, rfl, by decide +kernel, by decide +kernel⟩
abbrev s_Table_marks : Stmt := inClass (topS 24) 3
theorem sc_Table_marks : FnScope ["self", "turning", "t00", "t01", "t10", "t11"] ["self", "turning"] (defScope s_Table_marks) := ⟨rfl, rfl, rfl, by decide +kernel, rfl, by decide +kernel, by decide +kernel⟩
abbrev s_Table_determinant : Stmt := inClass (topS 24) 5
theorem sc_Table_determinant : FnScope ["self", "t00", "t01", "t10", "t11"] ["self"] (defScope s_Table_determinant) := ⟨rfl, rfl, rfl, by decide +kernel, rfl, by decide +kernel, by decide +kernel⟩
abbrev s_Table_add : Stmt := inClass (topS 24) 6
theorem sc_Table_add : FnScope ["self", "other", "upper", "lower", "other_upper", "other_lower"] ["self", "other"] (defScope s_Table_add) := ⟨rfl, rfl, rfl, by decide +kernel, rfl, by decide +kernel, by decide +kernel⟩
abbrev s_Table_sub : Stmt := inClass (topS 24) 7
theorem sc_Table_sub : FnScope ["self", "other"] ["self", "other"] (defScope s_Table_sub) := ⟨rfl, rfl, rfl, by decide +kernel, rfl, by decide +kernel, by decide +kernel⟩
abbrev s_Table_neg : Stmt := inClass (topS 24) 8
theorem sc_Table_neg : FnScope ["self"] ["self"] (defScope s_Table_neg) := ⟨rfl, rfl, rfl, by decide +kernel, rfl, by decide +kernel, by decide +kernel⟩
abbrev s_Table_mul : Stmt := inClass (topS 24) 9
theorem sc_Table_mul : FnScope ["self", "other", "upper", "lower"] ["self", "other"] (defScope s_Table_mul) := ⟨rfl, rfl, rfl, by decide +kernel, rfl, by decide +kernel, by decide +kernel⟩
abbrev s_Table_eq : Stmt := inClass (topS 24) 12
theorem sc_Table_eq : FnScope ["self", "other"] ["self", "other"] (defScope s_Table_eq) := ⟨rfl, rfl, rfl, by decide +kernel, rfl, by decide +kernel, by decide +kernel⟩
abbrev s_Table_bool : Stmt := inClass (topS 24) 13
theorem sc_Table_bool : FnScope ["self", "t00", "t01", "t10", "t11"] ["self"] (defScope s_Table_bool) := ⟨rfl, rfl, rfl, by decide +kernel, rfl, by decide +kernel, by decide +kernel⟩
abbrev s_outer : Stmt := topS 25
theorem sc_outer : FnScope ["one", "other", "a", "b"] ["one", "other"] (defScope s_outer) := ⟨rfl, rfl, rfl, by decide +kernel, rfl, by decide +kernel, by decide +kernel⟩
abbrev s_is_sheet : Stmt := topS 27
theorem sc_is_sheet : FnScope ["sheet", "root", "across", "along"] ["sheet", "root"] (defScope s_is_sheet) := ⟨rfl, rfl, rfl, by decide +kernel, rfl, by decide +kernel, by decide +kernel⟩
abbrev s_turned : Stmt := topS 28
theorem sc_turned : FnScope ["sheet", "across", "along"] ["sheet"] (defScope s_turned) := ⟨rfl, rfl, rfl, by decide +kernel, rfl, by decide +kernel, by decide +kernel⟩
abbrev s_check_rows : Stmt := topS 29
theorem sc_check_rows : FnScope ["rows", "root", "at", "sheet", "count"] ["rows", "root"] (defScope s_check_rows) := ⟨rfl, rfl, rfl, by decide +kernel, rfl, by decide +kernel, by decide +kernel⟩
abbrev s_merged : Stmt := topS 30
theorem sc_merged : FnScope ["rows", "counts", "sheet", "count"] ["rows"] (defScope s_merged) := ⟨rfl, rfl, rfl, by decide +kernel, rfl, by decide +kernel, by decide +kernel⟩
abbrev s_Heap_init : Stmt := inClass (topS 32) 1
theorem sc_Heap_init : FnScope ["self", "root", "rows"] ["self", "root", "rows"] (defScope s_Heap_init) := ⟨rfl, rfl, rfl, by decide +kernel, rfl, by decide +kernel, by decide +kernel⟩
abbrev s_Heap_root : Stmt := inClass (topS 32) 3
theorem sc_Heap_root : FnScope ["self"] ["self"] (defScope s_Heap_root) := ⟨rfl, rfl, rfl, by decide +kernel, rfl, by decide +kernel, by decide +kernel⟩
abbrev s_Heap_rows : Stmt := inClass (topS 32) 6
theorem sc_Heap_rows : FnScope ["self"] ["self"] (defScope s_Heap_rows) := ⟨rfl, rfl, rfl, by decide +kernel, rfl, by decide +kernel, by decide +kernel⟩
abbrev s_Heap_table : Stmt := inClass (topS 32) 8
theorem sc_Heap_table : FnScope ["self", "total", "count", "across", "along"] ["self"] (defScope s_Heap_table) := ⟨rfl, rfl, rfl, by decide +kernel, rfl, by decide +kernel, by decide +kernel⟩
abbrev s_Heap_bool : Stmt := inClass (topS 32) 14
theorem sc_Heap_bool : FnScope ["self"] ["self"] (defScope s_Heap_bool) := ⟨rfl, rfl, rfl, by decide +kernel, rfl, by decide +kernel, by decide +kernel⟩
abbrev s_first_not_zero : Stmt := topS 35
theorem sc_first_not_zero : FnScope ["one", "other"] ["one", "other"] (defScope s_first_not_zero) := ⟨rfl, rfl, rfl, by decide +kernel, rfl, by decide +kernel, by decide +kernel⟩
abbrev s_plain_factors : Stmt := topS 36
theorem sc_plain_factors : FnScope ["table", "t00", "t01", "t10", "t11"] ["table"] (defScope s_plain_factors) := ⟨rfl, rfl, rfl, by decide +kernel, rfl, by decide +kernel, by decide +kernel⟩
abbrev s_turning_factors : Stmt := topS 37
theorem sc_turning_factors : FnScope ["table", "square", "side", "a", "b", "c"] ["table"] (defScope s_turning_factors) := ⟨rfl, rfl, rfl, by decide +kernel, rfl, by decide +kernel, by decide +kernel⟩
abbrev s_single_sides : Stmt := topS 38
theorem sc_single_sides : FnScope ["heap", "turning", "table", "found", "one", "other"] ["heap", "turning"] (defScope s_single_sides) := ⟨rfl, rfl, rfl, by decide +kernel, rfl, by decide +kernel, by decide +kernel⟩
abbrev s_divisor_of : Stmt := topS 39
theorem sc_divisor_of : FnScope ["heap", "turning"] ["heap", "turning"] (defScope s_divisor_of) := ⟨rfl, rfl, rfl, by decide +kernel, rfl, by decide +kernel, by decide +kernel⟩
abbrev s_fewest_sheets : Stmt := topS 40
theorem sc_fewest_sheets : FnScope ["heap", "turning"] ["heap", "turning"] (defScope s_fewest_sheets) := ⟨rfl, rfl, rfl, by decide +kernel, rfl, by decide +kernel, by decide +kernel⟩
abbrev s_divisors : Stmt := topS 41
theorem sc_divisors : FnScope ["number", "found", "small"] ["number"] (defScope s_divisors) := ⟨rfl, rfl, rfl, by decide +kernel, rfl, by decide +kernel, by decide +kernel⟩
abbrev s_single_sheets : Stmt := topS 42
theorem sc_single_sheets : FnScope ["heap", "turning", "sides", "whole", "found", "across", "along", "part", "sheet"] ["heap", "turning"] (defScope s_single_sheets) := ⟨rfl, rfl, rfl, by decide +kernel, rfl, by decide +kernel, by decide +kernel⟩
abbrev s_source : Stmt := topS 44
theorem sc_source : FnScope ["_law_script", "_law_mix", "_law_cell"] ["_law_script"] (defScope s_source) := ⟨rfl, rfl, rfl, by decide +kernel, rfl, by decide +kernel, by decide +kernel⟩
abbrev s_pull : Stmt := topS 45
theorem sc_pull : FnScope ["_law_bag", "_law_size", "_law_mix", "_law_cell", "_law_found"] ["_law_bag", "_law_size"] (defScope s_pull) := ⟨rfl, rfl, rfl, by decide +kernel, rfl, by decide +kernel, by decide +kernel⟩
abbrev s_of : Stmt := topS 46
theorem sc_of : FnScope ["_law_bag", "_law_some"] ["_law_bag", "_law_some"] (defScope s_of) := ⟨rfl, rfl, rfl, by decide +kernel, rfl, by decide +kernel, by decide +kernel⟩
abbrev s_roots : Stmt := topS 47
theorem sc_roots : FnScope ["_law_d"] [] (defScope s_roots) := ⟨rfl, rfl, rfl, by decide +kernel, rfl, by decide +kernel, by decide +kernel⟩
abbrev s_a_root : Stmt := topS 48
theorem sc_a_root : FnScope ["_law_bag"] ["_law_bag"] (defScope s_a_root) := ⟨rfl, rfl, rfl, by decide +kernel, rfl, by decide +kernel, by decide +kernel⟩
abbrev s_lsign : Stmt := topS 49
theorem sc_lsign : FnScope ["_law_pair", "_law_root", "_law_value"] ["_law_pair", "_law_root"] (defScope s_lsign) := ⟨rfl, rfl, rfl, by decide +kernel, rfl, by decide +kernel, by decide +kernel⟩
abbrev s_low_length : Stmt := topS 50
theorem sc_low_length : FnScope ["_law_bag", "_law_root", "_law_pair"] ["_law_bag", "_law_root"] (defScope s_low_length) := ⟨rfl, rfl, rfl, by decide +kernel, rfl, by decide +kernel, by decide +kernel⟩
abbrev s_stock_of : Stmt := topS 51
theorem sc_stock_of : FnScope ["_law_rows", "_law_found", "_law_sheet", "_law_count"] ["_law_rows"] (defScope s_stock_of) := ⟨rfl, rfl, rfl, by decide +kernel, rfl, by decide +kernel, by decide +kernel⟩
abbrev s_listed : Stmt := topS 52
theorem sc_listed : FnScope ["_law_stock", "_law_sheet"] ["_law_stock"] (defScope s_listed) := ⟨rfl, rfl, rfl, by decide +kernel, rfl, by decide +kernel, by decide +kernel⟩
abbrev s_heap_of : Stmt := topS 53
theorem sc_heap_of : FnScope ["_law_root", "_law_stock"] ["_law_root", "_law_stock"] (defScope s_heap_of) := ⟨rfl, rfl, rfl, by decide +kernel, rfl, by decide +kernel, by decide +kernel⟩
abbrev s_four : Stmt := topS 54
theorem sc_four : FnScope ["_law_stock", "_law_found", "_law_count", "_law_a", "_law_b", "_law_c", "_law_e"] ["_law_stock"] (defScope s_four) := ⟨rfl, rfl, rfl, by decide +kernel, rfl, by decide +kernel, by decide +kernel⟩
abbrev s_marks_of : Stmt := topS 55
theorem sc_marks_of : FnScope ["_law_four_here", "_law_turning_z"] ["_law_four_here", "_law_turning_z"] (defScope s_marks_of) := ⟨rfl, rfl, rfl, by decide +kernel, rfl, by decide +kernel, by decide +kernel⟩
abbrev s_sheet_table : Stmt := topS 56
theorem sc_sheet_table : FnScope ["_law_sheet"] ["_law_sheet"] (defScope s_sheet_table) := ⟨rfl, rfl, rfl, by decide +kernel, rfl, by decide +kernel, by decide +kernel⟩
abbrev s_partners : Stmt := topS 57
theorem sc_partners : FnScope ["_law_width", "_law_marks", "_law_root", "_law_turning_z", "_law_other", "_law_found", "_law_c", "_law_e", "_law_some", "_law_a", "_law_b"] ["_law_width", "_law_marks", "_law_root", "_law_turning_z"] (defScope s_partners) := ⟨rfl, rfl, rfl, by decide +kernel, rfl, by decide +kernel, by decide +kernel⟩
abbrev s_law : Stmt := topS 58
theorem sc_law : FnScope ["_law_script", "_law_bag", "_law_turn", "_law_stock", "_law_due", "_law_a", "_law_told", "_law_near", "_law_root", "_law_spins", "_law_one", "_law_two", "_law_heap", "_law_four_here", "_law_marks", "_law_most", "_law_b", "_law_sheet"] ["_law_script"] (defScope s_law) := ⟨rfl, rfl, rfl, by decide +kernel, rfl, by decide +kernel, by decide +kernel⟩
set_option genInjectivity false in
set_option genSizeOf false in
structure Txt (K : PySem.W.Frag) (mg : Str → Option Value) where
  f_common_divisor : Addr
  d_common_divisor : FuncData
  F_common_divisor : Fun K "common_divisor" "common_divisor" s_common_divisor f_common_divisor d_common_divisor
  g_common_divisor : mg "common_divisor" = some (.ref f_common_divisor)
  b_common_divisor : Binds K d_common_divisor ["numbers"] []
  f_whole_root : Addr
  d_whole_root : FuncData
  F_whole_root : Fun K "whole_root" "whole_root" s_whole_root f_whole_root d_whole_root
  g_whole_root : mg "whole_root" = some (.ref f_whole_root)
  b_whole_root : Binds K d_whole_root ["number"] []
  f_is_root : Addr
  d_is_root : FuncData
  F_is_root : Fun K "is_root" "is_root" s_is_root f_is_root d_is_root
  g_is_root : mg "is_root" = some (.ref f_is_root)
  b_is_root : Binds K d_is_root ["number"] []
  f_check_root : Addr
  d_check_root : FuncData
  F_check_root : Fun K "check_root" "check_root" s_check_root f_check_root d_check_root
  g_check_root : mg "check_root" = some (.ref f_check_root)
  b_check_root : Binds K d_check_root ["root"] []
  f_sign : Addr
  d_sign : FuncData
  F_sign : Fun K "sign" "sign" s_sign f_sign d_sign
  g_sign : mg "sign" = some (.ref f_sign)
  b_sign : Binds K d_sign ["pair", "root"] []
  f_is_length : Addr
  d_is_length : FuncData
  F_is_length : Fun K "is_length" "is_length" s_is_length f_is_length d_is_length
  g_is_length : mg "is_length" = some (.ref f_is_length)
  b_is_length : Binds K d_is_length ["pair", "root"] []
  f_added : Addr
  d_added : FuncData
  F_added : Fun K "added" "added" s_added f_added d_added
  g_added : mg "added" = some (.ref f_added)
  f_scaled : Addr
  d_scaled : FuncData
  F_scaled : Fun K "scaled" "scaled" s_scaled f_scaled d_scaled
  g_scaled : mg "scaled" = some (.ref f_scaled)
  b_scaled : Binds K d_scaled ["pair", "number"] []
  f_upright : Addr
  d_upright : FuncData
  F_upright : Fun K "upright" "upright" s_upright f_upright d_upright
  g_upright : mg "upright" = some (.ref f_upright)
  b_upright : Binds K d_upright ["pair", "root"] []
  C_Table : Addr
  cl_Table : Cls K C_Table
  g_Table : mg "Table" = some (.ref C_Table)
  sf_Table : PySem.W.selfFirst K C_Table = true
  nq_Table : PySem.W.noSeq K C_Table = true
  n_Table_cells : NoAttr K C_Table "cells"
  mo_Table : PySem.W.mroIn K C_Table (.type "object") = some true
  ne_Table : PySem.W.findIn K (.ref C_Table) "__ne__" = some (some (.builtin "object.__ne__"))
  ca_Table : PySem.W.findIn K (.ref C_Table) "__class__" = some (some (.builtin "object.__class__"))
  hn : PySem.W.specialIn K (.builtin "object.__class__") "__get__" = some (some (.builtin "getset_descriptor.__get__"))
  ht : PySem.W.takesIn K (.builtin "object.__class__") = some true
  x_Table_rmul : PySem.W.findIn K (.ref C_Table) "__rmul__" = some none
  i_mul : PySem.W.findIn K (.type "int") "__mul__" = some (some (.builtin "int.__mul__"))
  i_rmul : PySem.W.findIn K (.type "int") "__rmul__" = some (some (.builtin "int.__rmul__"))
  is_Table : PySem.W.subIn K (.type "int") (.ref C_Table) = some false
  f_Table_init : Addr
  d_Table_init : FuncData
  r0_Table_init : Addr
  F_Table_init : FunD K "__init__" "Table.__init__" (defArgs s_Table_init) (defBody s_Table_init) (defScope s_Table_init) [.ref r0_Table_init] [] f_Table_init d_Table_init
  b_Table_init : Binds K d_Table_init ["self", "rows"] []
  b0_Table_init : Binds K d_Table_init ["self", "rows"] [.ref r0_Table_init]
  v0_Table_init : Vals [.ref r0_Table_init] [.ref r0_Table_init]
  z0_Table_init : Dflt K r0_Table_init
  M_Table : Mk K C_Table f_Table_init
  f_Table_rows : Addr
  d_Table_rows : FuncData
  F_Table_rows : Fun K "rows" "Table.rows" s_Table_rows f_Table_rows d_Table_rows
  b_Table_rows : Binds K d_Table_rows ["self"] []
  m_Table_rows : Meth K C_Table "rows" f_Table_rows
  f_Table_marks : Addr
  d_Table_marks : FuncData
  F_Table_marks : Fun K "marks" "Table.marks" s_Table_marks f_Table_marks d_Table_marks
  b_Table_marks : Binds K d_Table_marks ["self", "turning"] [.bool false]
  m_Table_marks : Meth K C_Table "marks" f_Table_marks
  f_Table_determinant : Addr
  d_Table_determinant : FuncData
  F_Table_determinant : Fun K "determinant" "Table.determinant" s_Table_determinant f_Table_determinant d_Table_determinant
  b_Table_determinant : Binds K d_Table_determinant ["self"] []
  m_Table_determinant : Meth K C_Table "determinant" f_Table_determinant
  f_Table_add : Addr
  d_Table_add : FuncData
  F_Table_add : Fun K "__add__" "Table.__add__" s_Table_add f_Table_add d_Table_add
  b_Table_add : Binds K d_Table_add ["self", "other"] []
  m_Table_add : Meth K C_Table "__add__" f_Table_add
  f_Table_sub : Addr
  d_Table_sub : FuncData
  F_Table_sub : Fun K "__sub__" "Table.__sub__" s_Table_sub f_Table_sub d_Table_sub
  b_Table_sub : Binds K d_Table_sub ["self", "other"] []
  m_Table_sub : Meth K C_Table "__sub__" f_Table_sub
  f_Table_neg : Addr
  d_Table_neg : FuncData
  F_Table_neg : Fun K "__neg__" "Table.__neg__" s_Table_neg f_Table_neg d_Table_neg
  b_Table_neg : Binds K d_Table_neg ["self"] []
  m_Table_neg : Meth K C_Table "__neg__" f_Table_neg
  f_Table_mul : Addr
  d_Table_mul : FuncData
  F_Table_mul : Fun K "__mul__" "Table.__mul__" s_Table_mul f_Table_mul d_Table_mul
  b_Table_mul : Binds K d_Table_mul ["self", "other"] []
  m_Table_mul : Meth K C_Table "__mul__" f_Table_mul
  f_Table_eq : Addr
  d_Table_eq : FuncData
  F_Table_eq : Fun K "__eq__" "Table.__eq__" s_Table_eq f_Table_eq d_Table_eq
  b_Table_eq : Binds K d_Table_eq ["self", "other"] []
  m_Table_eq : Meth K C_Table "__eq__" f_Table_eq
  f_Table_bool : Addr
  d_Table_bool : FuncData
  F_Table_bool : Fun K "__bool__" "Table.__bool__" s_Table_bool f_Table_bool d_Table_bool
  b_Table_bool : Binds K d_Table_bool ["self"] []
  m_Table_bool : Meth K C_Table "__bool__" f_Table_bool
  f_outer : Addr
  d_outer : FuncData
  F_outer : Fun K "outer" "outer" s_outer f_outer d_outer
  g_outer : mg "outer" = some (.ref f_outer)
  b_outer : Binds K d_outer ["one", "other"] []
  f_is_sheet : Addr
  d_is_sheet : FuncData
  F_is_sheet : Fun K "is_sheet" "is_sheet" s_is_sheet f_is_sheet d_is_sheet
  g_is_sheet : mg "is_sheet" = some (.ref f_is_sheet)
  b_is_sheet : Binds K d_is_sheet ["sheet", "root"] []
  f_turned : Addr
  d_turned : FuncData
  F_turned : Fun K "turned" "turned" s_turned f_turned d_turned
  g_turned : mg "turned" = some (.ref f_turned)
  b_turned : Binds K d_turned ["sheet"] []
  f_check_rows : Addr
  d_check_rows : FuncData
  F_check_rows : Fun K "check_rows" "check_rows" s_check_rows f_check_rows d_check_rows
  g_check_rows : mg "check_rows" = some (.ref f_check_rows)
  b_check_rows : Binds K d_check_rows ["rows", "root"] []
  f_merged : Addr
  d_merged : FuncData
  F_merged : Fun K "merged" "merged" s_merged f_merged d_merged
  g_merged : mg "merged" = some (.ref f_merged)
  b_merged : Binds K d_merged ["rows"] []
  C_Heap : Addr
  cl_Heap : Cls K C_Heap
  g_Heap : mg "Heap" = some (.ref C_Heap)
  sf_Heap : PySem.W.selfFirst K C_Heap = true
  nq_Heap : PySem.W.noSeq K C_Heap = true
  n_Heap_held_root : NoAttr K C_Heap "held_root"
  n_Heap_copies : NoAttr K C_Heap "copies"
  f_Heap_init : Addr
  d_Heap_init : FuncData
  r0_Heap_init : Addr
  F_Heap_init : FunD K "__init__" "Heap.__init__" (defArgs s_Heap_init) (defBody s_Heap_init) (defScope s_Heap_init) [.ref r0_Heap_init] [] f_Heap_init d_Heap_init
  b_Heap_init : Binds K d_Heap_init ["self", "root", "rows"] []
  b0_Heap_init : Binds K d_Heap_init ["self", "root", "rows"] [.ref r0_Heap_init]
  v0_Heap_init : Vals [.ref r0_Heap_init] [.ref r0_Heap_init]
  z0_Heap_init : Dfl0 K r0_Heap_init
  M_Heap : Mk K C_Heap f_Heap_init
  f_Heap_root : Addr
  d_Heap_root : FuncData
  F_Heap_root : Fun K "root" "Heap.root" s_Heap_root f_Heap_root d_Heap_root
  b_Heap_root : Binds K d_Heap_root ["self"] []
  p_Heap_root : Addr
  pr_Heap_root : PropOf K C_Heap "root" p_Heap_root f_Heap_root
  f_Heap_rows : Addr
  d_Heap_rows : FuncData
  F_Heap_rows : Fun K "rows" "Heap.rows" s_Heap_rows f_Heap_rows d_Heap_rows
  b_Heap_rows : Binds K d_Heap_rows ["self"] []
  m_Heap_rows : Meth K C_Heap "rows" f_Heap_rows
  f_Heap_table : Addr
  d_Heap_table : FuncData
  F_Heap_table : Fun K "table" "Heap.table" s_Heap_table f_Heap_table d_Heap_table
  b_Heap_table : Binds K d_Heap_table ["self"] []
  m_Heap_table : Meth K C_Heap "table" f_Heap_table
  f_Heap_bool : Addr
  d_Heap_bool : FuncData
  F_Heap_bool : Fun K "__bool__" "Heap.__bool__" s_Heap_bool f_Heap_bool d_Heap_bool
  b_Heap_bool : Binds K d_Heap_bool ["self"] []
  m_Heap_bool : Meth K C_Heap "__bool__" f_Heap_bool
  f_first_not_zero : Addr
  d_first_not_zero : FuncData
  F_first_not_zero : Fun K "first_not_zero" "first_not_zero" s_first_not_zero f_first_not_zero d_first_not_zero
  g_first_not_zero : mg "first_not_zero" = some (.ref f_first_not_zero)
  b_first_not_zero : Binds K d_first_not_zero ["one", "other"] []
  f_plain_factors : Addr
  d_plain_factors : FuncData
  F_plain_factors : Fun K "plain_factors" "plain_factors" s_plain_factors f_plain_factors d_plain_factors
  g_plain_factors : mg "plain_factors" = some (.ref f_plain_factors)
  b_plain_factors : Binds K d_plain_factors ["table"] []
  f_turning_factors : Addr
  d_turning_factors : FuncData
  F_turning_factors : Fun K "turning_factors" "turning_factors" s_turning_factors f_turning_factors d_turning_factors
  g_turning_factors : mg "turning_factors" = some (.ref f_turning_factors)
  b_turning_factors : Binds K d_turning_factors ["table"] []
  f_single_sides : Addr
  d_single_sides : FuncData
  F_single_sides : Fun K "single_sides" "single_sides" s_single_sides f_single_sides d_single_sides
  g_single_sides : mg "single_sides" = some (.ref f_single_sides)
  b_single_sides : Binds K d_single_sides ["heap", "turning"] []
  f_divisor_of : Addr
  d_divisor_of : FuncData
  F_divisor_of : Fun K "divisor_of" "divisor_of" s_divisor_of f_divisor_of d_divisor_of
  g_divisor_of : mg "divisor_of" = some (.ref f_divisor_of)
  b_divisor_of : Binds K d_divisor_of ["heap", "turning"] []
  f_fewest_sheets : Addr
  d_fewest_sheets : FuncData
  F_fewest_sheets : Fun K "fewest_sheets" "fewest_sheets" s_fewest_sheets f_fewest_sheets d_fewest_sheets
  g_fewest_sheets : mg "fewest_sheets" = some (.ref f_fewest_sheets)
  b_fewest_sheets : Binds K d_fewest_sheets ["heap", "turning"] [.bool false]
  f_divisors : Addr
  d_divisors : FuncData
  F_divisors : Fun K "divisors" "divisors" s_divisors f_divisors d_divisors
  g_divisors : mg "divisors" = some (.ref f_divisors)
  b_divisors : Binds K d_divisors ["number"] []
  f_single_sheets : Addr
  d_single_sheets : FuncData
  F_single_sheets : Fun K "single_sheets" "single_sheets" s_single_sheets f_single_sheets d_single_sheets
  g_single_sheets : mg "single_sheets" = some (.ref f_single_sheets)
  b_single_sheets : Binds K d_single_sheets ["heap", "turning"] [.bool false]
  f_source : Addr
  d_source : FuncData
  F_source : Fun K "_law_source" "_law_source" s_source f_source d_source
  g_source : mg "_law_source" = some (.ref f_source)
  b_source : Binds K d_source ["_law_script"] []
  f_pull : Addr
  d_pull : FuncData
  F_pull : Fun K "_law_pull" "_law_pull" s_pull f_pull d_pull
  g_pull : mg "_law_pull" = some (.ref f_pull)
  b_pull : Binds K d_pull ["_law_bag", "_law_size"] []
  f_of : Addr
  d_of : FuncData
  F_of : Fun K "_law_of" "_law_of" s_of f_of d_of
  g_of : mg "_law_of" = some (.ref f_of)
  b_of : Binds K d_of ["_law_bag", "_law_some"] []
  f_roots : Addr
  d_roots : FuncData
  F_roots : Fun K "_law_roots" "_law_roots" s_roots f_roots d_roots
  g_roots : mg "_law_roots" = some (.ref f_roots)
  b_roots : Binds K d_roots [] []
  f_a_root : Addr
  d_a_root : FuncData
  F_a_root : Fun K "_law_a_root" "_law_a_root" s_a_root f_a_root d_a_root
  g_a_root : mg "_law_a_root" = some (.ref f_a_root)
  b_a_root : Binds K d_a_root ["_law_bag"] []
  f_lsign : Addr
  d_lsign : FuncData
  F_lsign : Fun K "_law_sign" "_law_sign" s_lsign f_lsign d_lsign
  g_lsign : mg "_law_sign" = some (.ref f_lsign)
  b_lsign : Binds K d_lsign ["_law_pair", "_law_root"] []
  f_low_length : Addr
  d_low_length : FuncData
  F_low_length : Fun K "_law_low_length" "_law_low_length" s_low_length f_low_length d_low_length
  g_low_length : mg "_law_low_length" = some (.ref f_low_length)
  b_low_length : Binds K d_low_length ["_law_bag", "_law_root"] []
  f_stock_of : Addr
  d_stock_of : FuncData
  F_stock_of : Fun K "_law_stock_of" "_law_stock_of" s_stock_of f_stock_of d_stock_of
  g_stock_of : mg "_law_stock_of" = some (.ref f_stock_of)
  b_stock_of : Binds K d_stock_of ["_law_rows"] []
  f_listed : Addr
  d_listed : FuncData
  F_listed : Fun K "_law_listed" "_law_listed" s_listed f_listed d_listed
  g_listed : mg "_law_listed" = some (.ref f_listed)
  b_listed : Binds K d_listed ["_law_stock"] []
  f_heap_of : Addr
  d_heap_of : FuncData
  F_heap_of : Fun K "_law_heap_of" "_law_heap_of" s_heap_of f_heap_of d_heap_of
  g_heap_of : mg "_law_heap_of" = some (.ref f_heap_of)
  b_heap_of : Binds K d_heap_of ["_law_root", "_law_stock"] []
  f_four : Addr
  d_four : FuncData
  F_four : Fun K "_law_four" "_law_four" s_four f_four d_four
  g_four : mg "_law_four" = some (.ref f_four)
  b_four : Binds K d_four ["_law_stock"] []
  f_marks_of : Addr
  d_marks_of : FuncData
  F_marks_of : Fun K "_law_marks_of" "_law_marks_of" s_marks_of f_marks_of d_marks_of
  g_marks_of : mg "_law_marks_of" = some (.ref f_marks_of)
  b_marks_of : Binds K d_marks_of ["_law_four_here", "_law_turning_z"] []
  f_sheet_table : Addr
  d_sheet_table : FuncData
  F_sheet_table : Fun K "_law_sheet_table" "_law_sheet_table" s_sheet_table f_sheet_table d_sheet_table
  g_sheet_table : mg "_law_sheet_table" = some (.ref f_sheet_table)
  b_sheet_table : Binds K d_sheet_table ["_law_sheet"] []
  f_partners : Addr
  d_partners : FuncData
  F_partners : Fun K "_law_partners" "_law_partners" s_partners f_partners d_partners
  g_partners : mg "_law_partners" = some (.ref f_partners)
  b_partners : Binds K d_partners ["_law_width", "_law_marks", "_law_root", "_law_turning_z"] []
  n_ValueError : mg "ValueError" = none
  n_LookupError : mg "LookupError" = none
  n_enumerate : mg "enumerate" = none
  n_sorted : mg "sorted" = none
  n_range : mg "range" = none
  n_str : mg "str" = none
  n_abs : mg "abs" = none
  n_sum : mg "sum" = none
  n_any : mg "any" = none
  n_list : mg "list" = none
  n_bool : mg "bool" = none
  n_len : mg "len" = none
  n_set : mg "set" = none
  n_int : mg "int" = none
  n_isinstance : mg "isinstance" = none
  u_MOST_DIVISOR : Value
  g_MOST_DIVISOR : mg "MOST_DIVISOR" = some u_MOST_DIVISOR
  rv_MOST_DIVISOR : RelV (.int (1000000)) u_MOST_DIVISOR
  kb_Table_marks_turning : KBn K d_Table_marks ["self", "turning"] 1 ["turning"] (fun us ws : List Value => [us.getD 0 .none, ws.getD 0 .none]) (fun us ws : List V => [us.getD 0 .non, ws.getD 0 .non])
  kb_single_sheets_turning : KBn K d_single_sheets ["heap", "turning"] 1 ["turning"] (fun us ws : List Value => [us.getD 0 .none, ws.getD 0 .none]) (fun us ws : List V => [us.getD 0 .non, ws.getD 0 .non])
  kb_fewest_sheets_turning : KBn K d_fewest_sheets ["heap", "turning"] 1 ["turning"] (fun us ws : List Value => [us.getD 0 .none, ws.getD 0 .none]) (fun us ws : List V => [us.getD 0 .non, ws.getD 0 .non])
theorem vals_getD : ∀ {zs : List V} {ws : List Value} (_ : Vals zs ws) (i : Nat), RelV (zs.getD i .non) (ws.getD i .none) := by
  intro zs ws h
  induction h with
  | nil => exact fun _ => rfl
  | cons r t ih =>
    intro i
    cases i with
    | zero => exact r
    | succ i => exact ih i
theorem kbn_Table_marks_turning {K : PySem.W.Frag} {f : Addr} {fd : FuncData} (F : Fun K "marks" "Table.marks" s_Table_marks f fd) : KBn K fd ["self", "turning"] 1 ["turning"] (fun us ws : List Value => [us.getD 0 .none, ws.getD 0 .none]) (fun us ws : List V => [us.getD 0 .non, ws.getD 0 .non]) := by
  obtain ⟨o1, o2, v1, v2, v3, a1, v4, v5, s1, rfl, r1, r2⟩ := F.ex
  refine ⟨fun s us ws _ l1 l2 => ?_, fun r1 r2 => .cons (vals_getD r1 0) (.cons (vals_getD r2 0) (.nil))⟩
  match us, ws, l1, l2 with
  | [_], [_], _, _ => exact .of_eq rfl
theorem kbn_single_sheets_turning {K : PySem.W.Frag} {f : Addr} {fd : FuncData} (F : Fun K "single_sheets" "single_sheets" s_single_sheets f fd) : KBn K fd ["heap", "turning"] 1 ["turning"] (fun us ws : List Value => [us.getD 0 .none, ws.getD 0 .none]) (fun us ws : List V => [us.getD 0 .non, ws.getD 0 .non]) := by
  obtain ⟨o1, o2, v1, v2, v3, a1, v4, v5, s1, rfl, r1, r2⟩ := F.ex
  refine ⟨fun s us ws _ l1 l2 => ?_, fun r1 r2 => .cons (vals_getD r1 0) (.cons (vals_getD r2 0) (.nil))⟩
  match us, ws, l1, l2 with
  | [_], [_], _, _ => exact .of_eq rfl
theorem kbn_fewest_sheets_turning {K : PySem.W.Frag} {f : Addr} {fd : FuncData} (F : Fun K "fewest_sheets" "fewest_sheets" s_fewest_sheets f fd) : KBn K fd ["heap", "turning"] 1 ["turning"] (fun us ws : List Value => [us.getD 0 .none, ws.getD 0 .none]) (fun us ws : List V => [us.getD 0 .non, ws.getD 0 .non]) := by
  obtain ⟨o1, o2, v1, v2, v3, a1, v4, v5, s1, rfl, r1, r2⟩ := F.ex
  refine ⟨fun s us ws _ l1 l2 => ?_, fun r1 r2 => .cons (vals_getD r1 0) (.cons (vals_getD r2 0) (.nil))⟩
  match us, ws, l1, l2 with
  | [_], [_], _, _ => exact .of_eq rfl
/-! ### heaps, and the bag that the draws change -/
def Keep (b : Addr) (H H' : Hp) : Prop := ∀ a o, a ≠ b → H a = some o → H' a = some o
theorem Keep.refl {b : Addr} (H : Hp) : Keep b H H := fun _ _ _ e => e
theorem Keep.trans {b : Addr} {H H1 H2 : Hp} (x : Keep b H H1) (y : Keep b H1 H2) : Keep b H H2 := fun a o n e => y a o n (x a o n e)
theorem keep_put {b : Addr} {H : Hp} {o : HO} : Keep b H (upd H b o) := fun a u n e => (upd_ne n).trans e
theorem keep_new {b p : Addr} {H : Hp} {o : HO} (hp : H p = none) : Keep b H (upd H p o) := fun a u _ e => (upd_ne (ne_of_none e hp)).trans e
theorem same_new {p : Addr} {H : Hp} {o : HO} (hp : H p = none) : Same H (upd H p o) := fun a u e => (upd_ne (ne_of_none e hp)).trans e
theorem keep_of {b : Addr} {H H' : Hp} (s : Same H H') : Keep b H H' := fun a o _ e => s a o e
theorem Same.keep {b : Addr} {H H1 H2 : Hp} (s : Same H H1) (k : Keep b H1 H2) (hb : H b = none) : Same H H2 := fun a o e => k a o (ne_of_none e hb) (s a o e)
structure BagAt (H : Hp) (b s : Addr) (ns : List Int) (i j m c : Int) : Prop where
  hb : H b = some (.lst [.ref s, .int i, .int j, .int m, .int c])
  hs : H s = some (.lst (ns.map V.int))
  i0 : 0 ≤ i
  i1 : i ≤ (ns.length : Int)
  m0 : 0 ≤ m
  m1 : m < 2147483399
def Bag (H : Hp) (b sb : Addr) : Prop := ∃ (ns : List Int) (i j m c : Int), BagAt H b sb ns i j m c
theorem BagAt.ne {H : Hp} {b s : Addr} {ns : List Int} {i j m c : Int} (B : BagAt H b s ns i j m c) : s ≠ b := ne_of B.hs B.hb (by
  intro e
  injection e with e
  cases ns with
  | nil => simp at e
  | cons x r => simp at e)
theorem BagAt.put {H : Hp} {b s : Addr} {ns : List Int} {i j m c : Int} (B : BagAt H b s ns i j m c) {i' j' m' c' : Int} (h0 : 0 ≤ i') (h1 : i' ≤ (ns.length : Int)) (h2 : 0 ≤ m') (h3 : m' < 2147483399) :
    BagAt (upd H b (.lst [.ref s, .int i', .int j', .int m', .int c'])) b s ns i' j' m' c' := ⟨upd_same, (upd_ne B.ne).trans B.hs, h0, h1, h2, h3⟩
theorem BagAt.same {H H' : Hp} {b s : Addr} {ns : List Int} {i j m c : Int} (B : BagAt H b s ns i j m c) (e : Same H H') : BagAt H' b s ns i j m c := ⟨e _ _ B.hb, e _ _ B.hs, B.i0, B.i1, B.m0, B.m1⟩
theorem Bag.same {H H' : Hp} {b sb : Addr} (B : Bag H b sb) (e : Same H H') : Bag H' b sb := by
  obtain ⟨ns, i, j, m, c, B⟩ := B
  exact ⟨ns, i, j, m, c, B.same e⟩
theorem Bag.new {H : Hp} {b sb p : Addr} {o : HO} (B : Bag H b sb) (hp : H p = none) : Bag (upd H p o) b sb := B.same (same_new hp)
theorem Bag.ne {H : Hp} {b sb p : Addr} (B : Bag H b sb) (hp : H p = none) : p ≠ b := by
  obtain ⟨ns, i, j, m, c, B⟩ := B
  exact (ne_of_none B.hb hp).symm
theorem Bag.ne2 {H : Hp} {b sb p : Addr} (B : Bag H b sb) (hp : H p = none) : p ≠ sb := by
  obtain ⟨ns, i, j, m, c, B⟩ := B
  exact (ne_of_none B.hs hp).symm
theorem Bag.tup {H : Hp} {b sb p : Addr} {xs : List V} (B : Bag H b sb) (hp : H p = some (.tup xs)) : p ≠ b := by
  obtain ⟨ns, i, j, m, c, B⟩ := B
  exact ne_of hp B.hb (by intro z; cases z)
theorem Bag.put {H : Hp} {b sb l : Addr} {o : HO} (B : Bag H b sb) (h1 : l ≠ b) (h2 : l ≠ sb) : Bag (upd H l o) b sb := by
  obtain ⟨ns, i, j, m, c, B⟩ := B
  exact ⟨ns, i, j, m, c, (upd_ne h1.symm).trans B.hb, (upd_ne h2.symm).trans B.hs, B.i0, B.i1, B.m0, B.m1⟩
theorem Keep.list {K : PySem.W.Frag} {H H' : Hp} {b p : Addr} {xs : List V} (k : Keep b H H') (hp : p ≠ b) (h : H p = some (.lst xs)) : SqL K H' p xs := SqL.of (k _ _ hp h)
theorem at_some {α : Type} {xs : List α} {i : Int} (h0 : 0 ≤ i) (h1 : i < (xs.length : Int)) : ∃ v, xs[i.toNat]? = some v ∧ atI xs i = some v := by
  obtain ⟨n, rfl⟩ := Int.eq_ofNat_of_zero_le h0
  have hl : n < xs.length := by omega
  exact ⟨xs[n], by simp [hl], atI_nat (by simp [hl])⟩
theorem at_ex {ns : List Int} {i : Int} (h0 : 0 ≤ i) (h1 : i < (ns.length : Int)) : ∃ z, atI (ns.map V.int) i = some (.int z) := by
  obtain ⟨n, rfl⟩ := Int.eq_ofNat_of_zero_le h0
  have hl : n < ns.length := by omega
  exact ⟨ns[n], atI_nat (by simp [hl])⟩
/-! ### f(k = v, ..): keywords alone -/
section
variable {X : Cx}
theorem pe_kwOnly {CX : CXT} {k : Nat} {f : Addr} {fd : FuncData} {ps ks : List Str} {sp : Sp} {E : XK} {x : Str} {p pos : Pos} {kws : List Keyword} {tk : TA} {g : List Value → List Value → List Value} {gV : List V → List V → List V}
    (F : FnOk X.prog X.w X.K X.mg X.base CX k f fd ps sp) (hr : Room k X.A) (hg : Gl X x) (hm : X.mg x = some (.ref f))
    (hk : PySem.W.keepIn X.K (.ref f) = true) (hb : KBn X.K fd ps 0 ks g gV) (hx : Passes CX X E) (hkw : PK X kws tk)
    (hall : (backToKw pos (keywordEach kws X.env)).all (·.1.isSome) = true := by rfl)
    (hks : (backToKw pos (keywordEach kws X.env)).filterMap (·.1) = ks := by rfl)
    (hdb : (x == ("__debug__" : Str)) = false := by decide)
    (hpl : ((backTo pos (starEach [] X.env)).any (·.1) || (backToKw pos (keywordEach kws X.env)).any (·.1.isNone)) = false := by rfl) :
    PE X (.Call (.Name x p) [] kws pos) (fun σ H Q => tk σ H fun zs H2 => zs.length = ks.length ∧ sp (gV [] zs) H2 Q E) := by
  refine ⟨fun pins s σ H Q I h => wpAny_Call_Name_kw (ld_glob I hg hm ?_ hdb)⟩
  refine PySem.W.callWith_KW0 (h₀ := X.base) I.ok.mod.kin hk hall ?_ hpl
  refine thn (hkw.run pos pins s σ H _ I h) fun ws s2 ⟨zs, H2, I2, rz, l2, q2⟩ => ⟨I2.kIn, ?_⟩
  rw [hks]
  exact run_fnN (us := []) (vs := []) F hr hb hx I2 .nil rz rfl l2 q2
end
/-! ### dicts whose keys are sheets -/
abbrev Sh := Int × Int × Int × Int
def shK (x : Sh) : NestedKey := .tup [.tup [.num x.1, .num x.2.1], .tup [.num x.2.2.1, .num x.2.2.2]]
theorem shK_inj {x y : Sh} (h : shK x = shK y) : x = y := by
  obtain ⟨a, b, c, e⟩ := x
  obtain ⟨a', b', c', e'⟩ := y
  simp only [shK, NestedKey.tup.injEq, List.cons.injEq, NestedKey.num.injEq, and_true] at h
  obtain ⟨⟨rfl, rfl⟩, rfl, rfl⟩ := h
  rfl
theorem shK_depth (x : Sh) : (shK x).depth ≤ 8 := by
  simp [shK, NestedKey.depth, NestedKey.depthAll]
/-- the sheet x, as a tuple of two tuples at p -/
def ShAt (H : Hp) (p : Addr) (x : Sh) : Prop := ∃ u v : Addr, H p = some (.tup [.ref u, .ref v]) ∧ H u = some (.tup [.int x.1, .int x.2.1]) ∧ H v = some (.tup [.int x.2.2.1, .int x.2.2.2])
theorem ShAt.mono {H H' : Hp} (k : ∀ p xs, H p = some (.tup xs) → H' p = some (.tup xs)) {p : Addr} {x : Sh} (h : ShAt H p x) : ShAt H' p x := by
  obtain ⟨u, v, h1, h2, h3⟩ := h
  exact ⟨u, v, k _ _ h1, k _ _ h2, k _ _ h3⟩
theorem ShAt.same {H H' : Hp} (s : Same H H') {p : Addr} {x : Sh} (h : ShAt H p x) : ShAt H' p x := h.mono fun p xs z => s p _ z
/-- the entries of such a dict, in order: the sheet, where it stands, its number -/
abbrev DEs := List (Sh × Addr × Int)
def DRel (p : Sh × Addr × Int) (q : NestedKey × Addr × Value) : Prop := q.1 = shK p.1 ∧ q.2.1 = p.2.1 ∧ RelV (.int p.2.2) q.2.2
def DsH (P : Program) (w : World) (d : Addr) (es : DEs) (h : Heap) : Prop := (d == sysModules) = false ∧ es.length ≤ sizeLine ∧ ∃ xs : List (NestedKey × Addr × Value), Paired DRel es xs ∧
  ∃ o en ep, h.get? d = some o ∧ o.ExactDict ∧ o.data = .dict en ep ∧ en.toList = xs.map (entryOfKey (nestedKind P w)) ∧ (xs.map (·.1)).Nodup
def DS (P : Program) (w : World) (d : Addr) (es : DEs) : HO := .ext (DsH P w d es)
structure DAt (P : Program) (w : World) (H : Hp) (d : Addr) (es : DEs) : Prop where
  hd : H d = some (DS P w d es)
  ks : ∀ x ∈ es, ShAt H x.2.1 x.1
/-- as it may be read: also while a loop walks it -/
structure DRd (P : Program) (w : World) (H : Hp) (d : Addr) (es : DEs) : Prop where
  hd : Rd H d (DS P w d es)
  ks : ∀ x ∈ es, ShAt H x.2.1 x.1
theorem DAt.rd {P : Program} {w : World} {H : Hp} {d : Addr} {es : DEs} (D : DAt P w H d es) : DRd P w H d es := ⟨.inl D.hd, D.ks⟩
section
variable {P : Program} {w : World} {H : Hp} {h : Heap} {d : Addr} {es : DEs}
theorem DsH.stay {h' : Heap} (z : DsH P w d es h) (k : ∀ o, h.get? d = some o → h'.get? d = some o) : DsH P w d es h' := by
  obtain ⟨z1, z2, xs, r, o, en, ep, ho, z3⟩ := z
  exact ⟨z1, z2, xs, r, o, en, ep, k o ho, z3⟩
theorem ds_obj {H' : Hp} (z : DsH P w d es h) : ObjOk P w H' h d (DS P w d es) := by
  refine ⟨z, ?_, fun h1 h2 z1 k => z1.stay k⟩
  obtain ⟨_, _, _, _, o, _, _, ho, _⟩ := z
  exact ⟨o, ho⟩
theorem ints_at (ok : HOk P w H h) {a : Addr} {x y : Int} (e : H a = some (.tup [.int x, .int y])) : NestedIs h (.tup [.num x, .num y]) (.ref a) := by
  obtain ⟨_, its, r, o, ho, hc, n, hdat⟩ := ok a _ e
  cases r with
  | cons r1 t =>
    cases t with
    | cons r2 t =>
      cases t
      obtain ⟨t1, rfl⟩ := r1
      obtain ⟨t2, rfl⟩ := r2
      exact .tup ho hc hdat (.cons (.int x t1) (.cons (.int y t2) .nil))
theorem sh_key (ok : HOk P w H h) {p : Addr} {x : Sh} (e : ShAt H p x) : (nestedKind P w).is h (shK x) p := by
  obtain ⟨u, v, h1, h2, h3⟩ := e
  obtain ⟨_, its, r, o, ho, hc, n, hdat⟩ := ok p _ h1
  cases r with
  | cons r1 t =>
    cases t with
    | cons r2 t =>
      cases t
      cases r1
      cases r2
      exact ⟨.tup ho hc hdat (.cons (ints_at ok h2) (.cons (ints_at ok h3) .nil)), shK_depth x⟩
theorem Paired.getR {α β : Type} {F : α → β → Prop} : ∀ {l₁ : List α} {l₂ : List β}, Paired F l₁ l₂ → ∀ {b : β}, b ∈ l₂ → ∃ a ∈ l₁, F a b
  | _, _, .nil, _, hb => by cases hb
  | _, _, .cons r t, b, hb => by
    rcases List.mem_cons.mp hb with e | e
    · exact ⟨_, List.mem_cons_self, e ▸ r⟩
    · obtain ⟨a, ha, f⟩ := Paired.getR t e
      exact ⟨a, List.mem_cons_of_mem _ ha, f⟩
theorem ds_of (ok : HOk P w H h) (D : DRd P w H d es) : (d == sysModules) = false ∧ es.length ≤ sizeLine ∧ ∃ xs, Paired DRel es xs ∧ h.DictOfH (nestedKind P w) d xs := by
  obtain ⟨z1, z2, xs, r, o, en, ep, ho, h1, h2, h3, h4⟩ := (D.hd.ok ok).1
  refine ⟨z1, z2, xs, r, o, en, ep, ho, h1, h2, h3, fun y hy => ?_, h4⟩
  obtain ⟨e, he, f1, f2, _⟩ := Paired.getR r hy
  rw [f1, f2]
  exact sh_key ok (D.ks e he)
/-- the number of a sheet -/
def valD (es : DEs) (x : Sh) : Option Int := (es.find? fun e => decide (e.1 = x)).map (·.2.2)
def putD (es : DEs) (x : Sh) (p : Addr) (n : Int) : DEs := if (valD es x).isSome then es.map (fun e => if e.1 = x then (e.1, e.2.1, n) else e) else es ++ [(x, p, n)]
def dropD (es : DEs) (x : Sh) : DEs := es.filter fun e => decide (e.1 ≠ x)
theorem drel_val {xs : List (NestedKey × Addr × Value)} (r : Paired DRel es xs) (x : Sh) : RelO ((valD es x).map V.int) ((atKey xs (shK x)).map (·.2)) := by
  induction r with
  | nil => exact trivial
  | @cons p q l1 l2 h t ih =>
    obtain ⟨h1, h2, h3⟩ := h
    by_cases e : p.1 = x
    · have e2 : q.1 = shK x := by rw [h1, e]
      simp only [valD, atKey, List.find?_cons, e, e2, decide_true, Option.map_some]
      exact h3
    · have e2 : ¬ q.1 = shK x := fun z => e (shK_inj (h1.symm.trans z))
      simpa only [valD, atKey, List.find?_cons, e, e2, decide_false] using ih
theorem drel_map {xs : List (NestedKey × Addr × Value)} (r : Paired DRel es xs) (x : Sh) {n : Int} {v : Value} (rv : RelV (.int n) v) : Paired DRel (es.map fun e => if e.1 = x then (e.1, e.2.1, n) else e) (xs.map (putAt (shK x) v)) := by
  induction r with
  | nil => exact .nil
  | @cons p q l1 l2 h t ih =>
    obtain ⟨h1, h2, h3⟩ := h
    refine .cons ?_ ih
    by_cases e : p.1 = x
    · have e2 : q.1 = shK x := by rw [h1, e]
      show DRel (if p.1 = x then (p.1, p.2.1, n) else p) _
      rw [if_pos e, putAt, if_pos e2]
      exact ⟨h1, h2, rv⟩
    · have e2 : ¬ q.1 = shK x := fun z => e (shK_inj (h1.symm.trans z))
      show DRel (if p.1 = x then (p.1, p.2.1, n) else p) _
      rw [if_neg e, putAt, if_neg e2]
      exact ⟨h1, h2, h3⟩
theorem Paired.snoc {α β : Type} {F : α → β → Prop} {a : α} {b : β} (f : F a b) : ∀ {l₁ : List α} {l₂ : List β}, Paired F l₁ l₂ → Paired F (l₁ ++ [a]) (l₂ ++ [b]) := by
  intro l₁ l₂ h
  induction h with
  | nil => exact .cons f .nil
  | cons r t ih => exact .cons r ih
theorem drel_put {xs : List (NestedKey × Addr × Value)} (r : Paired DRel es xs) (x : Sh) (p : Addr) {n : Int} {v : Value} (rv : RelV (.int n) v) : Paired DRel (putD es x p n) (storedH xs (shK x) p v) := by
  have e := (drel_val r x).isSome_eq
  rw [Option.isSome_map, Option.isSome_map] at e
  unfold putD storedH
  rw [e]
  split
  · exact drel_map r x rv
  · exact Paired.snoc ⟨rfl, rfl, rv⟩ r
theorem drel_drop {xs : List (NestedKey × Addr × Value)} (r : Paired DRel es xs) (x : Sh) : Paired DRel (dropD es x) (withoutH xs (shK x)) := by
  induction r with
  | nil => exact .nil
  | @cons p q l1 l2 h t ih =>
    obtain ⟨h1, h2, h3⟩ := h
    by_cases e : p.1 = x
    · have e2 : q.1 = shK x := by rw [h1, e]
      simpa [dropD, withoutH, List.filter_cons, e, e2] using ih
    · have e2 : ¬ q.1 = shK x := fun z => e (shK_inj (h1.symm.trans z))
      simpa [dropD, withoutH, List.filter_cons, e, e2] using Paired.cons (F := DRel) ⟨h1, h2, h3⟩ ih
theorem putD_len (es : DEs) (x : Sh) (p : Addr) (n : Int) : (putD es x p n).length ≤ es.length + 1 := by
  unfold putD
  split <;> simp
theorem putD_mem {x : Sh} {p : Addr} {n : Int} {y : Sh × Addr × Int} (h : y ∈ putD es x p n) : (y.1 = x ∧ y.2.1 = p) ∨ ∃ z ∈ es, z.1 = y.1 ∧ z.2.1 = y.2.1 := by
  unfold putD at h
  split at h
  · obtain ⟨z, hz, rfl⟩ := List.mem_map.mp h
    refine .inr ⟨z, hz, ?_⟩
    split <;> exact ⟨rfl, rfl⟩
  · rcases List.mem_append.mp h with h | h
    · exact .inr ⟨y, h, rfl, rfl⟩
    · rw [List.mem_singleton.mp h]
      exact .inl ⟨rfl, rfl⟩
theorem dropD_mem {x : Sh} {y : Sh × Addr × Int} (h : y ∈ dropD es x) : y ∈ es := (List.mem_filter.mp h).1
theorem tup_ext {l : Addr} {φ : Heap → Prop} {o : HO} (hl : H l = some (.ext φ)) (p : Addr) (xs : List V) (e : H p = some (.tup xs)) : (upd H l o) p = some (.tup xs) := (upd_ne (ne_of e hl (by intro z; cases z))).trans e
theorem DAt.same {H' : Hp} (D : DAt P w H d es) (s : Same H H') : DAt P w H' d es := ⟨s _ _ D.hd, fun x hx => (D.ks x hx).same s⟩
theorem DAt.put {x : Sh} {p : Addr} {n : Int} (D : DAt P w H d es) (hp : ShAt H p x) : DAt P w (upd H d (DS P w d (putD es x p n))) d (putD es x p n) := by
  refine ⟨upd_same, fun y hy => ?_⟩
  refine ShAt.mono (tup_ext D.hd) ?_
  rcases putD_mem hy with ⟨e1, e2⟩ | ⟨z, hz, e1, e2⟩
  · rw [e1, e2]
    exact hp
  · rw [← e1, ← e2]
    exact D.ks z hz
theorem DAt.drop {x : Sh} (D : DAt P w H d es) : DAt P w (upd H d (DS P w d (dropD es x))) d (dropD es x) := ⟨upd_same, fun y hy => (D.ks y (dropD_mem hy)).mono (tup_ext D.hd)⟩
end
/-! the operations -/
section
variable {X : Cx} {pins : List (Addr × Obj)} {σ : L2.St} {H : Hp} {s : Shared} {d p : Addr} {es : DEs} {x : Sh} {A : Around} {E : Value → Shared → Prop}
theorem ds_getItem {n : Int} {Q : Value → Shared → Prop} (hu : A.units + 9 < cLine) (I : Inv X pins σ H s) (D : DRd X.prog X.w H d es) (hp : ShAt H p x) (hv : valD es x = some n) (q : ∀ t s', Inv X pins σ H s' → Q (.int n t) s') :
    wpAny (model X.prog X.w) A (getItem (.ref d) (.ref p)) Q E s := by
  obtain ⟨_, _, xs, r, dd⟩ := ds_of I.hok D
  have rel := drel_val r x
  rw [hv] at rel
  obtain ⟨w', hw, rw'⟩ := RelO.some_of (v := V.int n) rel
  obtain ⟨y, hy, hy2⟩ := Option.map_eq_some_iff.mp hw
  refine wpAny_getItem_heap (show A.in1.units + 8 < cLine from hu) (sh_key I.hok hp) dd hy ?_
  rw [hy2]
  obtain ⟨t, rfl⟩ := rw'
  exact q t _ (I.tok _)
theorem ds_in {Q : Value → Shared → Prop} (hu : A.units + 9 < cLine) (I : Inv X pins σ H s) (D : DRd X.prog X.w H d es) (hp : ShAt H p x) (q : ∀ s', Inv X pins σ H s' → Q (.bool (valD es x).isSome) s') :
    wpAny (model X.prog X.w) A (compareOp .In (.ref p) (.ref d)) Q E s := by
  obtain ⟨hs, _, xs, r, dd⟩ := ds_of I.hok D
  refine wpAny_in_heap (show A.in1.units + 8 < cLine from hu) (sh_key I.hok hp) hs dd ?_
  have e := (drel_val r x).isSome_eq
  rw [Option.isSome_map, Option.isSome_map] at e
  rw [← e]
  exact q _ (I.tok _)
theorem ds_getOr {n : Int} {r' : Value} {Q : Value → Shared → Prop} (hu : A.units + 9 < cLine) (I : Inv X pins σ H s) (D : DRd X.prog X.w H d es) (hp : ShAt H p x) (rn : RelV (.int n) r') (q : ∀ t s', Inv X pins σ H s' → Q (.int ((valD es x).getD n) t) s') :
    wpAny (model X.prog X.w) A (call (.builtin "dict.get") [.ref d, .ref p, r']) Q E s := by
  obtain ⟨hs, _, xs, r, dd⟩ := ds_of I.hok D
  refine call_meetsIn PySem.F.slot_dict_get dd.typeIs PySem.F.entry_dict_get (PySem.F.args_dict_get_3 _ _ _) (meetsH_dict_get_default (nestedKind X.prog X.w) d p hs r') ⟨show A.in1.units + 8 < cLine from hu, shK x, xs, sh_key I.hok hp, dd, ?_⟩
  have rel := (drel_val r x).getD rn
  have e : ((valD es x).map V.int).getD (.int n) = .int ((valD es x).getD n) := by cases valD es x <;> rfl
  rw [e] at rel
  obtain ⟨t, et⟩ := rel
  rw [et]
  exact q t _ (I.tok _)
theorem ds_setItem {n : Int} {v : Value} {Q : Unit → Shared → Prop} (hu : A.units + 9 < cLine) (I : Inv X pins σ H s) (D : DAt X.prog X.w H d es) (hp : ShAt H p x) (rv : RelV (.int n) v) (hl : es.length < sizeLine)
    (q : ∀ s', Inv X pins σ (upd H d (DS X.prog X.w d (putD es x p n))) s' → Q () s') : wpAny (model X.prog X.w) A (setItem (.ref d) (.ref p) v) Q E s := by
  obtain ⟨hs, hz, xs, r, dd⟩ := ds_of I.hok D.rd
  have hz' : xs.length ≤ sizeLine := by rw [← Paired.length r]; exact hz
  refine wpAny_setItem_heap (hsz := hz') (show A.in1.units + 8 < cLine from hu) (sh_key I.hok hp) dd fun h' dd' hsb => q _ ?_
  obtain ⟨o, en, ep, h1, h2, h3, h4, _, h5⟩ := dd'
  refine d_write I (by rw [D.hd]; exact True.intro) hsb ⟨o, h1⟩ (ds_obj ⟨hs, ?_, _, drel_put r x p rv, o, en, ep, h1, h2, h3, h4, h5⟩)
  have := putD_len es x p n
  omega
theorem ds_del {Q : Unit → Shared → Prop} {n : Int} (hu : A.units + 9 < cLine) (I : Inv X pins σ H s) (D : DAt X.prog X.w H d es) (hp : ShAt H p x) (hv : valD es x = some n)
    (q : ∀ s', Inv X pins σ (upd H d (DS X.prog X.w d (dropD es x))) s' → Q () s') : wpAny (model X.prog X.w) A (delItem (.ref d) (.ref p)) Q E s := by
  obtain ⟨hs, hz, xs, r, dd⟩ := ds_of I.hok D.rd
  have hz' : xs.length ≤ sizeLine := by rw [← Paired.length r]; exact hz
  have rel := drel_val r x
  rw [hv] at rel
  obtain ⟨w', hw, rw'⟩ := RelO.some_of (v := V.int n) rel
  obtain ⟨y, hy, hy2⟩ := Option.map_eq_some_iff.mp hw
  refine wpAny_delItem_heap (hsz := hz') (show A.in1.units + 8 < cLine from hu) (sh_key I.hok hp) hs dd hy fun h' dd' hsb => q _ ?_
  obtain ⟨o, en, ep, h1, h2, h3, h4, _, h5⟩ := dd'
  refine d_write I (by rw [D.hd]; exact True.intro) hsb ⟨o, h1⟩ (ds_obj ⟨hs, ?_, _, drel_drop r x, o, en, ep, h1, h2, h3, h4, h5⟩)
  exact Nat.le_trans (List.length_filter_le _ _) hz
end
/-! as terms -/
section
variable {X : Cx} {pos pos' apos cpos tpos : Pos} {o i e f value : Expr} {td ty tx tv : TE}
theorem pe_dnewS : PE X (.Dict [] [] pos) (fun _ H Q => ∀ p, H p = none → Q (.ref p) (upd H p (DS X.prog X.w p []))) := ⟨fun pins s σ H Q I h => by
  refine wpAny_Dict_empty ⟨.ref s.heap.objs.size, _, I.laid (a := s.heap.objs.size) (o := DS X.prog X.w s.heap.objs.size []) (t' := s.toks) (fun _ _ q => Heap.get?_push_of_some _ q) (Nat.le_refl _) (ds_obj ?_), rfl, h _ (I.hok.fresh (Nat.le_refl _))⟩
  exact ⟨beq_eq_false_iff_ne.mpr (Ne.symm (Nat.ne_of_lt I.big)), Nat.zero_le _, [], .nil, _, #[], 0, Heap.get?_push_size _ rfl, ⟨rfl, rfl, rfl⟩, rfl, rfl, List.nodup_nil⟩⟩
def tSGet (P : Program) (w : World) (td ty : TE) : TE := fun σ H Q => td σ H fun v H1 => ty σ H1 fun y H2 => ∃ d p es x n, v = .ref d ∧ y = .ref p ∧ DRd P w H2 d es ∧ ShAt H2 p x ∧ valD es x = some n ∧ Q (.int n) H2
theorem ds_dict {pins : List (Addr × Obj)} {σ : L2.St} {H : Hp} {s : Shared} {d : Addr} {es : DEs} (I : Inv X pins σ H s) (D : DRd X.prog X.w H d es) : s.TypeIs (.ref d) "dict" ∧ (∀ b, Value.ref d = .ref b → ∃ ob, s.heap.get? b = some ob ∧ ob.dict = none) := by
  obtain ⟨_, _, xs, _, dd⟩ := ds_of I.hok D
  refine ⟨dd.typeIs, fun b z => ?_⟩
  cases z
  obtain ⟨ob, _, _, h1, h2, _⟩ := dd
  exact ⟨ob, h1, h2.2.1⟩
end
/-! ### dicts of sheets: in, d[k], d[k] = v, del d[k], d.get(k, n) -/
section
variable {X : Cx} {pos pos' apos cpos tpos : Pos} {o i e f value : Expr} {td ty tx tv : TE}
def rInDS (P : Program) (w : World) (neg : Bool) : R2 := fun y v H Q => ∃ p d es x, y = .ref p ∧ v = .ref d ∧ DRd P w H d es ∧ ShAt H p x ∧ Q (.bl ((valD es x).isSome != neg)) H
theorem op_inDS (hu : X.A.units + 64 < cLine) : OpR X (compareOp .In) (rInDS X.prog X.w false) := by
  intro pins s σ H y v y' v' Q I ry rv q
  obtain ⟨p, d, es, x, rfl, rfl, D, hp, q⟩ := q
  cases ry
  cases rv
  refine ds_in (by omega) I D hp fun s' I' => ⟨.bl (valD es x).isSome, H, I', rfl, ?_⟩
  rw [show (valD es x).isSome = ((valD es x).isSome != false) by simp]
  exact q
theorem op_notInDS (hu : X.A.units + 64 < cLine) : OpR X (compareOp .NotIn) (rInDS X.prog X.w true) := by
  intro pins s σ H y v y' v' Q I ry rv q
  obtain ⟨p, d, es, x, rfl, rfl, D, hp, q⟩ := q
  cases ry
  cases rv
  obtain ⟨hs, _, xs, r, dd⟩ := ds_of I.hok D
  refine wpAny_notIn_heap (show X.A.in1.units + 8 < cLine from by show X.A.units + 1 + 8 < cLine; omega) (sh_key I.hok hp) hs dd ?_
  have z := (drel_val r x).isSome_eq
  rw [Option.isSome_map, Option.isSome_map] at z
  rw [← z]
  refine ⟨.bl (!(valD es x).isSome), H, I.tok _, rfl, ?_⟩
  rw [show (!(valD es x).isSome) = ((valD es x).isSome != true) by simp]
  exact q
theorem pe_sget (hu : X.A.units + 64 < cLine) (ho : PE X o td) (hi : PE X i ty) (hs : NoSl i) : PE X (.Subscript o i pos) (tSGet X.prog X.w td ty) := by
  refine ⟨fun pins s σ H Q I q => ?_⟩
  refine subD_of PySem.F.slot_dict_getitem.lookup hs (thn (ho.run pins s σ H _ I q) fun u s1 ⟨v, H1, I1, rv, q1⟩ => thn (hi.run pins s1 σ H1 _ I1 q1) fun iv s2 zz => ?_)
  obtain ⟨y, H2, I2, ry, d, p, es, x, n, e1, e2, D, hp, hv, q2⟩ := zz
  subst e1 e2
  cases rv
  cases ry
  exact ⟨(ds_dict I2 D).1, ds_getItem (by omega) I2 D hp hv fun t s3 I3 => ⟨.int n, H2, I3, ⟨t, rfl⟩, q2⟩⟩
def sSPut (P : Program) (w : World) (td ty tv : TE) : TS := fun D σ H => tv σ H fun v H1 => td σ H1 fun v2 H2 => ty σ H2 fun y H3 => ∃ d p es x n, v = .int n ∧ v2 = .ref d ∧ y = .ref p ∧ DAt P w H3 d es ∧ ShAt H3 p x ∧ es.length < sizeLine ∧ D.nx σ (upd H3 d (DS P w d (putD es x p n)))
theorem ps_sput (hu : X.A.units + 64 < cLine) (ho : PE X o td) (hi : PE X i ty) (hv : PE X value tv) (hs : swapsWith value (some (.Subscript o i pos')) pos.line X.env = pure false) : PS X (.Assign [.Subscript o i pos'] value pos) (sSPut X.prog X.w td ty tv) := by
  refine ⟨fun pins s σ H D I q => ?_⟩
  refine wpAny_Assign_Subscript (thn (hv.run pins s σ H _ I q) fun r s1 ⟨v, H1, I1, rv, q1⟩ => thn (ho.run pins s1 σ H1 _ I1 q1) fun u s2 ⟨v2, H2, I2, rv2, q2⟩ => thn (hi.run pins s2 σ H2 _ I2 q2) fun iv s3 zz => ?_) hs
  obtain ⟨y, H3, I3, ry, d, p, es, x, n, e1, e2, e3, DA, hp, hl, q3⟩ := zz
  subst e1 e2 e3
  cases rv2
  cases ry
  exact ds_setItem (by omega) I3 DA hp rv hl fun s4 I4 => ⟨σ, _, I4, q3⟩
def sSDel (P : Program) (w : World) (td ty : TE) : TS := fun D σ H => td σ H fun v2 H2 => ty σ H2 fun y H3 => ∃ d p es x n, v2 = .ref d ∧ y = .ref p ∧ DAt P w H3 d es ∧ ShAt H3 p x ∧ valD es x = some n ∧ D.nx σ (upd H3 d (DS P w d (dropD es x)))
theorem ps_sdel (hu : X.A.units + 64 < cLine) (ho : PE X o td) (hi : PE X i ty) : PS X (.Delete [.Subscript o i tpos] pos) (sSDel X.prog X.w td ty) := by
  refine ⟨fun pins s σ H D I q => ?_⟩
  refine wpAny_Delete (wpAny_deleteEach_cons (wpAny_delete_Subscript (thn (ho.run pins s σ H _ I q) fun u s1 ⟨v2, H1, I1, rv2, q1⟩ => thn (hi.run pins s1 σ H1 _ I1 q1) fun iv s2 zz => ?_)))
  obtain ⟨y, H2, I2, ry, d, p, es, x, n, e2, e3, DA, hp, hv, q2⟩ := zz
  subst e2 e3
  cases rv2
  cases ry
  exact ds_del (by omega) I2 DA hp hv fun s3 I3 => wpAny_deleteEach_nil ⟨σ, _, I3, q2⟩
def sSAug (P : Program) (w : World) (td ty tv : TE) (rd : V → V → Hp → VK → Prop) : TS := fun D σ H => td σ H fun v2 H1 => ty σ H1 fun y H2 => ∃ d p es x n, v2 = .ref d ∧ y = .ref p ∧ DAt P w H2 d es ∧ ShAt H2 p x ∧ valD es x = some n ∧
  tv σ H2 fun y2 H3 => rd (.int n) y2 H3 fun z H4 => ∃ es2 m, z = .int m ∧ DAt P w H4 d es2 ∧ ShAt H4 p x ∧ es2.length < sizeLine ∧ D.nx σ (upd H4 d (DS P w d (putD es2 x p m)))
theorem ps_saug {op : Operator} {rd : V → V → Hp → VK → Prop} (hu : X.A.units + 64 < cLine) (ho : PE X o td) (hi : PE X i ty) (hv : PE X value tv) (hop : InOp X op rd)
    (ha : ∀ ov iv new, augStore i ov iv new = (do holding [new, ov, iv] (setItem ov iv new); release [new, ov, iv] []; pure .next)) : PS X (.AugAssign (.Subscript o i tpos) op value pos) (sSAug X.prog X.w td ty tv rd) := by
  refine ⟨fun pins s σ H D I q => ?_⟩
  refine wpAny_AugAssign_SubscriptAny (thn (ho.run pins s σ H _ I q) fun u s1 ⟨v2, H1, I1, rv2, q1⟩ => thn (hi.run pins s1 σ H1 _ I1 q1) fun iv s2 zz => ?_) ha
  obtain ⟨y, H2, I2, ry, d, p, es, x, n, e2, e3, DA, hp, hval, q2⟩ := zz
  subst e2 e3
  cases rv2
  cases ry
  refine ds_getItem (by omega) I2 DA.rd hp hval fun t s3 I3 => thn (hv.run pins s3 σ H2 _ I3 q2) fun w2 s4 ⟨y2, H3, I4, ry2, q3⟩ => ?_
  refine thn (hop pins s4 σ H3 (.int n) y2 (.int n t) w2 _ I4 ⟨t, rfl⟩ ry2 q3) fun w3 s5 zz => ?_
  obtain ⟨z, H4, I5, rz, es2, m, ez, DA2, hp2, hl, q4⟩ := zz
  subst ez
  exact ds_setItem (by omega) I5 DA2 hp2 rz hl fun s6 I6 => ⟨σ, _, I6, q4⟩
def tSGet2 (P : Program) (w : World) (td ty tx : TE) : TE := fun σ H Q => td σ H fun v H1 => ∃ d es, v = .ref d ∧ DRd P w H1 d es ∧ ty σ H1 fun y H2 => tx σ H2 fun z H3 => ∃ p x n es3, y = .ref p ∧ z = .int n ∧ DRd P w H3 d es3 ∧ ShAt H3 p x ∧ Q (.int ((valD es3 x).getD n)) H3
theorem pe_sget2 (hu : X.A.units + 64 < cLine) (ho : PE X o td) (he : PE X e ty) (hf : PE X f tx) (m : M2 X o "get" apos e f cpos) : PE X (.Call (.Attribute o "get" apos) [e, f] [] cpos) (tSGet2 X.prog X.w td ty tx) := by
  refine ⟨fun pins s σ H Q I q => ?_⟩
  refine wpAny_Call_method m.base m.few m.line PySem.F.plainAttrs_dict PySem.F.slot_dict_get PySem.F.type_dict_get (thn (ho.run pins s σ H _ I q) fun u s1 zz => ?_)
  obtain ⟨v, H1, I1, rv, d, es, ev, DA, q1⟩ := zz
  subst ev
  cases rv
  obtain ⟨t1, t2⟩ := ds_dict I1 DA
  refine ⟨t1, t2, ?_⟩
  rw [m.trees]
  refine Calls.callWith_builtin rfl (Calls.evalArgs_plain (Calls.spliced_cons (thn (he.run pins s1 σ H1 _ I1 q1) fun iv s2 ⟨y, H2, I2, ry, q2⟩ => ?_)))
  refine Calls.spliced_cons (thn (hf.run pins s2 σ H2 _ I2 q2) fun fv s3 ⟨z, H3, I3, rz, p, x, n, es3, ey, ez, DA3, hp, q3⟩ => Calls.spliced_nil ?_)
  subst ey ez
  cases ry
  exact ds_getOr (by omega) I3 DA3 hp rz fun t s4 I4 => ⟨.int _, H3, I4, ⟨t, rfl⟩, q3⟩
end
/-! ### many new objects at once -/
def addAll (H : Hp) : List (Addr × HO) → Hp
  | [] => H
  | z :: zs => addAll (upd H z.1 z.2) zs
theorem addAll_other {a : Addr} : ∀ {zs : List (Addr × HO)} {H : Hp}, (∀ z ∈ zs, z.1 ≠ a) → addAll H zs a = H a
  | [], _, _ => rfl
  | z :: zs, H, h => by
    show addAll (upd H z.1 z.2) zs a = H a
    rw [addAll_other fun y hy => h y (List.mem_cons_of_mem _ hy), upd_ne (Ne.symm (h z List.mem_cons_self))]
theorem addAll_at {a : Addr} {o : HO} : ∀ {zs : List (Addr × HO)} {H : Hp}, (zs.map (·.1)).Nodup → (a, o) ∈ zs → addAll H zs a = some o
  | [], _, _, h => by cases h
  | z :: zs, H, n, h => by
    rw [List.map_cons, List.nodup_cons] at n
    show addAll (upd H z.1 z.2) zs a = some o
    rcases List.mem_cons.mp h with e | e
    · rw [← e, addAll_other fun y hy z' => n.1 (List.mem_map.mpr ⟨y, hy, by rw [z', ← e]⟩), upd_same]
    · exact addAll_at n.2 e
theorem addAll_mem {a : Addr} {o : HO} : ∀ {zs : List (Addr × HO)} {H : Hp}, addAll H zs a = some o → (a, o) ∈ zs ∨ H a = some o
  | [], _, h => .inr h
  | z :: zs, H, h => by
    rcases addAll_mem (zs := zs) (H := upd H z.1 z.2) h with e | e
    · exact .inl (List.mem_cons_of_mem _ e)
    · by_cases ha : a = z.1
      · subst ha
        rw [upd_same] at e
        cases e
        exact .inl List.mem_cons_self
      · rw [upd_ne ha] at e
        exact .inr e
theorem addAll_same {zs : List (Addr × HO)} {H : Hp} (n : ∀ z ∈ zs, H z.1 = none) : Same H (addAll H zs) := fun a o e => (addAll_other fun z hz => (ne_of_none e (n z hz)).symm).trans e
section
variable {X : Cx} {pins : List (Addr × Obj)} {σ : L2.St} {H : Hp} {s : Shared}
theorem Inv.lays {h' : Heap} {t' : Nat} {zs : List (Addr × HO)} (I : Inv X pins σ H s) (k : ∀ b u, s.heap.get? b = some u → h'.get? b = some u) (hp : ∀ z ∈ zs, s.heap.objs.size ≤ z.1)
    (new : ∀ z ∈ zs, ObjOk X.prog X.w (addAll H zs) h' z.1 z.2) : Inv X pins σ (addAll H zs) { s with heap := h', toks := t' } := by
  have hn : ∀ z ∈ zs, H z.1 = none := fun z hz => I.hok.fresh (hp z hz)
  have sm := addAll_same hn
  refine I.call (ch := []) (g' := s.gens) (d' := s.drawn) ⟨fun b u q _ _ _ => k b u q, fun b u q _ _ _ => ⟨u.slots, k b u q⟩, fun b u q n _ => ?_, fun b u q _ => ⟨u, k b u q⟩, fun b xs q => sm _ _ q, fun b u v q => sm _ _ q, fun b ps q => ⟨#[], by rw [sm _ _ q]; simp⟩⟩ (fun b o q => ?_) I.bare (fun _ z => nomatch z)
  · rw [addAll_other fun z hz e => ?_]
    · exact n
    · have y := hp z hz
      rw [e] at y
      exact absurd (Nat.lt_of_lt_of_le (Heap.lt_size q) y) (Nat.lt_irrefl _)
  · rcases addAll_mem q with z | z
    · exact new _ z
    · exact (I.hok b o z).stay (fun c v _ y => k c v y) (fun c y => sm _ _ y) fun c xs y => sm _ _ y
end
/-! ### dicts of sheets: items, keys, values as lists; sorted -/
theorem Paired.getL {α β : Type} {F : α → β → Prop} : ∀ {l₁ : List α} {l₂ : List β}, Paired F l₁ l₂ → ∀ {j : Nat} {a : α}, l₁[j]? = some a → ∃ b, l₂[j]? = some b ∧ F a b := by
  intro l₁ l₂ h
  induction h with
  | nil =>
    intro j a h
    simp at h
  | cons r t ih =>
    intro j a h
    cases j with
    | zero =>
      cases h
      exact ⟨_, rfl, r⟩
    | succ j => exact ih (j := j) (by simpa using h)
theorem Paired.byIx {α β : Type} {F : α → β → Prop} : ∀ {l₁ : List α} {l₂ : List β}, l₁.length = l₂.length → (∀ (j : Nat) (a : α) (b : β), l₁[j]? = some a → l₂[j]? = some b → F a b) → Paired F l₁ l₂
  | [], [], _, _ => .nil
  | a :: l₁, b :: l₂, h, f => .cons (f 0 a b rfl rfl) (Paired.byIx (by simpa using h) fun j x y h1 h2 => f (j + 1) x y (by simpa using h1) (by simpa using h2))
  | [], _ :: _, h, _ => by simp at h
  | _ :: _, [], h, _ => by simp at h
section
variable {P : Program} {w : World} {es : DEs}
theorem ds_ent {xs : List (NestedKey × Addr × Value)} {en : Array DictEntry} (he : en.toList = xs.map (entryOfKey (nestedKind P w))) (r : Paired DRel es xs) {j : Nat} {e : Sh × Addr × Int} (h : es[j]? = some e) :
    ∃ hs v, en[j]? = some ⟨hs, .ref e.2.1, v⟩ ∧ RelV (.int e.2.2) v := by
  obtain ⟨y, hy, h1, h2, h3⟩ := Paired.getL r h
  refine ⟨(nestedKind P w).hash y.1, y.2.2, ?_, h3⟩
  rw [entry_at he j, hy, ← h2]
  rfl
theorem ds_size {xs : List (NestedKey × Addr × Value)} {en : Array DictEntry} (he : en.toList = xs.map (entryOfKey (nestedKind P w))) (r : Paired DRel es xs) : en.size = es.length := (size_of_entries he).trans (Paired.length r).symm
end
section
variable {X : Cx}
def rItemsDS (P : Program) (w : World) : V → List V → Hp → VK → Prop := fun x xs H Q => ∃ d es, x = .ref d ∧ xs = [] ∧ DAt P w H d es ∧ ∀ p, H p = none → Q (.ref p) (upd H p (DX.itemsO p d))
theorem mt_itemsDS : MtR X "dict.items" (rItemsDS X.prog X.w) := by
  intro pins s σ H x xs v us Q I rx rxs q
  obtain ⟨d, es, rfl, rfl, D, q⟩ := q
  cases rx
  cases rxs
  obtain ⟨hs, _, ys, r, o, en, ep, ho, hx, hdat, _⟩ := (I.hok d _ D.hd).1
  refine DT.callItems (es := en) (ep := ep) hs ⟨o, ho, hx, hdat⟩ ?_
  exact ⟨.ref s.heap.objs.size, upd H s.heap.objs.size (DX.itemsO s.heap.objs.size d), I.laid (t' := s.toks) (fun b u z => Heap.get?_push_of_some _ z) (Nat.le_refl _) (DX.itemsO_ok (Heap.get?_push_size _ rfl)), rfl, q _ (I.hok.fresh (Nat.le_refl _))⟩
/-- rows: a list of tuples of a sheet and its number -/
def RowsAt (H : Hp) (as : List Addr) (es : DEs) : Prop := Paired (fun a (e : Sh × Addr × Int) => H a = some (.tup [.ref e.2.1, .int e.2.2])) as es
theorem RowsAt.mono {H H' : Hp} {as : List Addr} {es : DEs} (h : RowsAt H as es) (k : ∀ p xs, H p = some (.tup xs) → H' p = some (.tup xs)) : RowsAt H' as es := Paired.mapP h fun a e z => k _ _ z
def rListItems (P : Program) (w : World) : List V → Hp → VK → Prop := fun vs H Q => ∃ p d es, vs = [.ref p] ∧ H p = some (DX.itemsO p d) ∧ DAt P w H d es ∧
  ∀ l as H', H l = none → Same H H' → H' l = some (.lst (as.map V.ref)) → RowsAt H' as es → Q (.ref l) H'
theorem call_list_itemsDS (hc : X.calm = true) : CallR X (.type "list") (rListItems X.prog X.w) := by
  intro pins s σ H vs us Q I r q
  obtain ⟨p, d, es, rfl, hp, D, q⟩ := q
  obtain ⟨u, rfl, rx⟩ := r.one
  cases rx
  obtain ⟨hs, hz, ys, rel, o, en, ep, ho, hx, hdat, he, _⟩ := (I.hok d _ D.hd).1
  have view : s.heap.IsItemsView p d := (I.hok p _ hp).1
  have hsz := ds_size he rel
  refine PySem.W.dil_call (es := en) (ep := ep) (I.ok.hd hc) view ⟨o, ho, hx, hdat⟩ (by omega) fun h' tk acc c as hk hS hl hG hacc => ?_
  have hal : as.length = es.length := by omega
  have ab : ∀ a ∈ as, s.heap.objs.size < a := hG.above
  have nd : as.Nodup := hG.rise.imp fun h => Nat.ne_of_lt h
  have hin : ∀ z ∈ (s.heap.objs.size, HO.lst (as.map V.ref)) :: (as.zip es).map (fun z => (z.1, HO.tup [.ref z.2.2.1, .int z.2.2.2])), s.heap.objs.size ≤ z.1 := by
    intro z hz
    rcases List.mem_cons.mp hz with e | e
    · rw [e]
      exact Nat.le_refl _
    · obtain ⟨y, hy, rfl⟩ := List.mem_map.mp e
      exact Nat.le_of_lt (ab _ (List.of_mem_zip hy).1)
  have hm : ((as.zip es).map (fun z : Addr × Sh × Addr × Int => (z.1, HO.tup [.ref z.2.2.1, .int z.2.2.2]))).map (·.1) = as := by
    rw [List.map_map]
    show (as.zip es).map (fun z => z.1) = as
    exact List.map_fst_zip (by omega)
  have hnd : (((s.heap.objs.size, HO.lst (as.map V.ref)) :: (as.zip es).map (fun z => (z.1, HO.tup [.ref z.2.2.1, .int z.2.2.2]))).map (·.1)).Nodup := by
    rw [List.map_cons, hm, List.nodup_cons]
    exact ⟨fun z => Nat.lt_irrefl _ (ab _ z), nd⟩
  have J := Inv.lays (t' := tk) I hk hin fun z hz => by
    rcases List.mem_cons.mp hz with e | e
    · rw [e]
      refine ⟨by rw [List.length_map]; omega, acc.toList, c, ?_, by rw [Array.toArray_toList]; exact hS⟩
      rw [hacc]
      exact vals_refs as
    · obtain ⟨y, hy, rfl⟩ := List.mem_map.mp e
      obtain ⟨j, hj⟩ := List.mem_iff_getElem?.mp hy
      rw [List.getElem?_zip_eq_some] at hj
      obtain ⟨hlt, hpair⟩ := hG.pairs j _ hj.1
      obtain ⟨hsh, v, hv, rv⟩ := ds_ent he rel hj.2
      have e1 : en[j] = ⟨hsh, .ref y.2.2.1, v⟩ := by
        rw [Array.getElem?_eq_getElem hlt] at hv
        exact Option.some.inj hv
      rw [e1] at hpair
      exact ⟨by show 2 ≤ sizeLine; decide, [.ref y.2.2.1, v], .cons rfl (.cons rv .nil), _, hpair, rfl, _, rfl⟩
  have fr := fun z hz => I.hok.fresh (hin z hz)
  refine ⟨.ref s.heap.objs.size, _, J, rfl, q _ as _ (I.hok.fresh (Nat.le_refl _)) (addAll_same fr) (addAll_at hnd List.mem_cons_self) ?_⟩
  refine Paired.byIx hal fun j a e h1 h2 => addAll_at hnd (List.mem_cons_of_mem _ (List.mem_map.mpr ⟨(a, e), ?_, rfl⟩))
  exact List.mem_of_getElem? (List.getElem?_zip_eq_some.mpr ⟨h1, h2⟩)
theorem refs_by {ys : List (NestedKey × Addr × Value)} {en : Array DictEntry} {es : DEs} {acc : Array Value} (he : en.toList = ys.map (entryOfKey (nestedKind X.prog X.w))) (rel : Paired DRel es ys)
    (hl : acc.size = en.size) (hv : ∀ (j : Nat) (v : Value), acc[j]? = some v → ∃ e : DictEntry, en[j]? = some e ∧ v = e.key) : acc.toList = (es.map fun e => e.2.1).map Value.ref := by
  have hs := ds_size he rel
  apply List.ext_getElem?
  intro j
  rw [List.getElem?_map, List.getElem?_map, Array.getElem?_toList]
  cases hj : acc[j]? with
  | none =>
    have : acc.size ≤ j := by simpa using hj
    rw [List.getElem?_eq_none (by omega)]
    rfl
  | some v =>
    obtain ⟨e, h1, rfl⟩ := hv j v hj
    have : j < acc.size := by
      rcases Nat.lt_or_ge j acc.size with z | z
      · exact z
      · rw [Array.getElem?_eq_none z] at hj
        cases hj
    obtain ⟨e2, h2⟩ : ∃ e2, es[j]? = some e2 := ⟨es[j]'(by omega), List.getElem?_eq_getElem (by omega)⟩
    obtain ⟨hsh, v, h3, _⟩ := ds_ent he rel h2
    rw [h1] at h3
    rw [h2, Option.some.inj h3]
    rfl
/-- list(d) -/
def rListKeys (P : Program) (w : World) : List V → Hp → VK → Prop := fun vs H Q => ∃ d es, vs = [.ref d] ∧ DAt P w H d es ∧ ∀ p, H p = none → Q (.ref p) (upd H p (.lst (es.map fun e => V.ref e.2.1)))
theorem call_list_DS (hc : X.calm = true) : CallR X (.type "list") (rListKeys X.prog X.w) := by
  intro pins s σ H vs us Q I r q
  obtain ⟨d, es, rfl, D, q⟩ := q
  obtain ⟨u, rfl, rx⟩ := r.one
  cases rx
  obtain ⟨hs, hz, ys, rel, o, en, ep, ho, hx, hdat, he, _⟩ := (I.hok d _ D.hd).1
  have hsz := ds_size he rel
  refine PySem.W.kdl_call (kdl_raw hs hx hdat) (I.ok.hd hc) ho (by omega) fun h' tk acc c kp e it => ?_
  have ea := refs_by (X := X) he rel it.1 fun j v hv => it.2 j v hv
  refine ⟨.ref s.heap.objs.size, _, I.laid (t' := tk) (o := .lst (es.map fun e => V.ref e.2.1)) kp (Nat.le_refl _) ?_, rfl, q _ (I.hok.fresh (Nat.le_refl _))⟩
  refine ⟨by rw [List.length_map]; exact hz, acc.toList, c, ?_, by rw [Array.toArray_toList]; exact e⟩
  rw [ea, show (es.map fun e => V.ref e.2.1) = (es.map fun e => e.2.1).map V.ref by rw [List.map_map]; rfl]
  exact vals_refs _
end
/-! the order of sheets -/
def encS (x : Sh) : PyData := .tuple [.tuple [.int x.1, .int x.2.1], .tuple [.int x.2.2.1, .int x.2.2.2]]
def ltS (x y : Sh) : Prop := x.1 < y.1 ∨ (x.1 = y.1 ∧ (x.2.1 < y.2.1 ∨ (x.2.1 = y.2.1 ∧ (x.2.2.1 < y.2.2.1 ∨ (x.2.2.1 = y.2.2.1 ∧ x.2.2.2 < y.2.2.2)))))
instance (x y : Sh) : Decidable (ltS x y) := by unfold ltS; infer_instance
def leS (x y : Sh) : Bool := !decide (ltS y x)
theorem lt_encS (x y : Sh) : PySem.W.dataLt (encS x) (encS y) = decide (ltS x y) := by
  unfold encS
  rw [PySem.W.dataLt_pair (by simp [PySem.W.alike, PySem.W.alikeAll]) (by simp [PySem.W.alike, PySem.W.alikeAll]), PySem.W.dataLt_ii, PySem.W.dataLt_ii]
  simp only [PyData.eqv, PyData.eqvAll, Bool.and_true, Bool.and_eq_true, beq_iff_eq]
  obtain ⟨a, b, c, e⟩ := x
  obtain ⟨a', b', c', e'⟩ := y
  dsimp only
  rw [Bool.eq_iff_iff, decide_eq_true_iff]
  unfold ltS
  dsimp only
  by_cases h1 : a = a' ∧ b = b'
  · rw [if_pos h1]
    by_cases h2 : c = c' ∧ e = e'
    · rw [if_pos h2]
      constructor
      · intro z
        cases z
      · omega
    · rw [if_neg h2, decide_eq_true_iff]
      omega
  · rw [if_neg h1, decide_eq_true_iff]
    omega
theorem le_encS {β : Type} (f : β → Sh) : PySem.W.dataLe false (fun b => encS (f b)) = fun a b => leS (f a) (f b) := by
  funext a b
  show (!PySem.W.dataLt (encS (f b)) (encS (f a))) = _
  rw [lt_encS]
  rfl
theorem lx_tr {a b c : Int} {p q r : Prop} (f : p → q → r) (h1 : a < b ∨ (a = b ∧ p)) (h2 : b < c ∨ (b = c ∧ q)) : a < c ∨ (a = c ∧ r) := by
  rcases h1 with h1 | ⟨rfl, h1⟩
  · rcases h2 with h2 | ⟨rfl, h2⟩
    · exact .inl (Int.lt_trans h1 h2)
    · exact .inl h1
  · rcases h2 with h2 | ⟨rfl, h2⟩
    · exact .inl h2
    · exact .inr ⟨rfl, f h1 h2⟩
theorem lx_tri (a b : Int) {p q e : Prop} (h : p ∨ e ∨ q) : (a < b ∨ (a = b ∧ p)) ∨ (a = b ∧ e) ∨ (b < a ∨ (b = a ∧ q)) := by
  rcases Int.lt_trichotomy a b with l | rfl | l
  · exact .inl (.inl l)
  · rcases h with h | h | h
    · exact .inl (.inr ⟨rfl, h⟩)
    · exact .inr (.inl ⟨rfl, h⟩)
    · exact .inr (.inr (.inr ⟨rfl, h⟩))
  · exact .inr (.inr (.inl l))
theorem ltS_go {x y z : Sh} (h1 : ltS x y) (h2 : ltS y z) : ltS x z := lx_tr (lx_tr (lx_tr Int.lt_trans)) h1 h2
theorem ltS_tri (x y : Sh) : ltS x y ∨ x = y ∨ ltS y x := by
  rcases lx_tri x.1 y.1 (lx_tri x.2.1 y.2.1 (lx_tri x.2.2.1 y.2.2.1 (Int.lt_trichotomy x.2.2.2 y.2.2.2))) with h | ⟨h1, h2, h3, h4⟩ | h
  · exact .inl h
  · exact .inr (.inl (Prod.ext h1 (Prod.ext h2 (Prod.ext h3 h4))))
  · exact .inr (.inr h)
theorem leS_iff {x y : Sh} : leS x y = true ↔ ¬ ltS y x := by
  unfold leS
  rw [Bool.not_eq_true', decide_eq_false_iff_not]
theorem leS_trans (x y z : Sh) (h1 : leS x y = true) (h2 : leS y z = true) : leS x z = true := by
  rw [leS_iff] at h1 h2 ⊢
  intro h
  rcases ltS_tri x y with k | rfl | k
  · exact h2 (ltS_go h k)
  · exact h2 h
  · exact h1 k
theorem leS_antisymm {x y : Sh} (h1 : leS x y = true) (h2 : leS y x = true) : x = y := by
  rw [leS_iff] at h1 h2
  rcases ltS_tri x y with k | e | k
  · exact absurd k h2
  · exact e
  · exact absurd k h1
theorem leS_total (x y : Sh) : (leS x y || leS y x) = true := by
  rw [Bool.or_eq_true, leS_iff, leS_iff]
  by_cases k : ltS y x
  · refine .inr fun h => ?_
    have a := ltS_go h k
    unfold ltS at a
    omega
  · exact .inl k
section
variable {X : Cx}
theorem sh_reads {P : Program} {w : World} {H : Hp} {h : Heap} (ok : HOk P w H h) {p : Addr} {x : Sh} (e : ShAt H p x) : Reads h (.ref p) (encS x) [] := by
  have two : ∀ {a : Addr} {y z : Int}, H a = some (.tup [.int y, .int z]) → Reads h (.ref a) (.tuple [.int y, .int z]) [] := by
    intro a y z e
    obtain ⟨_, its, r, o, ho, hc, n, hdat⟩ := ok a _ e
    cases r with
    | cons r1 t =>
      cases t with
      | cons r2 t =>
        cases t
        obtain ⟨t1, rfl⟩ := r1
        obtain ⟨t2, rfl⟩ := r2
        exact Reads.tuple ho hc hdat (.cons (as := []) (bs := []) (.int y t1) (.cons (as := []) (bs := []) (.int z t2) .nil))
  obtain ⟨u, v, h1, h2, h3⟩ := e
  obtain ⟨_, its, r, o, ho, hc, n, hdat⟩ := ok p _ h1
  cases r with
  | cons r1 t =>
    cases t with
    | cons r2 t =>
      cases t
      cases r1
      cases r2
      exact Reads.tuple ho hc hdat (.cons (as := []) (bs := []) (two h2) (.cons (as := []) (bs := []) (two h3) .nil))
theorem each_refs {β : Type} {f : β → Addr} : ∀ {vs : List Value} {bs : List β}, PySem.W.EachIs (fun v b => v = Value.ref (f b)) vs bs → vs = bs.map fun b => Value.ref (f b) := by
  intro vs bs h
  induction h with
  | nil => rfl
  | cons h t ih => rw [List.map_cons, ← ih, h]
theorem each_of {β : Type} {F : Value → β → Prop} {f : β → Addr} : ∀ {bs : List β}, (∀ b ∈ bs, F (.ref (f b)) b) → PySem.W.EachIs F (bs.map fun b => Value.ref (f b)) bs
  | [], _ => .nil
  | b :: bs, h => .cons (h b List.mem_cons_self) (each_of fun c hc => h c (List.mem_cons_of_mem _ hc))
/-- what sorting gives, behind the gathering of the items -/
theorem sort_tail {pins : List (Addr × Obj)} {σ : L2.St} {H : Hp} {s : Shared} {Q : VK} (hu : X.A.units + 64 < cLine) (I : Inv X pins σ H s) {bs : List (Sh × Addr)} (hz : bs.length ≤ sizeLine) (hk : ∀ b ∈ bs, ShAt H b.2 b.1)
    (q : ∀ p, H p = none → Q (.ref p) (upd H p (.lst ((bs.mergeSort fun a b => leS a.1 b.1).map fun b => V.ref b.2)))) {h' : Heap} {tk : Nat} (hk' : ∀ b u, s.heap.get? b = some u → h'.get? b = some u) :
    wpAny (model X.prog X.w) X.A.in1 (call (.builtin "list.sort") [.ref h'.objs.size]) (fun _ s' => EP X pins σ Q (.ref h'.objs.size) s') X.xe { s with heap := h'.push (PyProof.Rows.seqObj "list" (bs.map fun b => Value.ref b.2).toArray 0), toks := tk } := by
  have I1 : Inv X pins σ H { s with heap := h', toks := tk } := I.kept hk'
  have hoL : (h'.push (PyProof.Rows.seqObj "list" (bs.map fun b => Value.ref b.2).toArray 0)).get? h'.objs.size = some (PyProof.Rows.seqObj "list" (bs.map fun b => Value.ref b.2).toArray 0) := Heap.get?_push_size _ rfl
  refine PySem.W.list_sort_data (enc := fun b : Sh × Addr => encS b.1) (R := fun v b => v = Value.ref b.2) hoL (each_of fun b hb => rfl) (each_of fun b hb => ⟨[], ?_, by simp⟩) (PySem.W.AllAlike.of fun _ _ => by simp [PySem.W.alike, PySem.W.alikeAll, encS]) (PySem.W.Sortable.tuples fun _ => ⟨_, _, rfl⟩) hz (fun b _ => ?_) fun out hlen eo => ?_
  · exact PyProof.Rows.Reads.keeps (fun c u e => Heap.get?_push_of_some _ e) (sh_reads I1.hok (hk b hb))
  · have : (encS b.1).depth = 2 := by simp [encS, PyData.depth, PyData.depthAll]
    show X.A.units + 1 + 1 + _ < cLine
    omega
  · rw [le_encS (fun b : Sh × Addr => b.1)] at eo
    have eo := each_refs eo
    obtain ⟨e', he'⟩ := PyProof.Rows.sortedHeap_at (vs := bs.map fun b => Value.ref b.2) (out := out.toArray) hoL
    refine ⟨.ref h'.objs.size, _, I1.laid (t' := tk) (o := .lst ((bs.mergeSort fun a b => leS a.1 b.1).map fun b => V.ref b.2)) (fun b u e => ?_) (Nat.le_refl _) ⟨?_, out, e', ?_, he'⟩, rfl, q _ (I1.hok.fresh (Nat.le_refl _))⟩
    · have hb : b < h'.objs.size := Heap.lt_size e
      rw [PyProof.Rows.sortedHeap_old (Nat.ne_of_lt hb) (by rw [Heap.size_push]; exact Nat.lt_succ_of_lt hb)]
      exact Heap.get?_push_of_some _ e
    · rw [List.length_map, List.length_mergeSort]
      exact hz
    · rw [eo, show ((bs.mergeSort fun a b => leS a.1 b.1).map fun b => V.ref b.2) = ((bs.mergeSort fun a b => leS a.1 b.1).map (·.2)).map V.ref by rw [List.map_map]; rfl, show ((bs.mergeSort fun a b => leS a.1 b.1).map fun b => Value.ref b.2) = ((bs.mergeSort fun a b => leS a.1 b.1).map (·.2)).map Value.ref by rw [List.map_map]; rfl]
      exact vals_refs _
/-- sorted(d) -/
def rSortedDS (P : Program) (w : World) : List V → Hp → VK → Prop := fun vs H Q => ∃ d es, vs = [.ref d] ∧ DAt P w H d es ∧ ∀ p, H p = none → Q (.ref p) (upd H p (.lst (((es.map fun e => (e.1, e.2.1)).mergeSort fun a b => leS a.1 b.1).map fun b => V.ref b.2)))
theorem cr_sortedDS (hc : X.calm = true) (hu : X.A.units + 64 < cLine) : CallR X (.builtin "sorted") (rSortedDS X.prog X.w) := by
  intro pins s σ H vs us Q I r q
  obtain ⟨d, es, rfl, D, q⟩ := q
  obtain ⟨u, rfl, rx⟩ := r.one
  cases rx
  obtain ⟨hs, hz, ys, rel, o, en, ep, ho, hx, hdat, he, _⟩ := (I.hok d _ D.hd).1
  have hsz := ds_size he rel
  refine Calls.call_function_entry PyProof.Rows.kind_sorted PyProof.Rows.plain_sorted PyProof.Rows.entry_sorted (PyProof.Rows.args_sorted1 _) ?_
  unfold Builtin.«sorted»
  refine wpAny_bind (m := checkCount "sorted" 1 1 _) (wpAny_pure ?_)
  refine wpAny_bind (PySem.W.kdu_collect (A := X.A.in1) (kdl_raw hs hx hdat) (I.ok.hd hc) ho (by omega) fun h' tk acc kp it => ?_)
  have ea := refs_by (X := X) he rel it.1 fun j v hv => it.2 j v hv
  have eb : acc.toList = (es.map fun e => (e.1, e.2.1)).map fun b => Value.ref b.2 := by rw [ea, List.map_map, List.map_map]; rfl
  refine wpAny_bind (wpAny_newList ?_ (by rw [ea, List.length_map, List.length_map]; exact hz))
  rw [eb]
  refine wpAny_bind (wpAny_holding (wpAny_mono (sort_tail hu I (bs := es.map fun e => (e.1, e.2.1)) (by rw [List.length_map]; exact hz) (fun b hb => ?_) q (tk := tk) kp) (fun v s' z => wpAny_pure ⟨_, rfl, z⟩) fun _ _ z => z))
  obtain ⟨e, he2, rfl⟩ := List.mem_map.mp hb
  exact D.ks e he2
end
/-! ### {sheet: number for .. in ..}
The course (block, loop, turn) is that of the library's rule for dicts of plain keys, HandS.DictComp; the statement is for dicts of sheets, without tests, and the turn is a lemma of its own. -/
section
variable {X : Cx} {pins : List (Addr × Obj)} {σ : L2.St} {H : Hp} {s : Shared} {d p : Addr} {es : DEs} {x : Sh} {E : Value → Shared → Prop}
theorem ds_dictSet {n : Int} {v : Value} {Q : Unit → Shared → Prop} (hu : X.A.units + 64 < cLine) (I : Inv X pins σ H s) (D : DAt X.prog X.w H d es) (hp : ShAt H p x) (rv : RelV (.int n) v) (hl : es.length < sizeLine)
    (q : ∀ s', Inv X pins σ (upd H d (DS X.prog X.w d (putD es x p n))) s' → Q () s') : wpAny (model X.prog X.w) X.A (dictSet d (.ref p) v) Q E s := by
  obtain ⟨hs, hz, ys, r, dd⟩ := ds_of I.hok D.rd
  have room : (nestedKind X.prog X.w).room X.A := by
    show X.A.units + 8 < cLine
    omega
  refine wpAny_dictSet_heap (hsz := by rw [← Paired.length r]; exact hz) room (sh_key I.hok hp) dd fun h' dd' sb => q _ ?_
  obtain ⟨o, en, ep, k1, k2, k3, k4, _, k5⟩ := dd'
  have few := putD_len es x p n
  exact d_write I (by rw [D.hd]; exact True.intro) sb ⟨o, k1⟩ (ds_obj ⟨hs, by omega, _, drel_put r x p rv, o, en, ep, k1, k2, k3, k4, k5⟩)
end
/-- what one turn is asked: the target, the key, the value, then the dict with it -/
def TurnS (P : Program) (w : World) (g : TG) (tk tv : TE) (vs : List Nat) (σ : L2.St) (D : Addr) (N : Hp → Prop) (x : V) (H : Hp) : Prop :=
  g x (wipe σ vs) H fun τ G => wipe τ vs = wipe σ vs ∧ tk τ G fun y G1 => tv τ G1 fun z G2 => ∃ p k n es, y = .ref p ∧ z = .int n ∧ DAt P w G2 D es ∧ ShAt G2 p k ∧ es.length < sizeLine ∧ N (upd G2 D (DS P w D (putD es k p n)))
def tDcS (P : Program) (w : World) (wi : TI) (g : TG) (tk tv : TE) (vs : List Nat) : TE := fun σ H Q => wi σ H fun J G => ∀ D, G D = none → ∃ W : Nat → Nat → Hp → Prop, (∃ m, W 0 m (upd G D (DS P w D []))) ∧
  ∀ i m G1, W i m G1 → (J.stop i G1 ∧ Q (.ref D) G1) ∨ (J.go i G1 ∧ ∀ x G2, J.yld i G1 x G2 → TurnS P w g tk tv vs σ D (fun G3 => ∃ m', m' < m ∧ W (i + 1) m' G3) x G2)
/-- the iterators of a block, where nothing else is tracked at them -/
def Idle (Y : Cx) (fp : List Addr) : Prop := ∀ {τ : L2.St} {G : Hp} {s : Shared}, Inv Y [] τ G s → (∀ b ∈ fp, G b = none) → ∀ b ∈ fp, FpOk Y [] G b
section
variable {Y : Cx} {tg kx vx : Expr} {g : TG} {tk tv : TE} {J : It} {fp : List Addr} {it D : Addr} {tn : Nat → Heap → Prop} {vs : List Nat} {σ : L2.St} {N : Hp → Prop}
/-- a turn's end: the state of the next one -/
def Next (Y : Cx) (fp : List Addr) (tn : Nat → Heap → Prop) (τ : L2.St) (j : Nat) (N : Hp → Prop) (s : Shared) : Prop := ∃ G, Inv Y [] τ G s ∧ tn j s.heap ∧ (∀ b ∈ fp, G b = none) ∧ N G
theorem turn_ends {j : Nat} {h0 : Heap} {τ : L2.St} {G : Hp} {s : Shared} (T : Turn Y.prog Y.w Y.K tg J fp it tn) (st : tn j h0) (I : Inv Y ([] ++ pinsAt fp h0) τ G s) (hw : wipe τ vs = wipe σ vs) (n : N G) : Next Y fp tn (wipe σ vs) j N s := by
  have held : ∀ b ∈ fp, ∀ o, h0.get? b = some o → s.heap.get? b = some o ∧ G b = none := by
    intro b hb o e
    have z := I.pin (b, o) (List.mem_append_right _ (List.mem_append_right _ (mem_pinsAt hb e)))
    exact ⟨z.1, z.2.1⟩
  have len : (wipe σ vs).length = τ.length := by
    rw [← hw]
    exact wipe_length τ vs
  refine ⟨G, I.unpinned.weak len fun k v e => ?_, T.keep _ _ _ st fun b hb o e => (held b hb o e).1, fun b hb => ?_, n⟩
  · rw [← hw] at e
    exact (wipe_some e).1
  · obtain ⟨o, e, _⟩ := T.obj _ _ st b hb
    exact (held b hb o e).2
theorem turn_goes {i : Nat} {G : Hp} {s : Shared} (T : Turn Y.prog Y.w Y.K tg J fp it tn) (hc : Y.calm = true) (hu : Y.A.units + 64 < cLine) (hx : Y.xe = fun _ _ => False) (idle : Idle Y fp) (pg : PG Y tg g) (pk : PE Y kx tk) (pv : PE Y vx tv)
    (I : Inv Y [] (wipe σ vs) G s) (st : tn i s.heap) (nf : ∀ b ∈ fp, G b = none) (go : J.go i G) (turn : ∀ x G2, J.yld i G x G2 → TurnS Y.prog Y.w g tk tv vs σ D N x G2) :
    wpAny (model Y.prog Y.w) Y.A (pyNext (.ref it)) (fun r s1 => ∃ u, r = some u ∧ wpAny (model Y.prog Y.w) Y.A (letOwnedTupleGo tg (.ref it) u) (fun _ s2 => wpAny (model Y.prog Y.w) Y.A (assign tg Y.env u) (fun _ s3 =>
      wpAny (model Y.prog Y.w) Y.A (eval kx Y.env) (fun a s4 => wpAny (model Y.prog Y.w) Y.A (eval vx Y.env) (fun b s5 => wpAny (model Y.prog Y.w) Y.A (dictSet D a b) (fun _ s6 => Next Y fp tn (wipe σ vs) (i + 1) N s6) Y.xe s5) Y.xe s4) Y.xe s3) Y.xe s2) Y.xe s1) Y.xe s := by
  refine thn (T.item Y rfl rfl rfl hc i [] s _ G Y.xe I (idle I nf) st go) fun r s1 ⟨u, hr, h1⟩ => ⟨u, hr, thn h1 fun _ s2 zz => ?_⟩
  obtain ⟨x, G2, I2, ru, yl, st2, nf2⟩ := zz
  have I2p := I2.pinned (idle I2 nf2) (T.obj _ _ st2)
  refine thn (pg.run _ s2 _ G2 x u _ I2p ru (turn x G2 yl)) fun _ s3 ⟨τ, G3, I3, hw, q3⟩ => ?_
  refine thn (pk.run _ s3 τ G3 _ I3 q3) fun a s4 ⟨y, G4, I4, ry, q4⟩ => thn (pv.run _ s4 τ G4 _ I4 q4) fun b s5 zz => ?_
  obtain ⟨z, G5, I5, rz, p, k, n, es, ey, ez, DA, hp, hl, q5⟩ := zz
  subst ey ez
  cases ry
  exact ds_dictSet hu I5 DA hp rz hl fun s6 I6 => turn_ends T st2 I6 hw q5
end
section
variable {X : Cx}
theorem blk_idle {s0 : Shared} {G0 : Hp} {scope : Scope} {ce : Env} {fp : List Addr} : Idle (X.blk s0 G0 scope ce fp) fp := by
  intro τ G s I nf b hb
  have own := I.ok.exf b hb
  exact ⟨nf b hb, own.1, I.ok.exfs b hb, .inl hb, fun y c e => own.2 y c e, fun q hq => by cases hq⟩
theorem pe_dcS {kx vx tg iter : Expr} {scope : Scope} {own : List (Str × Nat)} {pos : Pos} {wi : TI} {g : TG} {tk tv : TE} (hc : X.calm = true) (hu : X.A.units + 64 < cLine) (hN : X.N.Nodup) (hi : PI X tg iter wi) (ok : BlkOk X.N X.env.scope scope own)
    (hg : ∀ (s : Shared) (G : Hp) (C : Addr) (cl : List (Str × Addr)) (fp : List Addr), PG (X.blk s G scope (compEnvC scope cl C X.env) fp) tg g) (hk : ∀ (s : Shared) (G : Hp) (C : Addr) (cl : List (Str × Addr)) (fp : List Addr), PE (X.blk s G scope (compEnvC scope cl C X.env) fp) kx tk)
    (hv : ∀ (s : Shared) (G : Hp) (C : Addr) (cl : List (Str × Addr)) (fp : List Addr), PE (X.blk s G scope (compEnvC scope cl C X.env) fp) vx tv) (hf : ∀ y, foldedSetIterable iter X.env y = pure y := by intro _; rfl) :
    PE X (.DictComp kx vx [⟨tg, iter, [], 0⟩] scope pos) (tDcS X.prog X.w wi g tk tv (own.map (·.2))) := by
  refine ⟨fun pins s σ H Q I h => ?_⟩
  rw [arm_eval_DictComp]
  have cells : ∀ y ∈ scope.names, y.2 = .free → ∃ c, X.env.cells.lookup y.1 = some c := fun y hy e => (ok.free y hy e).elim (fun z => I.ok.has _ (.inl z)) fun z => I.ok.has _ (.inr z)
  refine wpAny_comprehension_free (use := none) rfl hf (closure_ok cells) ok.kind (fun y hy e => (ok.uniq y hy).trans (congrArg some e)) (thn (hi.run pins s σ H _ I h) fun _ s1 h1 => thn h1 fun _ s2 h2 => ?_)
  obtain ⟨it, fp, tn, J, G, rfl, I2, T, st, fpo, q⟩ := h2
  refine wpAny_newObj_type (newEnv_comp ?_)
  -- the new dict, tracked
  obtain ⟨W, ⟨m0, w0⟩, turn⟩ := q s2.heap.objs.size (I2.hok.fresh (Nat.le_refl _))
  have I3 : Inv X pins σ (upd G s2.heap.objs.size (DS X.prog X.w s2.heap.objs.size [])) { s2 with heap := s2.heap.push { cls := .type "dict", data := .dict #[] } } := by
    refine I2.laid (t' := s2.toks) (fun _ _ e => Heap.get?_push_of_some _ e) (Nat.le_refl _) (ds_obj ⟨?_, Nat.zero_le _, [], .nil, _, #[], 0, Heap.get?_push_size _ rfl, ⟨rfl, rfl, rfl⟩, rfl, rfl, List.nodup_nil⟩)
    exact beq_eq_false_iff_ne.mpr (Nat.ne_of_gt I2.big)
  have low : ∀ b ∈ fp, b < s2.heap.objs.size := fun b hb => let ⟨_, e, _⟩ := T.obj _ _ st b hb; Heap.lt_size e
  have st3 : tn 0 (s2.heap.push { cls := .type "dict", data := .dict #[] }) := T.keep _ _ _ st fun _ _ _ e => Heap.get?_push_of_some _ e
  generalize hD : s2.heap.objs.size = D at I3 w0 turn low ⊢
  have fp3 : ∀ b ∈ fp, FpOk X pins (upd G D (DS X.prog X.w D [])) b := fun b hb => ⟨(upd_ne (Nat.ne_of_lt (low b hb))).trans (fpo b hb).1, (fpo b hb).2⟩
  generalize upd G D (DS X.prog X.w D []) = G3 at I3 w0 fp3
  have big : D < (s2.heap.push { cls := .type "dict", data := .dict #[] }).objs.size := by
    rw [Heap.size_push, hD]
    exact Nat.lt_succ_self _
  generalize hs3 : ({ s2 with heap := s2.heap.push { cls := .type "dict", data := .dict #[] } } : Shared) = s3 at I3 ⊢
  have st3 : tn 0 s3.heap := by rw [← hs3]; exact st3
  have big : D < s3.heap.objs.size := by rw [← hs3]; exact big
  have I4 := block_start I3 ok hN fun b hb => ⟨fp3 b hb, Nat.lt_trans (low b hb) big⟩
  have pg := hg s3 G3 s3.heap.objs.size (cellsFrom (s3.heap.objs.size + 1) scope.names (cloFrom X.env.cells scope.names [])) fp
  have pk := hk s3 G3 s3.heap.objs.size (cellsFrom (s3.heap.objs.size + 1) scope.names (cloFrom X.env.cells scope.names [])) fp
  have pv := hv s3 G3 s3.heap.objs.size (cellsFrom (s3.heap.objs.size + 1) scope.names (cloFrom X.env.cells scope.names [])) fp
  have st4 : tn 0 (pushCells (s3.heap.push { cls := .type "dict", data := .dict #[] }) scope.names) := T.keep _ _ _ st3 fun _ _ _ e => pushCells_keeps _ _ _ _ (Heap.get?_push_of_some _ e)
  have locs : (compEnvC scope (cellsFrom (s3.heap.objs.size + 1) scope.names (cloFrom X.env.cells scope.names [])) s3.heap.objs.size X.env).locals = s3.heap.objs.size := rfl
  show codeAny (model X.prog X.w) X.A (.compStart _ 0 (.ref it) (.ref D) (compEnvC scope (cellsFrom (s3.heap.objs.size + 1) scope.names (cloFrom X.env.cells scope.names [])) s3.heap.objs.size X.env)) (compPost (model X.prog X.w) X.A X.xe none (EP X pins σ Q) (.ref D) s3.heap.objs.size) _
  generalize compEnvC scope (cellsFrom (s3.heap.objs.size + 1) scope.names (cloFrom X.env.cells scope.names [])) s3.heap.objs.size X.env = ce at I4 pg pk pv locs ⊢
  -- the loop
  have goes : codeAny (model X.prog X.w) X.A (.compLoop (.DictComp kx vx [⟨tg, iter, [], 0⟩] scope pos) 0 (.ref it) (.ref D) ce) (compPost (model X.prog X.w) X.A X.xe none (EP X pins σ Q) (.ref D) s3.heap.objs.size) { s3 with heap := pushCells (s3.heap.push { cls := .type "dict", data := .dict #[] }) scope.names } := by
    refine compLoop_anyD (fun n s' => ∃ i, Next (X.blk s3 G3 scope ce fp) fp tn (wipe σ (own.map (·.2))) i (W i n) s') ?_ m0 ⟨0, G3, I4, st4, fun b hb => (fp3 b hb).1, w0⟩
    rintro n s5 ⟨i, G5, I5, st5, nf5, w5⟩
    rcases turn i n G5 w5 with ⟨stop, fin⟩ | ⟨go, step⟩
    · refine thnF (T.done (X.blk s3 G3 scope ce fp) rfl rfl rfl hc i [] s5 _ G5 (fun _ _ => False) I5 (blk_idle I5 nf5) st5 stop) fun r s6 ⟨hr, I6⟩ => ?_
      subst hr
      have back : Inv X pins σ G5 s6 := I3.call' (ch := fp) I6.os I6.base I6.hok I6.bare fun b hb => by
        obtain ⟨_, f1, _, f3, f4, f5⟩ := fp3 b hb
        exact ⟨f3, f1, f4, f5⟩
      have free : G5 s3.heap.objs.size = none := by
        rw [← locs]
        exact I6.free
      obtain ⟨mm, ns, _⟩ := I6.loc
      have ns : s6.heap.Ns s3.heap.objs.size mm := by
        rw [← locs]
        exact ns
      obtain ⟨f0, f1, _, f3, f4, f5⟩ := I3.fpOk (H' := G5) (Nat.le_refl _) free
      exact ⟨mm, ns, fun h' sb => ⟨.ref D, G5, back.turned (t' := s6.toks) (fun b o hb e => (sb.2 b hb).trans e) f0 f1 f3 f4 f5, rfl, fin⟩⟩
    · refine thnF (turn_goes (Y := X.blk s3 G3 scope ce fp) (N := fun G => ∃ m', m' < n ∧ W (i + 1) m' G) T hc hu rfl blk_idle pg pk pv I5 st5 nf5 go step) fun r s6 ⟨u, hr, h6⟩ => ?_
      subst hr
      refine thnF h6 fun _ s7 h7 => thnF h7 fun _ s8 h8 => ?_
      refine wpAny_pure ?_
      rw [if_pos rfl]
      refine thnF h8 fun a s9 h9 => thnF h9 fun b s10 h10 => thnF h10 fun _ s11 ⟨G', I', st', nf', m', hm, w'⟩ => ⟨m', hm, i + 1, G', I', st', nf', w'⟩
  exact codeAny_compStart_dict goes (T.self X.A 0 _ _ _ st4 goes)
end
/-! ### entries: what is put, sums, the sorted ones -/
def keysD (es : DEs) : List Sh := es.map (·.1)
theorem valD_cons (e : Sh × Addr × Int) (es : DEs) (y : Sh) : valD (e :: es) y = if e.1 = y then some e.2.2 else valD es y := by
  unfold valD
  by_cases h : e.1 = y
  · simp [List.find?_cons, h]
  · simp [List.find?_cons, h]
theorem valD_none {es : DEs} {y : Sh} : valD es y = none ↔ y ∉ keysD es := by
  induction es with
  | nil => simp [valD, keysD]
  | cons e es ih =>
    rw [valD_cons]
    show _ ↔ y ∉ e.1 :: keysD es
    rw [List.mem_cons, not_or, ← ih]
    by_cases h : e.1 = y
    · simp [h]
    · rw [if_neg h]
      exact ⟨fun z => ⟨fun q => h q.symm, z⟩, fun z => z.2⟩
theorem valD_mem {es : DEs} (n : (keysD es).Nodup) : ∀ {e : Sh × Addr × Int}, e ∈ es → valD es e.1 = some e.2.2 := by
  induction es with
  | nil => intro e h; cases h
  | cons f es ih =>
    intro e h
    have n' : f.1 ∉ keysD es ∧ (keysD es).Nodup := List.nodup_cons.mp n
    rw [valD_cons]
    rcases List.mem_cons.mp h with rfl | h
    · rw [if_pos rfl]
    · rw [if_neg fun z => n'.1 (by rw [z]; exact List.mem_map.mpr ⟨e, h, rfl⟩)]
      exact ih n'.2 h
theorem valD_some {es : DEs} {y : Sh} {n : Int} (h : valD es y = some n) : ∃ e ∈ es, e.1 = y ∧ e.2.2 = n := by
  induction es with
  | nil => cases h
  | cons e es ih =>
    rw [valD_cons] at h
    by_cases z : e.1 = y
    · rw [if_pos z] at h
      exact ⟨e, List.mem_cons_self, z, Option.some.inj h⟩
    · rw [if_neg z] at h
      obtain ⟨f, hf, r⟩ := ih h
      exact ⟨f, List.mem_cons_of_mem _ hf, r⟩
theorem keysD_put (es : DEs) (x : Sh) (p : Addr) (n : Int) : keysD (putD es x p n) = if (valD es x).isSome then keysD es else keysD es ++ [x] := by
  unfold putD
  split
  · unfold keysD
    rw [List.map_map]
    refine List.map_congr_left fun e _ => ?_
    show (if e.1 = x then (e.1, e.2.1, n) else e).1 = e.1
    split <;> rfl
  · unfold keysD
    rw [List.map_append]
    rfl
theorem put_nodup {es : DEs} (h : (keysD es).Nodup) (x : Sh) (p : Addr) (n : Int) : (keysD (putD es x p n)).Nodup := by
  rw [keysD_put]
  cases e : valD es x with
  | some v => exact h
  | none =>
    have := valD_none.mp e
    show (keysD es ++ [x]).Nodup
    rw [List.nodup_append]
    refine ⟨h, by simp, fun a ha b hb => ?_⟩
    rw [List.mem_singleton.mp hb]
    intro z
    rw [z] at ha
    exact this ha
theorem valD_repl (x y : Sh) (n : Int) : ∀ es : DEs, valD (es.map fun e => if e.1 = x then (e.1, e.2.1, n) else e) y = if y = x then (valD es x).map (fun _ => n) else valD es y
  | [] => by simp [valD]
  | e :: es => by
    rw [List.map_cons, valD_cons, valD_repl x y n es, valD_cons, valD_cons]
    by_cases h1 : e.1 = x
    · by_cases h2 : y = x
      · simp [h1, h2]
      · have h3 : ¬ x = y := fun z => h2 z.symm
        simp [h1, h2, h3]
    · by_cases h2 : y = x
      · subst h2
        simp [h1]
      · simp [h1, h2]
theorem valD_app (es fs : DEs) (y : Sh) : valD (es ++ fs) y = (valD es y).or (valD fs y) := by
  induction es with
  | nil => rfl
  | cons e es ih =>
    rw [List.cons_append, valD_cons, valD_cons, ih]
    split <;> rfl
theorem valD_put (es : DEs) (x : Sh) (p : Addr) (n : Int) (y : Sh) : valD (putD es x p n) y = if y = x then some n else valD es y := by
  unfold putD
  cases e : valD es x with
  | some v =>
    rw [if_pos (show (some v : Option Int).isSome = true from rfl), valD_repl, e]
    rfl
  | none =>
    rw [if_neg (show ¬ (none : Option Int).isSome = true by simp), valD_app, valD_cons]
    by_cases h : y = x
    · subst h
      rw [e, if_pos rfl, if_pos rfl]
      rfl
    · rw [if_neg h, if_neg fun z => h z.symm]
      show (valD es y).or none = _
      simp
/-- the sum of a measure, each times its number -/
def wsum (φ : Sh → Int) (es : DEs) : Int := (es.map fun e => e.2.2 * φ e.1).sum
theorem wsum_cons (φ : Sh → Int) (e : Sh × Addr × Int) (es : DEs) : wsum φ (e :: es) = e.2.2 * φ e.1 + wsum φ es := by
  unfold wsum
  rw [List.map_cons, List.sum_cons]
theorem wsum_app (φ : Sh → Int) : ∀ es fs : DEs, wsum φ (es ++ fs) = wsum φ es + wsum φ fs
  | [], fs => by simp [wsum]
  | e :: es, fs => by
    rw [List.cons_append, wsum_cons, wsum_cons, wsum_app φ es fs]
    omega
theorem wsum_perm {φ : Sh → Int} {es fs : DEs} (h : es.Perm fs) : wsum φ es = wsum φ fs := by
  induction h with
  | nil => rfl
  | cons x _ ih => rw [wsum_cons, wsum_cons, ih]
  | swap x y l => rw [wsum_cons, wsum_cons, wsum_cons, wsum_cons]; omega
  | trans _ _ a b => exact a.trans b
theorem wsum_repl {φ : Sh → Int} {x : Sh} {n v : Int} : ∀ {es : DEs}, (keysD es).Nodup → valD es x = some v → wsum φ (es.map fun e => if e.1 = x then (e.1, e.2.1, n) else e) = wsum φ es + (n - v) * φ x
  | [], _, h => by cases h
  | e :: es, nd, h => by
    have nd' : e.1 ∉ keysD es ∧ (keysD es).Nodup := List.nodup_cons.mp nd
    rw [List.map_cons, wsum_cons, wsum_cons]
    rw [valD_cons] at h
    by_cases z : e.1 = x
    · rw [if_pos z] at h
      have h := Option.some.inj h
      have stay : (es.map fun f => if f.1 = x then (f.1, f.2.1, n) else f) = es := by
        rw [List.map_congr_left (g := id) fun f hf => ?_, List.map_id]
        show (if f.1 = x then (f.1, f.2.1, n) else f) = f
        rw [if_neg fun q => nd'.1 (List.mem_map.mpr ⟨f, hf, q.trans z.symm⟩)]
      rw [stay, if_pos z]
      show n * φ e.1 + _ = _
      rw [z, h]
      grind
    · rw [if_neg z] at h
      rw [wsum_repl nd'.2 h, if_neg z]
      omega
theorem wsum_put {φ : Sh → Int} {es : DEs} (nd : (keysD es).Nodup) (x : Sh) (p : Addr) (c : Int) : wsum φ (putD es x p ((valD es x).getD 0 + c)) = wsum φ es + c * φ x := by
  unfold putD
  cases e : valD es x with
  | some v =>
    rw [if_pos (show (some v : Option Int).isSome = true from rfl), wsum_repl nd e]
    show _ + (v + c - v) * φ x = _
    rw [show v + c - v = c by omega]
  | none =>
    rw [if_neg (show ¬ (none : Option Int).isSome = true by simp), wsum_app, wsum_cons]
    show _ + ((0 + c) * φ x + 0) = _
    rw [Int.zero_add, Int.add_zero]
/-- the entries in ascending order -/
def sortK (es : DEs) : List (Sh × Addr) := (es.map fun e => (e.1, e.2.1)).mergeSort fun a b => leS a.1 b.1
def sortE (es : DEs) : DEs := (sortK es).map fun b => (b.1, b.2, (valD es b.1).getD 0)
theorem sortK_perm (es : DEs) : (sortK es).Perm (es.map fun e => (e.1, e.2.1)) := List.mergeSort_perm _ _
theorem sortE_perm {es : DEs} (nd : (keysD es).Nodup) : (sortE es).Perm es := by
  refine ((sortK_perm es).map _).trans ?_
  rw [List.map_map, List.map_congr_left (g := id) fun e he => ?_, List.map_id]
  show (e.1, e.2.1, (valD es e.1).getD 0) = e
  rw [valD_mem nd he]
  rfl
theorem keys_perm {es fs : DEs} (h : es.Perm fs) : (keysD es).Perm (keysD fs) := h.map _
theorem sortE_keys {es : DEs} (nd : (keysD es).Nodup) : (keysD (sortE es)).Nodup := (keys_perm (sortE_perm nd)).nodup_iff.mpr nd
theorem ltS_of {x y : Sh} (h : leS x y = true) (n : x ≠ y) : ltS x y := by
  by_cases z : ltS x y
  · exact z
  · refine absurd (leS_antisymm h ?_) n
    unfold leS
    rw [decide_eq_false z]
    rfl
theorem sortE_up {es : DEs} (nd : (keysD es).Nodup) : (sortE es).Pairwise fun a b => ltS a.1 b.1 := by
  have h1 : (sortK es).Pairwise fun a b => leS a.1 b.1 = true := List.pairwise_mergeSort (fun a b c => leS_trans a.1 b.1 c.1) (fun a b => leS_total a.1 b.1) _
  have h2 : ((sortK es).map (·.1)).Nodup := by
    have := sortE_keys nd
    unfold keysD sortE at this
    rw [List.map_map] at this
    exact this
  have h3 : (sortK es).Pairwise fun a b => a.1 ≠ b.1 := List.pairwise_map.mp h2
  unfold sortE
  rw [List.pairwise_map]
  exact (h1.and h3).imp fun h => ltS_of h.1 h.2
theorem valD_perm {es fs : DEs} (nd : (keysD es).Nodup) (h : es.Perm fs) (y : Sh) : valD es y = valD fs y := by
  have nd' : (keysD fs).Nodup := (keys_perm h).nodup_iff.mp nd
  cases e : valD es y with
  | some n =>
    obtain ⟨f, hf, rfl, rfl⟩ := valD_some e
    exact (valD_mem nd' (h.mem_iff.mp hf)).symm
  | none =>
    refine (valD_none.mpr fun z => valD_none.mp e ?_).symm
    exact (keys_perm h).mem_iff.mpr z
/-! ### for sheet in d, while d is locked -/
def ItS (P : Program) (w : World) (d : Addr) (o : Obj) (es : DEs) : It where
  go := fun i H => DRd P w H d es ∧ H d = some (.frz o (DS P w d es)) ∧ i < es.length
  yld := fun i H x H' => H' = H ∧ ∃ e, es[i]? = some e ∧ x = .ref e.2.1
  stop := fun i H => H d = some (.frz o (DS P w d es)) ∧ es.length ≤ i
/-- what the lock tells: the very object, and its entries -/
theorem locked {P : Program} {w : World} {H : Hp} {h : Heap} {d : Addr} {o : Obj} {es : DEs} (ok : HOk P w H h) (e : H d = some (.frz o (DS P w d es))) :
    (d == sysModules) = false ∧ h.get? d = some o ∧ o.ExactDict ∧ ∃ en ep, o.data = .dict en ep ∧ en.size = es.length ∧ ∀ (j : Nat) (x : Sh × Addr × Int), es[j]? = some x → ∃ z : DictEntry, en[j]? = some z ∧ z.key = .ref x.2.1 := by
  obtain ⟨ho, ⟨lo, _, xs, r, o', en, ep, ho', hx, hdat, he, _⟩, _⟩ := ok d _ e
  obtain rfl : o = o' := Option.some.inj (ho.symm.trans ho')
  refine ⟨lo, ho, hx, en, ep, hdat, ds_size he r, fun j x hj => ?_⟩
  obtain ⟨hs, v, hz, _⟩ := ds_ent he r hj
  exact ⟨_, hz, rfl⟩
section
variable {X : Cx}
theorem turnDS {P : Program} {w : World} {K : PySem.W.Frag} {tg : Expr} {d it : Addr} {o : Obj} {es : DEs} {en : Array DictEntry} {ep : Nat} (ne : it ≠ d) (hdat : o.data = .dict en ep) (hsz : en.size = es.length)
    (hk : ∀ (j : Nat) (x : Sh × Addr × Int), es[j]? = some x → ∃ z : DictEntry, en[j]? = some z ∧ z.key = .ref x.2.1) : Turn P w K tg (ItS P w d o es) [it] it (fun i h => h.IsKeyIter it d i en.size ep) where
  mem := List.mem_cons_self
  obj := fun i h st b hb => by
    rw [List.mem_singleton.mp hb]
    obtain ⟨oi, e, _, dd⟩ := st
    exact ⟨oi, e, fun v z => by rw [dd] at z; cases z⟩
  keep := fun i h h' st k => st.at fun oi e => k it List.mem_cons_self oi e
  self := fun A i s Q E st q => wpAny_pyIter_keyiter st q
  item := by
    intro Y hP hw hK hc i pins s σ H E I hf st go
    subst hP hw hK
    obtain ⟨D, hd, hi⟩ := go
    obtain ⟨x, hx⟩ : ∃ x, es[i]? = some x := ⟨es[i], List.getElem?_eq_getElem hi⟩
    obtain ⟨z, hz, hkey⟩ := hk i x hx
    have od := (locked I.hok hd).2.1
    refine next_key_item st od hdat rfl hz fun h' st' sb => ⟨_, rfl, ?_⟩
    obtain ⟨f0, f1, _, f3, f4, f5⟩ := hf it List.mem_cons_self
    have I' : Inv Y pins σ H { s with heap := h' } := I.turned (t' := s.toks) (fun b ob hb e => (sb.2 b hb).trans e) f0 f1 f3 f4 f5
    obtain ⟨oi, e, ci, di⟩ := id st'
    refine go_of (s := { s with heap := h' }) e ci di (by decide) ⟨.ref x.2.1, H, I', hkey, ⟨rfl, x, hx, rfl⟩, st', fun b hb => ?_⟩
    rw [List.mem_singleton.mp hb]
    exact f0
  done := by
    intro Y hP hw hK hc i pins s σ H E I hf st stop
    subst hP hw hK
    have od := (locked I.hok stop.1).2.1
    have hge := stop.2
    refine next_key_end (I.ok.hd hc) st od hdat rfl (by omega) fun h' sb => ⟨rfl, ?_⟩
    obtain ⟨f0, f1, _, f3, f4, f5⟩ := hf it List.mem_cons_self
    exact I.turned (t' := s.toks) (fun b ob hb e => sb b ob hb e) f0 f1 f3 f4 f5
def iKeysDS (P : Program) (w : World) (td : TE) : TI := fun σ H R => td σ H fun v G => ∃ d o es, v = .ref d ∧ G d = some (.frz o (DS P w d es)) ∧ R (ItS P w d o es) G
theorem pi_keysDS {tg e : Expr} {td : TE} (he : PE X e td) : PI X tg e (iKeysDS X.prog X.w td) := by
  refine ⟨fun pins s σ H R I h => thn (he.run pins s σ H _ I h) fun u s1 ⟨v, G, I1, rv, d, o, es, ev, hd, q⟩ => ?_⟩
  subst ev
  cases rv
  obtain ⟨lo, ho, hx, en, ep, hdat, hsz, hk⟩ := locked I1.hok hd
  refine iter_keys lo ho hx hdat ?_
  have ne : s1.heap.objs.size ≠ d := Nat.ne_of_gt (Heap.lt_size ho)
  refine ⟨s1.heap.objs.size, [s1.heap.objs.size], _, _, G, rfl, I1.kept (t' := s1.toks) fun b ob z => Heap.get?_push_of_some _ z, turnDS ne hdat hsz hk, ⟨_, Heap.get?_push_size _ rfl, rfl, rfl⟩, fun b hb => ?_, q⟩
  rw [List.mem_singleton.mp hb]
  exact I1.fpOk (Nat.le_refl _) (I1.hok.fresh (Nat.le_refl _))
/-- a for over it -/
theorem for_keysDS {P : Program} {w : World} {d : Addr} {o : Obj} {es : DEs} {g : TG} {tb : TS} {D : Ends} {σ : L2.St} {H : Hp} (Pv : Nat → L2.St → Hp → Prop) (h0 : Pv 0 σ H) (hl : ∀ i τ G, i ≤ es.length → Pv i τ G → G d = some (.frz o (DS P w d es)) ∧ ∀ x ∈ es, ShAt G x.2.1 x.1)
    (turn : ∀ i x τ G, es[i]? = some x → Pv i τ G → g (.ref x.2.1) τ G fun τ2 G2 => tb { D with nx := Pv (i + 1), ct := Pv (i + 1), bk := D.nx } τ2 G2) (fin : ∀ τ G, Pv es.length τ G → D.nx τ G) :
    ∃ W : Nat → Nat → L2.St → Hp → Prop, (∃ m, W 0 m σ H) ∧ ∀ i m τ G, W i m τ G → ((ItS P w d o es).stop i G ∧ D.nx τ G) ∨ ((ItS P w d o es).go i G ∧ ∃ N : L2.St → Hp → Prop, (∀ τ' G', N τ' G' → ∃ m', m' < m ∧ W (i + 1) m' τ' G') ∧
      ∀ x G', (ItS P w d o es).yld i G x G' → g x τ G' fun τ2 G2 => tb { D with nx := N, ct := N, bk := D.nx } τ2 G2) := by
  refine ⟨fun i m τ G => m = es.length - i ∧ i ≤ es.length ∧ Pv i τ G, ⟨_, rfl, Nat.zero_le _, h0⟩, ?_⟩
  rintro i m τ G ⟨rfl, hi, pv⟩
  obtain ⟨hd, ks⟩ := hl i τ G hi pv
  rcases Nat.lt_or_ge i es.length with lt | ge
  · refine .inr ⟨⟨⟨.inr ⟨o, hd⟩, ks⟩, hd, lt⟩, Pv (i + 1), fun τ' G' z => ⟨_, Nat.sub_lt_sub_left lt (Nat.lt_succ_self i), rfl, lt, z⟩, ?_⟩
    rintro x G' ⟨rfl, e, he, rfl⟩
    exact turn i e τ _ he pv
  · obtain rfl : i = es.length := Nat.le_antisymm hi ge
    exact .inl ⟨⟨hd, Nat.le_refl _⟩, fin τ G pv⟩
/-- sorted(xs), a list of sheets -/
def rSortedLS : List V → Hp → VK → Prop := fun vs H Q => ∃ (a : Addr) (bs : List (Sh × Addr)), vs = [.ref a] ∧ H a = some (.lst (bs.map fun b : Sh × Addr => V.ref b.2)) ∧ (∀ b ∈ bs, ShAt H b.2 b.1) ∧ ∀ p, H p = none → Q (.ref p) (upd H p (.lst ((bs.mergeSort fun a b => leS a.1 b.1).map fun b => V.ref b.2)))
theorem cr_sortedLS (hu : X.A.units + 64 < cLine) : CallR X (.builtin "sorted") rSortedLS := by
  intro pins s σ H vs us Q I r q
  obtain ⟨a, bs, rfl, ha, hk, q⟩ := q
  obtain ⟨u, rfl, rx⟩ := r.one
  cases rx
  obtain ⟨hz, its, c, rv, ho⟩ := I.hok a _ ha
  rw [List.length_map] at hz
  have ei : its = bs.map fun b => Value.ref b.2 := by
    have e : ((bs.map fun b : Sh × Addr => b.2).map V.ref) = bs.map fun b => V.ref b.2 := by rw [List.map_map]; rfl
    rw [← e] at rv
    rw [refs_at rv, List.map_map]
    rfl
  subst ei
  have hl : s.heap.IsList a (bs.map fun b => Value.ref b.2).toArray := PySem.IsL.isList ho
  refine PySem.W.sorted_data (enc := fun b : Sh × Addr => encS b.1) (R := fun v b => v = Value.ref b.2) hl (each_of fun b hb => rfl) (each_of fun b hb => ⟨[], sh_reads I.hok (hk b hb)⟩) (PySem.W.AllAlike.of fun _ _ => by simp [PySem.W.alike, PySem.W.alikeAll, encS]) (PySem.W.Sortable.tuples fun _ => ⟨_, _, rfl⟩) hz (fun b _ => ?_) fun out hlen eo => ?_
  · have : (encS b.1).depth = 2 := by simp [encS, PyData.depth, PyData.depthAll]
    omega
  · rw [le_encS (fun b : Sh × Addr => b.1)] at eo
    have eo := each_refs eo
    obtain ⟨c', hat⟩ := PyProof.Rows.sortedAll_at s.heap (bs.map fun b => Value.ref b.2) out.toArray
    refine ⟨.ref (s.heap.objs.size + 1), _, I.laid (t' := s.toks) (o := .lst ((bs.mergeSort fun a b => leS a.1 b.1).map fun b => V.ref b.2)) ?_ (Nat.le_succ _) ?_, rfl, q _ (I.hok.fresh (Nat.le_succ _))⟩
    · intro b u e
      exact PyProof.Rows.sortedAll_old e
    · refine ⟨by rw [List.length_map, List.length_mergeSort]; exact hz, out, c', ?_, hat⟩
      rw [eo, show ((bs.mergeSort fun a b => leS a.1 b.1).map fun b => V.ref b.2) = ((bs.mergeSort fun a b => leS a.1 b.1).map (·.2)).map V.ref by rw [List.map_map]; rfl, show ((bs.mergeSort fun a b => leS a.1 b.1).map fun b => Value.ref b.2) = ((bs.mergeSort fun a b => leS a.1 b.1).map (·.2)).map Value.ref by rw [List.map_map]; rfl]
      exact vals_refs _
end
/-- a comprehension of sheets over a list that stays -/
theorem dcS_list {P : Program} {w : World} {K : PySem.W.Frag} {a : Addr} {xs : List V} {g : TG} {tk tv : TE} {vs : List Nat} {σ : L2.St} {D : Addr} {G0 : Hp} {Qd : Hp → Prop} (Pv : Nat → Hp → Prop) (h0 : Pv 0 G0) (hl : ∀ i G, i ≤ xs.length → Pv i G → SqL K G a xs)
    (turn : ∀ i x G, xs[i]? = some x → Pv i G → TurnS P w g tk tv vs σ D (Pv (i + 1)) x G) (fin : ∀ G, Pv xs.length G → Qd G) (mono : ∀ (N N' : Hp → Prop) x G, (∀ G', N G' → N' G') → TurnS P w g tk tv vs σ D N x G → TurnS P w g tk tv vs σ D N' x G) :
    ∃ W : Nat → Nat → Hp → Prop, (∃ m, W 0 m G0) ∧ ∀ i m G, W i m G → ((Itl K a).stop i G ∧ Qd G) ∨ ((Itl K a).go i G ∧ ∀ x G2, (Itl K a).yld i G x G2 → TurnS P w g tk tv vs σ D (fun G3 => ∃ m', m' < m ∧ W (i + 1) m' G3) x G2) := by
  refine ⟨fun i m G => m = xs.length - i ∧ i ≤ xs.length ∧ Pv i G, ⟨_, rfl, Nat.zero_le _, h0⟩, ?_⟩
  rintro i m G ⟨rfl, hi, pv⟩
  have sq := hl i G hi pv
  rcases Nat.lt_or_ge i xs.length with lt | ge
  · refine .inr ⟨⟨xs, xs[i], sq, List.getElem?_eq_getElem lt⟩, ?_⟩
    rintro x G2 ⟨rfl, at_⟩
    exact mono _ _ _ _ (fun G' z => ⟨_, Nat.sub_lt_sub_left lt (Nat.lt_succ_self i), rfl, lt, z⟩) (turn i x _ (at_ xs sq) pv)
  · obtain rfl : i = xs.length := Nat.le_antisymm hi ge
    exact .inl ⟨⟨xs, sq, Nat.le_refl _⟩, fin G pv⟩
/-! ### enumerate of an empty tuple; a walk of one kind or another -/
section
variable {X : Cx}
/-- enumerate(v), where iter(v) is told by B -/
theorem enum_new {P : Program} {w : World} {A : Around} {E : Value → Shared → Prop} {s : Shared} {v : Value} {Q : Fin → Shared → Prop} (h : wpAny (model P w) A (pyIter v) (fun it s1 => wpAny (model P w) A (newObj (.type "enumerate") (.fields #[.none, .bool false, it, rawInt 0, .none, .none])) (fun e s2 => Q (.done (.ret e)) s2) E s1) E s) :
    wpAny (model P w) A (Builtin.«enumerate.__new__» ⟨[.type "enumerate", v], []⟩) Q E s := by
  have cls : Builtin.SmallTypes.newClass "enumerate" ⟨[.type "enumerate", v], []⟩ = pure (.type "enumerate", [v]) := by
    simp only [Builtin.SmallTypes.newClass, PySem.sub_enumerate]
    rfl
  unfold Builtin.«enumerate.__new__»
  refine wpAny_bind (wpAny_of_eq cls ?_)
  show wpAny _ _ (Builtin.SmallTypes.calledThroughType (.type "enumerate") >>= _) _ _ _
  refine wpAny_bind (wpAny_bind (wpAny_stack_any fun st => wpAny_pure ?_))
  dsimp only
  split <;> try split
  all_goals
    refine wpAny_bind (wpAny_of_eq (a := (v, none)) rfl ?_)
    refine wpAny_bind (wpAny_mono h (fun it s1 h1 => ?_) fun _ _ z => z)
    exact wpAny_bind (wpAny_mono h1 (fun e s2 h2 => wpAny_pure h2) fun _ _ z => z)
/-- nothing to draw -/
def ItN (K : PySem.W.Frag) (a : Addr) : It where
  go := fun _ _ => False
  yld := fun _ _ _ _ => False
  stop := fun _ H => SqT K H a []
theorem turnN {P : Program} {w : World} {K : PySem.W.Frag} {tg : Expr} {a e it : Addr} (na : a ≠ it) : Turn P w K tg (ItN K a) [e, it] e (fun i h => i = 0 ∧ IsEnum h e it 0 .none ∧ h.IsTupleIter it a 0) where
  mem := List.mem_cons_self
  obj := by
    rintro i h ⟨_, he, oi, h1, _, h3⟩ b hb
    rcases List.mem_cons.mp hb with rfl | hb
    · exact ⟨_, he, fun _ z => nomatch z⟩
    · rw [List.mem_singleton.mp hb]
      exact ⟨oi, h1, fun _ z => by rw [h3] at z; cases z⟩
  keep := fun i h h' st k => ⟨st.1, k e List.mem_cons_self _ st.2.1, st.2.2.at fun o z => k it (List.mem_cons_of_mem _ List.mem_cons_self) o z⟩
  item := fun _ _ _ _ _ _ _ _ _ _ _ _ _ _ go => go.elim
  done := by
    intro Y hP hw hK hc i pins s σ H E I hf st stop
    subst hP hw hK
    obtain ⟨rfl, he, hi⟩ := st
    obtain ⟨its, rv, p, _⟩ := I.tuple stop
    cases rv
    obtain ⟨f0, f1, _, f3, f4, f5⟩ := hf it (List.mem_cons_of_mem _ List.mem_cons_self)
    exact wpAny_pyNext_enum_endD (Draws.tuple (A := Y.A.in1) (I.ok.hd hc) it a na #[]) he ⟨hi, p⟩ fun h' eb => ⟨rfl, I.turned (t' := s.toks) (fun b o hb z => eb b o hb z) f0 f1 f3 f4 f5⟩
  self := fun A i s Q E st q => wpAny_pyIter_enum st.2.1 q
def iEnumN (K : PySem.W.Frag) (ta : TA) : TI := fun σ H R => ta σ H fun vs G => ∃ a, vs = [.ref a] ∧ SqT K G a [] ∧ R (ItN K a) G
theorem pi_enumN {e : Expr} {ta : TA} {p pos : Pos} {tg : Expr} (hg : Gl X "enumerate") (hm : X.mg "enumerate" = none) (ha : PA X [e] ta) (hs : starEach [e] X.env = [(false, eval e X.env)] := by rfl) : PI X tg (.Call (.Name "enumerate" p) [e] [] pos) (iEnumN X.K ta) := by
  refine ⟨fun pins s σ H R I h => Call_ (ld_blt I hg hm boot_enumerate (PyProof.Rows.callWith_type1 (thn (ha.run pos pins s σ H _ I h) ?_) hs rfl))⟩
  rintro us s1 ⟨vs, G, I1, r, a, rfl, sq, q⟩
  obtain ⟨u, rfl, ru⟩ := r.one
  cases ru
  obtain ⟨its, rv, tp, _⟩ := I1.tuple sq
  cases rv
  have la : a < s1.heap.objs.size := let ⟨_, z, _⟩ := tp; Heap.lt_size z
  refine callType_new (S := fun A R s => s.heap.IsTuple a #[] ∧ R (.ok (.ret (.ref (s.heap.objs.size + 1)))) { s with heap := (s.heap.push { cls := .type "tuple_iterator", data := .fields #[.ref a, .int 0 0] }).push { cls := .type "enumerate", data := .fields #[.none, .bool false, .ref s.heap.objs.size, rawInt 0, .none, .none] } })
    F.called_enumerate (by decide) (F.typeCall_enumerate_1 _) (F.newCall_enumerate_1 _) (fun obj => F.args_object_init_2 obj _) F.entry_enumerate_new (.of_wp fun P w A R s z => enum_new (wpAny_pyIter_tuple z.1 (wpAny_newObj_type ⟨_, rfl, ?_⟩))) ⟨tp, ?_⟩
  · have := z.2
    rwa [← Heap.size_push] at this
  have he : IsEnum ((s1.heap.push { cls := .type "tuple_iterator", data := .fields #[.ref a, .int 0 0] }).push { cls := .type "enumerate", data := .fields #[.none, .bool false, .ref s1.heap.objs.size, rawInt 0, .none, .none] }) (s1.heap.objs.size + 1) s1.heap.objs.size 0 .none := by
    have z := Heap.get?_push_size (s1.heap.push { cls := .type "tuple_iterator", data := .fields #[.ref a, .int 0 0] }) (o := { cls := .type "enumerate", data := .fields #[.none, .bool false, .ref s1.heap.objs.size, rawInt 0, .none, .none] }) rfl
    rwa [Heap.size_push] at z
  refine ⟨⟨_, he, rfl⟩, wpAny_pyIter_enum he ⟨s1.heap.objs.size + 1, [s1.heap.objs.size + 1, s1.heap.objs.size], _, _, G, rfl, I1.kept (t' := s1.toks) fun b o z => Heap.get?_push_of_some _ (Heap.get?_push_of_some _ z), turnN (Nat.ne_of_lt la), ⟨rfl, he, _, Heap.get?_push_of_some _ (Heap.get?_push_size _ rfl), rfl, rfl⟩, fun b hb => ?_, q⟩⟩
  have le : s1.heap.objs.size ≤ b := by
    rcases List.mem_cons.mp hb with rfl | hb
    · exact Nat.le_succ _
    · rw [List.mem_singleton.mp hb]
      exact Nat.le_refl _
  exact I1.fpOk le (I1.hok.fresh le)
theorem PI.or {tg e : Expr} {a b : TI} (h1 : PI X tg e a) (h2 : PI X tg e b) : PI X tg e (fun σ H R => a σ H R ∨ b σ H R) := ⟨fun pins s σ H R I h => h.elim (h1.run pins s σ H R I) (h2.run pins s σ H R I)⟩
end
/-! ### rows put together -/
theorem putD_new {es : DEs} {x : Sh} {p : Addr} {n : Int} (h : valD es x = none) : putD es x p n = es ++ [(x, p, n)] := by
  unfold putD
  rw [h]
  rfl
theorem take_put {fs : DEs} (nd : (keysD fs).Nodup) {i : Nat} {e : Sh × Addr × Int} (he : fs[i]? = some e) : putD (fs.take i) e.1 e.2.1 e.2.2 = fs.take (i + 1) := by
  have hn : valD (fs.take i) e.1 = none := by
    refine valD_none.mpr fun z => ?_
    obtain ⟨f, hf, hfe⟩ := List.mem_map.mp z
    obtain ⟨j, hj⟩ := List.mem_iff_getElem?.mp hf
    have hji : j < i := by
      rcases Nat.lt_or_ge j i with l | l
      · exact l
      · rw [List.getElem?_eq_none (by rw [List.length_take]; omega)] at hj
        cases hj
    rw [List.getElem?_take_of_lt hji] at hj
    have k1 : (keysD fs)[j]? = some e.1 := by
      unfold keysD
      rw [List.getElem?_map, hj, ← hfe]
      rfl
    have k2 : (keysD fs)[i]? = some e.1 := by
      unfold keysD
      rw [List.getElem?_map, he]
      rfl
    obtain ⟨l1, g1⟩ := List.getElem?_eq_some_iff.mp k1
    have := (List.getElem?_inj l1 nd).mp (k1.trans k2.symm)
    omega
  rw [putD_new hn, List.take_add_one, he]
  rfl
theorem putD_in {es : DEs} {x : Sh} {p : Addr} {n : Int} {y : Sh × Addr × Int} (h : y ∈ putD es x p n) : (y.1 = x ∧ y.2.2 = n) ∨ y ∈ es := by
  unfold putD at h
  split at h
  · obtain ⟨z, hz, rfl⟩ := List.mem_map.mp h
    split
    · rename_i e
      exact .inl ⟨e, rfl⟩
    · exact .inr hz
  · rcases List.mem_append.mp h with h | h
    · exact .inr h
    · rw [List.mem_singleton.mp h]
      exact .inl ⟨rfl, rfl⟩
def addE (acc : DEs) (e : Sh × Addr × Int) : DEs := putD acc e.1 e.2.1 ((valD acc e.1).getD 0 + e.2.2)
def mergeTo (es : DEs) (i : Nat) : DEs := (es.take i).foldl addE []
def mergeD (es : DEs) : DEs := es.foldl addE []
theorem mergeTo_all (es : DEs) : mergeTo es es.length = mergeD es := by
  unfold mergeTo mergeD
  rw [List.take_length]
theorem mergeTo_succ {es : DEs} {i : Nat} {e : Sh × Addr × Int} (he : es[i]? = some e) : mergeTo es (i + 1) = addE (mergeTo es i) e := by
  unfold mergeTo
  rw [List.take_add_one, he, List.foldl_append]
  rfl
theorem fold_nodup : ∀ (es acc : DEs), (keysD acc).Nodup → (keysD (es.foldl addE acc)).Nodup
  | [], _, h => h
  | e :: es, acc, h => fold_nodup es (addE acc e) (put_nodup h _ _ _)
theorem merge_nodup (es : DEs) : (keysD (mergeD es)).Nodup := fold_nodup es [] List.nodup_nil
theorem fold_wsum (φ : Sh → Int) : ∀ (es acc : DEs), (keysD acc).Nodup → wsum φ (es.foldl addE acc) = wsum φ acc + wsum φ es
  | [], acc, h => by
    show wsum φ acc = wsum φ acc + 0
    omega
  | e :: es, acc, h => by
    rw [List.foldl_cons, fold_wsum φ es (addE acc e) (put_nodup h _ _ _), wsum_cons]
    unfold addE
    rw [wsum_put h]
    omega
theorem merge_wsum (φ : Sh → Int) (es : DEs) : wsum φ (mergeD es) = wsum φ es := by
  unfold mergeD
  rw [fold_wsum φ es [] List.nodup_nil]
  show 0 + wsum φ es = _
  omega
theorem fold_len : ∀ (es acc : DEs), (es.foldl addE acc).length ≤ acc.length + es.length
  | [], acc => by simp
  | e :: es, acc => by
    have h1 := fold_len es (addE acc e)
    have h2 : (addE acc e).length ≤ acc.length + 1 := putD_len _ _ _ _
    rw [List.foldl_cons, List.length_cons]
    omega
theorem mergeTo_len (es : DEs) (i : Nat) : (mergeTo es i).length ≤ i := by
  have h1 := fold_len (es.take i) []
  have h2 : (es.take i).length ≤ i := by
    rw [List.length_take]
    omega
  unfold mergeTo
  simp only [List.length_nil] at h1
  omega
theorem merge_len (es : DEs) : (mergeD es).length ≤ es.length := by
  have := fold_len es []
  simpa [mergeD] using this
/-- each number from 1 to M, each sheet by S -/
def Within (S : Sh → Prop) (M : Int) (es : DEs) : Prop := ∀ e ∈ es, S e.1 ∧ 1 ≤ e.2.2 ∧ e.2.2 ≤ M
theorem Within.up {S : Sh → Prop} {M N : Int} {es : DEs} (h : Within S M es) (l : M ≤ N) : Within S N es := fun e he => ⟨(h e he).1, (h e he).2.1, Int.le_trans (h e he).2.2 l⟩
theorem Within.perm {S : Sh → Prop} {M : Int} {es fs : DEs} (h : Within S M es) (p : fs.Perm es) : Within S M fs := fun e he => h e (p.mem_iff.mp he)
theorem fold_within {S : Sh → Prop} {M : Int} (hM : 0 ≤ M) : ∀ (es acc : DEs) (N : Int), 0 ≤ N → Within S N acc → Within S M es → Within S (N + es.length * M) (es.foldl addE acc)
  | [], acc, N, hN, ha, _ => by simpa using ha
  | e :: es, acc, N, hN, ha, he => by
    have h1 : Within S (N + M) (addE acc e) := by
      intro y hy
      rcases putD_in hy with ⟨e1, e2⟩ | z
      · obtain ⟨s1, s2, s3⟩ := he e List.mem_cons_self
        have hv : 0 ≤ (valD acc e.1).getD 0 ∧ (valD acc e.1).getD 0 ≤ N := by
          cases hv : valD acc e.1 with
          | none => exact ⟨Int.le_refl _, hN⟩
          | some v =>
            obtain ⟨f, hf, _, rfl⟩ := valD_some hv
            have := ha f hf
            exact ⟨by show 0 ≤ f.2.2; omega, this.2.2⟩
        rw [e1, e2]
        exact ⟨s1, by omega, by omega⟩
      · have := ha y z
        exact ⟨this.1, this.2.1, by omega⟩
    have h2 := fold_within hM es (addE acc e) (N + M) (by omega) h1 fun y hy => he y (List.mem_cons_of_mem _ hy)
    rw [List.foldl_cons, List.length_cons]
    refine h2.up (Int.le_of_eq ?_)
    have : ((es.length + 1 : Nat) : Int) * M = es.length * M + M := by
      rw [Int.natCast_add, Int.add_mul]
      simp
    omega
theorem merge_within {S : Sh → Prop} {M : Int} {es : DEs} (hM : 0 ≤ M) (h : Within S M es) : Within S (es.length * M) (mergeD es) := by
  have := fold_within hM es [] 0 (Int.le_refl _) (fun e he => by cases he) h
  rwa [Int.zero_add] at this
/-! ### d == e, for dicts of sheets -/
def eqE (fs : DEs) (e : Sh × Addr × Int) : Bool := decide (valD fs e.1 = some e.2.2)
def eqD (es fs : DEs) : Bool := decide (es.length = fs.length) && es.all (eqE fs)
theorem drel_keys {fs : DEs} {ys : List (NestedKey × Addr × Value)} (r : Paired DRel fs ys) : ys.map (·.1) = fs.map fun f => shK f.1 := by
  induction r with
  | nil => rfl
  | cons h _ ih => rw [List.map_cons, List.map_cons, ih, h.1]
theorem drel_nodup {fs : DEs} {ys : List (NestedKey × Addr × Value)} (r : Paired DRel fs ys) (n : (ys.map (·.1)).Nodup) : (keysD fs).Nodup := by
  rw [drel_keys r] at n
  exact List.pairwise_map.mpr ((List.pairwise_map.mp n).imp fun ne z => ne (congrArg shK z))
section
variable {X : Cx} {pins : List (Addr × Obj)} {σ : L2.St} {H : Hp} {s : Shared} {a b : Addr} {es fs : DEs} {A : Around} {E : Value → Shared → Prop}
/-- one entry, looked up in the other dict -/
theorem ds_hit {e : Sh × Addr × Int} {v : Value} {ob : Obj} {eb : Array DictEntry} {pb : Nat} {ys : List (NestedKey × Addr × Value)} {Q : Bool → Shared → Prop} (hu : A.units + 8 < cLine) (I : Inv X pins σ H s) (he : ShAt H e.2.1 e.1) (rv : RelV (.int e.2.2) v)
    (ry : Paired DRel fs ys) (hb : s.heap.get? b = some ob) (db : ob.data = .dict eb pb) (tb : eb.toList = ys.map (entryOfKey (nestedKind X.prog X.w))) (kb : ∀ y ∈ ys, (nestedKind X.prog X.w).is s.heap y.1 y.2.1) (nb : (ys.map (·.1)).Nodup) (q : Q (eqE fs e) s) :
    wpAny (model X.prog X.w) A (do
      let some j ← dictFind b (.ref e.2.1) ((nestedKind X.prog X.w).hash (shK e.1)) | pure false
      let some f := (← dictEntries b)[j]? | unsupported "internal:dict-equal"
      holding [f.val] (eqBool v f.val)) Q E s := by
  refine wpAny_bind (wpAny_dictFind_heap (show A.units + 8 < cLine from hu) (sh_key I.hok he) hb db tb kb nb (fun no => ?_) fun j p hj => ?_)
  · have vn : valD fs e.1 = none := by
      cases z : valD fs e.1 with
      | none => rfl
      | some n =>
        obtain ⟨f, hf, f1, _⟩ := valD_some z
        obtain ⟨i, hi⟩ := List.mem_iff_getElem?.mp hf
        obtain ⟨y, hy, y1, _⟩ := Paired.getL ry hi
        refine absurd hy (fun hy => no i y.2 ?_)
        rw [hy, ← f1, ← y1]
    refine wpAny_pure ?_
    unfold eqE at q
    rwa [vn, decide_eq_false (by simp)] at q
  · obtain ⟨f, hf, f1, f2, f3⟩ := Paired.getR ry (List.mem_of_getElem? hj)
    have fe : f.1 = e.1 := shK_inj f1.symm
    have vs : valD fs e.1 = some f.2.2 := by
      rw [← fe]
      exact valD_mem (drel_nodup ry nb) hf
    have at_ : eb[j]? = some ⟨(nestedKind X.prog X.w).hash (shK e.1), .ref p.1, p.2⟩ := by
      rw [entry_at tb j, hj]
      rfl
    refine wpAny_bind (wpAny_dictEntries hb db ?_)
    simp only [at_]
    obtain ⟨t1, rfl⟩ := rv
    obtain ⟨t2, e2⟩ := f3
    replace e2 : p.2 = .int f.2.2 t2 := e2
    rw [e2]
    refine wpAny_holding (wpAny_eqBool_int ?_)
    unfold eqE at q
    rw [vs] at q
    have : (e.2.2 == f.2.2) = decide (some f.2.2 = some e.2.2) := by
      by_cases z : e.2.2 = f.2.2
      · rw [z]
        simp
      · rw [beq_eq_false_iff_ne.mpr z, decide_eq_false fun w => z (Option.some.inj w).symm]
    rwa [this]
theorem ds_samePairs {nm : String} {Q : Bool → Shared → Prop} (hu : A.units + 8 < cLine) (I : Inv X pins σ H s) (D : DRd X.prog X.w H a es) (F : DRd X.prog X.w H b fs) (q : Q (eqD es fs) s) : wpAny (model X.prog X.w) A (Builtin.Dict.samePairs nm a b) Q E s := by
  obtain ⟨la, _, xs, rx, oa, ea, pa, ha, _, da, ta, _, _⟩ := ds_of I.hok D
  obtain ⟨lb, _, ys, ry, ob, eb, pb, hb, _, db, tb, kb, nb⟩ := ds_of I.hok F
  have sa : ea.size = es.length := ds_size ta rx
  have sb : eb.size = fs.length := ds_size tb ry
  have sh : ∀ d, (d == sysModules) = false → Builtin.Dict.showsAll d = pure () := by
    intro d z
    unfold Builtin.Dict.showsAll
    rw [z]
    rfl
  unfold Builtin.Dict.samePairs
  refine wpAny_bind (wpAny_of_eq (sh a la) (wpAny_bind (wpAny_of_eq (sh b lb) ?_)))
  refine wpAny_bind (wpAny_dictEntries ha da (wpAny_bind (wpAny_dictEntries hb db ?_)))
  unfold eqD at q
  rw [sa, sb]
  by_cases hz : es.length = fs.length
  · rw [decide_eq_true hz, Bool.true_and] at q
    rw [if_neg (by rw [hz]; simp)]
    refine wpAny_bind (wpAny_dictEpoch ha da ?_)
    refine wpAny_bind ?_
    rw [Std.Legacy.Range.forIn_eq_forIn_range']
    refine wpAny_forIn_list _ (fun rest st s' => s' = s ∧ st = (none, ()) ∧ ∃ i, rest = List.range' i rest.length ∧ i + rest.length = es.length ∧ es.all (eqE fs) = (es.drop i).all (eqE fs)) _ ?_ ?_ _ _ ⟨rfl, rfl, 0, ?_, ?_, ?_⟩
    · rintro x rest st s' ⟨rfl, rfl, i, hr, hn, hall⟩
      rw [List.length_cons] at hr hn
      rw [List.range'_succ] at hr
      obtain ⟨rfl, hr⟩ := List.cons.inj hr
      obtain ⟨e, he⟩ : ∃ e, es[x]? = some e := ⟨es[x]'(by omega), List.getElem?_eq_getElem (by omega)⟩
      obtain ⟨y, hy, y1, y2, y3⟩ := Paired.getL rx he
      have at_ : ea[x]? = some ⟨(nestedKind X.prog X.w).hash (shK e.1), .ref e.2.1, y.2.2⟩ := by
        rw [entry_at ta x, hy, ← y1, ← y2]
        rfl
      have dr : (es.drop x).all (eqE fs) = (eqE fs e && (es.drop (x + 1)).all (eqE fs)) := by
        rw [List.drop_eq_getElem?_toList_append, he]
        rfl
      refine wpAny_bind (wpAny_dictEntries ha da ?_)
      simp only [at_]
      refine wpAny_bind (wpAny_holding (ds_hit hu I (D.ks e (List.mem_of_getElem? he)) y3 ry hb db tb kb nb ?_))
      cases hq : eqE fs e with
      | false =>
        rw [hall, dr, hq, Bool.false_and] at q
        exact wpAny_pure (wpAny_pure q)
      | true =>
        rw [if_neg (by decide)]
        refine wpAny_bind (wpAny_dictEpoch ha da ?_)
        rw [if_neg (by simp)]
        refine wpAny_pure ⟨rfl, rfl, x + 1, hr, by omega, ?_⟩
        rw [hall, dr, hq, Bool.true_and]
    · rintro st s' ⟨rfl, rfl, i, hr, hn, hall⟩
      have : i = es.length := by simpa using hn
      subst this
      rw [hall, List.drop_length] at q
      exact wpAny_pure q
    · simp
    · simp [Std.Legacy.Range.size]
    · rw [List.drop_zero]
  · rw [decide_eq_false hz, Bool.false_and] at q
    rw [if_pos (by simpa using hz)]
    exact wpAny_bind (wpAny_rule (wpAny_pure q))
theorem ds_eq {Q : Value → Shared → Prop} (hu : A.units + 9 < cLine) (I : Inv X pins σ H s) (D : DRd X.prog X.w H a es) (F : DRd X.prog X.w H b fs) (q : Q (.bool (eqD es fs)) s) : wpAny (model X.prog X.w) A (compareOp .Eq (.ref a) (.ref b)) Q E s := by
  have ta := (ds_dict (X := X) I D).1
  have tb := (ds_dict (X := X) I F).1
  refine wpAny_richCompare_same_room (op := .Eq) ta tb PySem.F.slot_dict_eq (wpAny_call_entry PySem.F.slot_dict_eq ta PySem.F.entry_dict_eq ?_ (PySem.F.args_dict_eq_2 _ _)) (by omega)
  have args : wpAny (model X.prog X.w) A.in1 (Builtin.Dict.dictSlotArgs "__eq__" ⟨[.ref a, .ref b], []⟩) (fun r s' => r = (.ref a, .ref b) ∧ s' = s) E s := by
    unfold Builtin.Dict.dictSlotArgs
    refine wpAny_bind (wpAny_notOrdered_dict ta ?_)
    exact wpAny_pure ⟨rfl, rfl⟩
  refine wpAny_bind (m := Builtin.Dict.dictSlotArgs "__eq__" ⟨[.ref a, .ref b], []⟩) (wpAny_mono args ?_ fun _ _ z => z)
  rintro r s' ⟨rfl, rfl⟩
  refine wpAny_bind (wpAny_isInstance (T := "dict") tb PySem.F.sub_dict_dict ?_)
  simp only [Bool.not_true, Bool.false_eq_true, if_false]
  refine wpAny_bind (wpAny_pure (wpAny_bind (wpAny_pure (wpAny_bind (ds_samePairs (show A.in1.units + 8 < cLine from by show A.units + 1 + 8 < cLine; omega) I D F ?_)))))
  exact wpAny_pure ⟨_, rfl, by simp, by simpa using q⟩
end
def rEqDS (P : Program) (w : World) : R2 := fun x y H Q => ∃ a b es fs, x = .ref a ∧ y = .ref b ∧ DRd P w H a es ∧ DRd P w H b fs ∧ Q (.bl (eqD es fs)) H
theorem op_eqDS {X : Cx} (hu : X.A.units + 64 < cLine) : OpR X (compareOp .Eq) (rEqDS X.prog X.w) := by
  intro pins s σ H x y u v Q I rx ry q
  obtain ⟨a, b, es, fs, rfl, rfl, D, F, q⟩ := q
  cases rx
  cases ry
  exact ds_eq (by omega) I D F ⟨.bl (eqD es fs), H, I, rfl, q⟩
/-! ### len(d), bool(d), for dicts of sheets -/
section
variable {X : Cx} {pins : List (Addr × Obj)} {σ : L2.St} {H : Hp} {s : Shared} {d : Addr} {es : DEs} {A : Around} {E : Value → Shared → Prop}
theorem ds_lenSlot {Q : Value → Shared → Prop} (I : Inv X pins σ H s) (D : DRd X.prog X.w H d es) (q : ∀ t s', Inv X pins σ H s' → Q (.int es.length t) s') : wpAny (model X.prog X.w) A (call (.builtin "dict.__len__") [.ref d]) Q E s := by
  have ty := (ds_dict (X := X) I D).1
  obtain ⟨low, _, xs, r, o, en, ep, ho, _, hd, he, _, _⟩ := ds_of I.hok D
  have few : en.size = es.length := ds_size he r
  refine wpAny_call_entry PySem.F.slot_dict_len ty PySem.F.entry_dict_len ?_ (PySem.F.args_dict_len_1 _)
  have self : wpAny (model X.prog X.w) A.in1 (Builtin.Dict.dictSlotNone "__len__" ⟨[.ref d], []⟩) (fun v s' => v = .ref d ∧ s' = s) E s := by
    unfold Builtin.Dict.dictSlotNone
    exact wpAny_bind (wpAny_notOrdered_dict ty (wpAny_pure ⟨rfl, rfl⟩))
  unfold Builtin.«dict.__len__»
  refine wpAny_bind (wpAny_mono self ?_ fun _ _ z => z)
  rintro v s' ⟨rfl, rfl⟩
  refine wpAny_bind (wpAny_pure ?_)
  unfold dictSize
  refine wpAny_bind (wpAny_bind (wpAny_dictEntries ho hd (wpAny_pure ?_)))
  have none : Builtin.Dict.pendingCount d = pure 0 := by
    unfold Builtin.Dict.pendingCount
    rw [low]
    rfl
  refine wpAny_bind (wpAny_of_eq none ?_)
  rw [few, show (es.length : Int) + ((0 : Nat) : Int) = (es.length : Int) by simp]
  exact wpAny_bind (wpAny_mkInt (wpAny_pure ⟨_, rfl, q _ _ (I.tok _)⟩))
theorem ds_lenBody {Q : Fin → Shared → Prop} (I : Inv X pins σ H s) (D : DRd X.prog X.w H d es) (q : ∀ t s', Inv X pins σ H s' → Q (.done (.ret (.int es.length t))) s') : wpAny (model X.prog X.w) A (Builtin.«len» ⟨[.ref d], []⟩) Q E s := by
  have few : (es.length : Int) < 2 ^ 63 := by
    have z : es.length ≤ sizeLine := (ds_of I.hok D).2.1
    have := line63
    omega
  unfold Builtin.«len»
  refine wpAny_bind (m := oneArg "len" _) (wpAny_pure ?_)
  refine wpAny_bind (m := callSpecial? (.ref d) (Str.ofString "__len__")) (wpAny_callSpecial?_slot (name := Str.ofString "__len__") (ds_dict (X := X) I D).1 PySem.F.slot_dict_len (ds_lenSlot I D fun t s' I' => ?_))
  refine wpAny_bind (wpAny_holding (wpAny_pure (wpAny_bind (wpAny_letGo ?_))))
  dsimp only
  rw [if_neg (show ¬ (es.length : Int) < 0 by omega), if_neg (show ¬ (es.length : Int) ≥ 2 ^ 63 by omega)]
  exact wpAny_bind (wpAny_mkInt (wpAny_pure (q _ _ (I'.tok _))))
theorem ds_truthy {Q : Bool → Shared → Prop} (I : Inv X pins σ H s) (D : DRd X.prog X.w H d es) (q : ∀ s', Inv X pins σ H s' → Q (!es.isEmpty) s') : wpAny (model X.prog X.w) A (truthy (.ref d)) Q E s := by
  have ty := (ds_dict (X := X) I D).1
  have size : wpAny (model X.prog X.w) A (runValue (.builtin "len" ⟨[.ref d], []⟩)) (fun r s' => ∃ t, r = .int es.length t ∧ Inv X pins σ H s') E s := by
    refine wpAny_runValue (codeAny_builtin entry_len ?_)
    rw [Around.under_plainId plain_len _]
    exact ds_lenBody I D fun t s' I' => ⟨t, rfl, I'⟩
  have ans : ((es.length : Int) != 0) = !es.isEmpty := by
    cases es with
    | nil => rfl
    | cons e es =>
      rw [List.length_cons]
      show (((es.length + 1 : Nat) : Int) != 0) = true
      rw [bne_iff_ne]
      omega
  unfold truthy
  refine wpAny_bind (wpAny_callSpecial?_none (name := Str.ofString "__bool__") ty noBool_dict ?_)
  refine wpAny_bind (wpAny_specialOf (name := Str.ofString "__len__") ty PySem.F.slot_dict_len.lookup ?_)
  refine wpAny_bind (wpAny_mono size ?_ fun _ _ z => z)
  rintro r s' ⟨t, rfl, I'⟩
  refine wpAny_pure ?_
  show Q ((es.length : Int) != 0) s'
  rw [ans]
  exact q s' I'
end
def rLenDS (P : Program) (w : World) : List V → Hp → VK → Prop := fun vs H Q => ∃ d es, vs = [.ref d] ∧ DRd P w H d es ∧ Q (.int es.length) H
theorem call_len_DS {X : Cx} : CallR X (.builtin "len") (rLenDS X.prog X.w) := by
  intro pins s σ H vs us Q I r q
  obtain ⟨d, es, rfl, D, q⟩ := q
  obtain ⟨u, rfl, ru⟩ := r.one
  cases ru
  exact Calls.call_function_entry kind_len plain_len entry_len (args_len1 _) (ds_lenBody I D fun t s' I' => ⟨_, rfl, .int es.length, H, I', ⟨t, rfl⟩, q⟩)
/-- bool(v), by the truth of v -/
theorem bool_truth {P : Program} {w : World} {A : Around} {E : Value → Shared → Prop} {s : Shared} {v : Value} {Q : Value → Shared → Prop} (tr : wpAny (model P w) A.in1.in1 (truthy v) (fun k s₁ => Q (.bool k) s₁) E s) : wpAny (model P w) A (call (.type "bool") [v]) Q E s := by
  refine callType_codes (T := "bool") (Bi := Builtin.«object.__init__») (Q₁ := fun r s₁ => ∃ k, r = Value.bool k ∧ Q r s₁) PySem.F.called_bool (PySem.F.typeCall_bool_1 _) PySem.F.entry_object_init ?_ ?_
  · refine codeAny_of_tree ?_
    show wpAny _ A.in1.in1 (do checkBuiltinCall "bool.__new__" ⟨[.type "bool", v], []⟩; again (.builtin "bool.__new__" ⟨[.type "bool", v], []⟩)) _ _ s
    refine wpAny_bind (wpAny_of_eq (PySem.F.newCall_bool_1 _) (wpAny_pure ⟨plainId_quiet (by decide +kernel) _, codeAny_builtin PySem.F.entry_bool_new ?_⟩))
    rw [Around.under_plainId (by decide +kernel) _]
    obtain ⟨hp, g, d, tk, os⟩ := s
    have f1 := F.conv_sub_bool
    repeat (any_goals (first | assumption | (with_reducible refine wpAny_mono tr (fun k s₁ q => ?_) fun _ _ z => z) | wp_step))
    all_goals first | exact ⟨_, rfl, q⟩ | skip
  · rintro obj s₁ ⟨k, rfl, hq⟩
    exact ⟨rfl, PySem.F.args_object_init_2 _ _, object_init_meets PySem.F.called_bool.init.lookup PySem.F.called_bool.made (by decide) P w A.in1 _ s₁ ⟨rfl, rfl, hq⟩⟩
def rBoolDS (P : Program) (w : World) : List V → Hp → VK → Prop := fun vs H Q => ∃ d es, vs = [.ref d] ∧ DRd P w H d es ∧ Q (.bl (!es.isEmpty)) H
theorem call_bool_DS {X : Cx} : CallR X (.type "bool") (rBoolDS X.prog X.w) := by
  intro pins s σ H vs us Q I r q
  obtain ⟨d, es, rfl, D, q⟩ := q
  obtain ⟨u, rfl, ru⟩ := r.one
  cases ru
  exact bool_truth (ds_truthy I D fun s' I' => ⟨.bl (!es.isEmpty), H, I', rfl, q⟩)
/-! ### the law's own draws -/
section
variable {base : Heap} {K : PySem.W.Frag} {mg : Str → Option Value} {P : Program} {w : World}
def spPull : Sp := fun vs H Q _ => ∃ (b sb : Addr) (n : Int), vs = [.ref b, .int n] ∧ Bag H b sb ∧ 0 < n ∧ n.natAbs < 2 ^ 100 ∧ ∀ z H', 0 ≤ z → z < n → Bag H' b sb → Keep b H H' → Q (.int z) H'
theorem ok_pull (T : Txt K mg) : FnOk P w K mg base CX0 1 T.f_pull T.d_pull ["_law_bag", "_law_size"] spPull := by
  refine T.F_pull.ok sc_pull (fun vs H Q E h => ?_) (fun cdv A outer s H vs Q E hr h => ?_)
  · obtain ⟨b, sb, n, rfl, _⟩ := h
    rfl
  · obtain ⟨b, s1, n, rfl, ⟨ns, i, j, m, c, B⟩, h0, h1, q⟩ := h
    refine ⟨_, (pss_cons (ps_asg (pe_op op_add (pe_ix ix_list (pv 0) pe_int (fun _ _ => rfl)) pe_int) (pg_sub (pv 0) pe_int set_list))
      (Evl.pss_cut (ps_if (PW.pt (pw_and (pt_cmpR op_eq (pe_ix ix_list (pv 0) pe_int (fun _ _ => rfl)) pe_int (nomark _)) (pw_and1 (pt_cmpR op_lt (pe_ix ix_list (pv 0) pe_int (fun _ _ => rfl)) (pe_callB call_len_seq (by rfl) T.n_len (by decide +kernel) (pa_cons (pe_ix ix_list (pv 0) pe_int (fun _ _ => rfl)) pa_nil)) (nomark _))))) (pss_cons (ps_set (i := 3) sc_pull.nd rfl (Or.inl rfl) (pe_ix ix_list (pe_ix ix_list (pv 0) pe_int (fun _ _ => rfl)) (pe_ix ix_list (pv 0) pe_int (fun _ _ => rfl)) (fun _ _ => rfl)))
      (pss_cons (ps_asg (pe_op op_add (pe_ix ix_list (pv 0) pe_int (fun _ _ => rfl)) pe_int) (pg_sub (pv 0) pe_int set_list))
      (pss_one (ps_if (pt_cmpR op_ge (pv 3) (pe_op op_pow pe_int pe_int) (nomark _)) (pss_one (ps_asg (pv 3) (pg_sub (pv 0) pe_int set_list))) (pss_cons (ps_set (i := 2) sc_pull.nd rfl (Or.inl rfl) (pe_op op_add (pe_op op_mul (pe_ix ix_list (pv 0) pe_int (fun _ _ => rfl)) pe_int) (pe_op op_mul (pe_op op_mod (pv 3) pe_int) pe_int)))
      (pss_one (ps_asg (pe_op op_mod (pe_op op_add (pv 2) pe_int) pe_int) (pg_sub (pv 0) pe_int set_list)))))))) pss_nil)
      (pss_cons (ps_if (pt_cmpR op_gt (pe_ix ix_list (pv 0) pe_int (fun _ _ => rfl)) pe_int (nomark _)) (pss_cons (ps_set (i := 4) sc_pull.nd rfl (Or.inl rfl) (pe_op op_mod (pe_ix ix_list (pv 0) pe_int (fun _ _ => rfl)) (pv 1)))
      (pss_cons (ps_asg (pe_op op_fdivW (pe_ix ix_list (pv 0) pe_int (fun _ _ => rfl)) (pv 1)) (pg_sub (pv 0) pe_int set_list))
      (pss_one (ps_ret (pv 4))))) pss_nil)
      (pss_cons (ps_set (i := 2) sc_pull.nd rfl (Or.inl rfl) (pe_op op_add (pe_op op_mul (pe_op op_mul (pe_ix ix_list (pv 0) pe_int (fun _ _ => rfl)) (pe_ix ix_list (pv 0) pe_int (fun _ _ => rfl))) pe_int) (pe_op op_mul (pe_ix ix_list (pv 0) pe_int (fun _ _ => rfl)) pe_int)))
      (pss_cons (ps_asg (pe_op op_mod (pe_op op_add (pv 2) (pe_op op_mul pe_int (pe_ix ix_list (pv 0) pe_int (fun _ _ => rfl)))) pe_int) (pg_sub (pv 0) pe_int set_list))
      (pss_one (ps_ret (pe_op op_mod (pe_op op_fdiv (pe_ix ix_list (pv 0) pe_int (fun _ _ => rfl)) pe_int) (pv 1))))))))), ?_⟩
    -- the count of the draws
    have B1 := B.put (j' := j) (c' := c + 1) B.i0 B.i1 B.m0 B.m1
    refine ⟨.ref b, rfl, b, _, 4, .int c, rfl, rfl, SqL.of B.hb, atI_nat (j := 4) rfl, c, 1, rfl, rfl, .ref b, rfl, b, _, 4, 4, rfl, rfl, B.hb, rfl, ?_⟩
    refine ⟨fun σ H' => ∃ y2 y3 y4, σ = [some (.ref b), some (.int n), y2, y3, y4] ∧ Bag H' b s1 ∧ Keep b H H', ?_, ?_⟩
    · -- the next cell of the script
      refine ⟨.ref b, rfl, b, _, 2, .int j, rfl, rfl, SqL.of B1.hb, atI_nat (j := 2) rfl, rfl, _, rfl, ite2 (fun e => ?_) (fun e => ?_)⟩
      · refine ⟨.ref b, rfl, b, _, 1, .int i, rfl, rfl, SqL.of B1.hb, atI_nat (j := 1) rfl, .ref b, rfl, b, _, 0, .ref s1, rfl, rfl, SqL.of B1.hb, atI_nat (j := 0) rfl, s1, _, rfl, .inl (SqL.of B1.hs), i, _, rfl, rfl, _, rfl, ite2 (fun e2 => ?_) (fun e2 => ?_)⟩
        · have e3 : i < (ns.length : Int) := by
            have := of_decide_eq_true e2
            rw [List.length_map] at this
            exact this
          obtain ⟨z, hz⟩ := at_ex B.i0 e3
          have B2 := B1.put (j' := j) (c' := c + 1) (show 0 ≤ i + 1 by have := B.i0; omega) (show i + 1 ≤ (ns.length : Int) by omega) B.m0 B.m1
          refine ⟨.ref b, rfl, b, _, 0, .ref s1, rfl, rfl, SqL.of B1.hb, atI_nat (j := 0) rfl, .ref b, rfl, b, _, 1, .int i, rfl, rfl, SqL.of B1.hb, atI_nat (j := 1) rfl, s1, _, i, _, rfl, rfl, SqL.of B1.hs, hz, ?_⟩
          refine ⟨.ref b, rfl, b, _, 1, .int i, rfl, rfl, SqL.of B1.hb, atI_nat (j := 1) rfl, i, 1, rfl, rfl, .ref b, rfl, b, _, 1, 1, rfl, rfl, B1.hb, rfl, ?_⟩
          refine ⟨_, rfl, 10, 18, rfl, rfl, ⟨by decide, by decide, by decide⟩, z, _, rfl, rfl, _, rfl, ite2 (fun e4 => ?_) (fun e4 => ?_)⟩
          · have B3 := B2.put (j' := z) (c' := c + 1) (show 0 ≤ i + 1 by have := B.i0; omega) (show i + 1 ≤ (ns.length : Int) by omega) B.m0 B.m1
            refine ⟨_, rfl, .ref b, rfl, b, _, 2, 2, rfl, rfl, B2.hb, rfl, ?_⟩
            exact ⟨_, _, _, rfl, ⟨ns, _, _, _, _, B3⟩, keep_put.trans (keep_put.trans keep_put)⟩
          · refine ⟨.ref b, rfl, b, _, 3, .int m, rfl, rfl, SqL.of B2.hb, atI_nat (j := 3) rfl, m, 40014, rfl, rfl, .inr ⟨by decide, by decide⟩, _, rfl, z, 2147483399, rfl, rfl, (by show (0 : Int) < 2147483399; decide), _, 69069, rfl, rfl, .inr ⟨by decide, by decide⟩, _, _, rfl, rfl, ?_⟩
            refine ⟨_, rfl, _, 11, rfl, rfl, _, 2147483399, rfl, rfl, (by show (0 : Int) < 2147483399; decide), .ref b, rfl, b, _, 3, 3, rfl, rfl, B2.hb, rfl, ?_⟩
            have B3 := B2.put (j' := j) (m' := (m * 40014 + z % 2147483399 * 69069 + 11) % 2147483399) (c' := c + 1) (show 0 ≤ i + 1 by have := B.i0; omega) (show i + 1 ≤ (ns.length : Int) by omega) (by omega) (by omega)
            exact ⟨_, _, _, rfl, ⟨ns, _, _, _, _, B3⟩, keep_put.trans (keep_put.trans keep_put)⟩
        · exact ⟨_, _, _, rfl, ⟨ns, _, _, _, _, B1⟩, keep_put⟩
      · exact ⟨_, _, _, rfl, ⟨ns, _, _, _, _, B1⟩, keep_put⟩
    · rintro σ H' ⟨y2, y3, y4, rfl, ⟨ns2, i2, j2, m2, c2, B2⟩, k2⟩
      refine ⟨.ref b, rfl, b, _, 2, .int j2, rfl, rfl, SqL.of B2.hb, atI_nat (j := 2) rfl, j2, 0, rfl, rfl, _, rfl, ite2 (fun e => ?_) (fun e => ?_)⟩
      · have B3 := B2.put (j' := j2 / n) (c' := c2) B2.i0 B2.i1 B2.m0 B2.m1
        refine ⟨.ref b, rfl, b, _, 2, .int j2, rfl, rfl, SqL.of B2.hb, atI_nat (j := 2) rfl, .int n, rfl, j2, n, rfl, rfl, h0, ?_⟩
        refine ⟨.ref b, rfl, b, _, 2, .int j2, rfl, rfl, SqL.of B2.hb, atI_nat (j := 2) rfl, .int n, rfl, j2, n, rfl, rfl, wide_div h0 h1 (by decide) (by decide), .ref b, rfl, b, _, 2, 2, rfl, rfl, B2.hb, rfl, ?_⟩
        exact ⟨_, rfl, q _ _ (Int.emod_nonneg _ (by omega)) (Int.emod_lt_of_pos _ h0) ⟨ns2, _, _, _, _, B3⟩ (k2.trans keep_put)⟩
      · have hm : -(2 ^ 64) < m2 ∧ m2 < 2 ^ 64 := ⟨by have := B2.m0; omega, by have := B2.m1; omega⟩
        refine ⟨.ref b, rfl, b, _, 3, .int m2, rfl, rfl, SqL.of B2.hb, atI_nat (j := 3) rfl, .ref b, rfl, b, _, 3, .int m2, rfl, rfl, SqL.of B2.hb, atI_nat (j := 3) rfl, m2, m2, rfl, rfl, .inl hm, _, 7, rfl, rfl, .inr ⟨by decide, by decide⟩,
          .ref b, rfl, b, _, 3, .int m2, rfl, rfl, SqL.of B2.hb, atI_nat (j := 3) rfl, m2, 40692, rfl, rfl, .inr ⟨by decide, by decide⟩, _, _, rfl, rfl, ?_⟩
        refine ⟨_, rfl, .ref b, rfl, b, _, 4, .int c2, rfl, rfl, SqL.of B2.hb, atI_nat (j := 4) rfl, 1013904223, c2, rfl, rfl, .inl ⟨by decide, by decide⟩, _, _, rfl, rfl, _, 2147483399, rfl, rfl, (by show (0 : Int) < 2147483399; decide), .ref b, rfl, b, _, 3, 3, rfl, rfl, B2.hb, rfl, ?_⟩
        have B3 := B2.put (j' := j2) (m' := (m2 * m2 * 7 + m2 * 40692 + 1013904223 * c2) % 2147483399) (c' := c2) B2.i0 B2.i1 (Int.emod_nonneg _ (by decide)) (Int.emod_lt_of_pos _ (by decide))
        refine ⟨.ref b, rfl, b, _, 3, _, rfl, rfl, SqL.of B3.hb, atI_nat (j := 3) rfl, _, 37, rfl, rfl, ⟨by decide, by decide⟩, .int n, rfl, _, n, rfl, rfl, h0, ?_⟩
        exact q _ _ (Int.emod_nonneg _ (by omega)) (Int.emod_lt_of_pos _ h0) ⟨ns2, _, _, _, _, B3⟩ (k2.trans keep_put)
def spOf : Sp := fun vs H Q _ => ∃ (b sb l : Addr) (xs : List V), vs = [.ref b, .ref l] ∧ Bag H b sb ∧ H l = some (.lst xs) ∧ l ≠ b ∧ 0 < xs.length ∧ xs.length ≤ 1000 ∧ ∀ (i : Nat) (v : V) (H' : Hp), xs[i]? = some v → Bag H' b sb → Keep b H H' → Q v H'
theorem ok_of (T : Txt K mg) : FnOk P w K mg base CX0 2 T.f_of T.d_of ["_law_bag", "_law_some"] spOf := by
  refine T.F_of.ok sc_of (fun vs H Q E h => ?_) (fun cdv A outer s H vs Q E hr h => ?_)
  · obtain ⟨b, sb, l, xs, rfl, _⟩ := h
    rfl
  · obtain ⟨b, sb, l, xs, rfl, B, hl, nl, h0, h1, q⟩ := h
    refine ⟨_, (pss_one (ps_ret (pe_ix ix_list (pv 1) (pe_call (ok_pull T) (hr.mono (by decide)) (by rfl) T.g_pull T.F_pull.kp T.b_pull .nil pass0 (pa_cons (pv 0) (pa_cons (pe_callB call_len_seq (by rfl) T.n_len (by decide +kernel) (pa_cons (pv 1) pa_nil)) pa_nil))) (fun _ _ => rfl)))), ?_⟩
    have hn : ((xs.length : Int)).natAbs < 2 ^ 100 := Nat.lt_of_le_of_lt (show (xs.length : Int).natAbs ≤ 1000 by omega) (by decide)
    refine ⟨.ref l, rfl, .ref b, rfl, .ref l, rfl, l, xs, rfl, .inl (SqL.of hl), b, sb, _, rfl, B, (by show (0 : Int) < (xs.length : Int); omega), hn, fun z H' z0 z1 B' k' => ?_⟩
    obtain ⟨v, e1, e2⟩ := at_some z0 z1
    exact ⟨l, xs, z, v, rfl, rfl, k'.list nl hl, e2, q _ _ _ e1 B' k'⟩
end
section
variable {base : Heap} {K : PySem.W.Frag} {mg : Str → Option Value} {P : Program} {w : World}
def okR (x : Int) : Bool := !inV (.int x) [.int 4, .int 9, .int 16, .int 25, .int 36, .int 49, .int 64, .int 81]
def rootsTo : Nat → List Int
  | 0 => []
  | n + 1 => if okR (2 + (n : Int)) = true then rootsTo n ++ [2 + (n : Int)] else rootsTo n
theorem rootsTo_len : ∀ n, (rootsTo n).length ≤ n
  | 0 => Nat.le_refl _
  | n + 1 => by
    have := rootsTo_len n
    unfold rootsTo
    split
    · rw [List.length_append]
      simp
      omega
    · omega
def IsRoot (d : Int) : Prop := 2 ≤ d ∧ d ≤ 99 ∧ ∃ k : Int, 0 ≤ k ∧ k * k < d ∧ d < (k + 1) * (k + 1)
def kOf (d : Int) : Int := if d < 4 then 1 else if d < 9 then 2 else if d < 16 then 3 else if d < 25 then 4 else if d < 36 then 5 else if d < 49 then 6 else if d < 64 then 7 else if d < 81 then 8 else 9
theorem roots_are {d : Int} (h : d ∈ rootsTo 98) : IsRoot d := by
  have z : ∀ d ∈ rootsTo 98, 2 ≤ d ∧ d ≤ 99 ∧ 0 ≤ kOf d ∧ kOf d * kOf d < d ∧ d < (kOf d + 1) * (kOf d + 1) := by decide +kernel
  obtain ⟨a, b, c⟩ := z d h
  exact ⟨a, b, kOf d, c⟩
theorem isRoot_by {d : Int} (h : 2 ≤ d ∧ d ≤ 99 ∧ 0 ≤ kOf d ∧ kOf d * kOf d < d ∧ d < (kOf d + 1) * (kOf d + 1)) : IsRoot d := ⟨h.1, h.2.1, kOf d, h.2.2⟩
def spRoots : Sp := fun vs H Q _ => vs = [] ∧ ∀ p H', H p = none → Same H H' → H' p = some (.lst ((rootsTo 98).map V.int)) → Q (.ref p) H'
theorem ok_roots (T : Txt K mg) : FnOk P w K mg base CX0 1 T.f_roots T.d_roots [] spRoots := by
  refine T.F_roots.ok sc_roots (fun vs H Q E h => ?_) (fun cdv A outer s H vs Q E hr h => ?_)
  · obtain ⟨rfl, _⟩ := h
    rfl
  · obtain ⟨rfl, q⟩ := h
    refine ⟨_, (pss_one (ps_ret (pe_lc (own := [("_law_d", 0)]) (g := (gName 0)) (tt := tTest (tOp (rIn K true) _ _)) (by rfl) sc_roots.nd (pi_range2 (by rfl) T.n_range (pa_cons pe_int (pa_cons pe_int pa_nil))) (blkOk_by (own := [("_law_d", 0)]) (N := ["_law_d"]) (sc := defScope s_roots) (by decide +kernel)) (fun _ _ _ _ _ => (pg_name (i := 0) sc_roots.nd rfl (Or.inl rfl))) (fun _ _ _ _ _ => (pts_one (pt_cmpR op_notIn_seq (pv 0) (pe_tup (pa_cons pe_int (pa_cons pe_int (pa_cons pe_int (pa_cons pe_int (pa_cons pe_int (pa_cons pe_int (pa_cons pe_int (pa_cons pe_int pa_nil))))))))) (by rfl)))) (fun _ _ _ _ _ => (pv 0))))), ?_⟩
    refine ⟨2, 100, rfl, ⟨by decide, by decide, by decide, by decide⟩, fun D hD => ?_⟩
    refine lc_range (lo := 2) (n := 98) (fun i H' => Same H H' ∧ H' D = some (.lst ((rootsTo i).map V.int))) ⟨same_new hD, upd_same⟩ ?_ ?_
    · rintro i H' hi ⟨sm, hd⟩
      refine ⟨rfl, _, rfl, (by show 8 ≤ sizeLine; decide), fun t ht => ?_⟩
      refine ⟨t, _, rfl, .inr (SqT.of upd_same), rfl, rfl, _, rfl, ?_⟩
      have hd2 : (upd H' t (.tup [.int 4, .int 9, .int 16, .int 25, .int 36, .int 49, .int 64, .int 81])) D = some (.lst ((rootsTo i).map V.int)) := (upd_ne (ne_of_none hd ht)).trans hd
      refine ite2 (fun e => ?_) (fun e => ?_)
      · refine ⟨_, rfl, _, hd2, ?_, ?_, ?_⟩
        · rw [List.length_map]
          have := rootsTo_len i
          exact small1000 (by omega)
        · exact fun a o z => (upd_ne (ne_of_none z hD)).trans ((sm.trans (same_new ht)) a o z)
        · rw [upd_same]
          have e' : okR (2 + (i : Int)) = true := e
          rw [show rootsTo (i + 1) = rootsTo i ++ [2 + (i : Int)] by
            show (if okR (2 + (i : Int)) = true then rootsTo i ++ [2 + (i : Int)] else rootsTo i) = _
            rw [if_pos e'], List.map_append]
          rfl
      · refine ⟨sm.trans (same_new ht), ?_⟩
        have e' : ¬ okR (2 + (i : Int)) = true := e
        rw [show rootsTo (i + 1) = rootsTo i by
          show (if okR (2 + (i : Int)) = true then rootsTo i ++ [2 + (i : Int)] else rootsTo i) = _
          rw [if_neg e']]
        exact hd2
    · rintro H' ⟨sm, hd⟩
      exact q D H' hD sm hd
end
section
variable {base : Heap} {K : PySem.W.Frag} {mg : Str → Option Value} {P : Program} {w : World}
def spARoot : Sp := fun vs H Q _ => ∃ b sb : Addr, vs = [.ref b] ∧ Bag H b sb ∧ ∀ d H', IsRoot d → Bag H' b sb → Keep b H H' → Q (.int d) H'
theorem root_in {i : Nat} {v : V} (h : ((rootsTo 98).map V.int)[i]? = some v) : ∃ d, v = .int d ∧ IsRoot d := by
  rw [List.getElem?_map] at h
  cases e : (rootsTo 98)[i]? with
  | none =>
    rw [e] at h
    cases h
  | some d =>
    rw [e] at h
    exact ⟨d, (Option.some.inj h).symm, roots_are (List.mem_of_getElem? e)⟩
theorem ok_a_root (T : Txt K mg) : FnOk P w K mg base CX0 3 T.f_a_root T.d_a_root ["_law_bag"] spARoot := by
  refine T.F_a_root.ok sc_a_root (fun vs H Q E h => ?_) (fun cdv A outer s H vs Q E hr h => ?_)
  · obtain ⟨b, sb, rfl, _⟩ := h
    rfl
  · obtain ⟨b, sb, rfl, B, q⟩ := h
    refine ⟨_, (pss_one (ps_ret (pe_call (ok_of T) (hr.mono (by decide)) (by rfl) T.g_of T.F_of.kp T.b_of .nil pass0 (pa_cons (pv 0) (pa_cons (pe_lst (pa_cons pe_int (pa_cons pe_int (pa_cons pe_int (pa_cons pe_int (pa_cons (pe_call (ok_of T) (hr.mono (by decide)) (by rfl) T.g_of T.F_of.kp T.b_of .nil pass0 (pa_cons (pv 0) (pa_cons (pe_call0 (ok_roots T) (hr.mono (by decide)) (by rfl) T.g_roots T.F_roots.kp T.b_roots .nil pass0) pa_nil))) (pa_cons (pe_call (ok_of T) (hr.mono (by decide)) (by rfl) T.g_of T.F_of.kp T.b_of .nil pass0 (pa_cons (pv 0) (pa_cons (pe_call0 (ok_roots T) (hr.mono (by decide)) (by rfl) T.g_roots T.F_roots.kp T.b_roots .nil pass0) pa_nil))) pa_nil))))))) pa_nil))))), ?_⟩
    have hz : ((rootsTo 98).map V.int).length = 90 := by decide +kernel
    refine ⟨.ref b, rfl, .ref b, rfl, rfl, fun p H1 hp s1 h1 => ?_⟩
    refine ⟨b, sb, p, _, rfl, B.same s1, h1, B.ne hp, by omega, by omega, fun i v H2 hv B2 k2 => ?_⟩
    obtain ⟨r1, rfl, i1⟩ := root_in hv
    refine ⟨.ref b, rfl, rfl, fun p' H3 hp' s3 h3 => ?_⟩
    refine ⟨b, sb, p', _, rfl, B2.same s3, h3, B2.ne hp', by omega, by omega, fun i' v' H4 hv' B4 k4 => ?_⟩
    obtain ⟨r2, rfl, i2⟩ := root_in hv'
    refine ⟨(by show 6 ≤ sizeLine; decide), fun l hl => ?_⟩
    refine ⟨b, sb, l, _, rfl, B4.new hl, upd_same, B4.ne hl, by simp, by simp, fun i v H5 hv B5 k5 => ?_⟩
    have kk : Keep b H H5 := (keep_of s1).trans (k2.trans ((keep_of s3).trans (k4.trans ((keep_new hl).trans k5))))
    match i, hv with
    | 0, hv => cases hv; exact q 2 H5 (isRoot_by (by decide)) B5 kk
    | 1, hv => cases hv; exact q 3 H5 (isRoot_by (by decide)) B5 kk
    | 2, hv => cases hv; exact q 5 H5 (isRoot_by (by decide)) B5 kk
    | 3, hv => cases hv; exact q 99 H5 (isRoot_by (by decide)) B5 kk
    | 4, hv => cases hv; exact q r1 H5 i1 B5 kk
    | 5, hv => cases hv; exact q r2 H5 i2 B5 kk
    | n + 6, hv => simp at hv
end
section
variable {base : Heap} {K : PySem.W.Frag} {mg : Str → Option Value} {P : Program} {w : World}
def spSource (K : PySem.W.Frag) : Sp := fun vs H Q _ => ∃ (a : Addr) (ns : List Int), vs = [.ref a] ∧ SqL K H a (ns.map V.int) ∧ ns.length ≤ 63 ∧ ∀ b sb H', H b = none → Same H H' → Bag H' b sb → Q (.ref b) H'
theorem ok_source (T : Txt K mg) : FnOk P w K mg base CX0 1 T.f_source T.d_source ["_law_script"] (spSource K) := by
  refine T.F_source.ok sc_source (fun vs H Q E h => ?_) (fun cdv A outer s H vs Q E hr h => ?_)
  · obtain ⟨a, ns, rfl, _⟩ := h
    rfl
  · obtain ⟨a, ns, rfl, hS, hlen, q⟩ := h
    refine ⟨_, (pss_cons (ps_set (i := 1) sc_source.nd rfl (Or.inl rfl) pe_int)
      (pss_cons (ps_for PassesOwn.never rfl (pi_list (pe_slice sl_list (pv 0) po_none (po_some pe_int))) (pg_name (i := 2) sc_source.nd rfl (Or.inl rfl)) (pss_one (ps_set (i := 1) sc_source.nd rfl (Or.inl rfl) (pe_op op_mod (pe_op op_add (pe_op op_add (pe_op op_mul (pv 1) pe_int) (pe_op op_mod (pv 2) pe_int)) pe_int) pe_int))))
      (pss_one (ps_ret (pe_lst (pa_cons (pe_callTy call_list_of (by rfl) T.n_list (by decide +kernel) (pa_cons (pe_slice sl_list (pv 0) po_none (po_some pe_int)) pa_nil)) (pa_cons pe_int (pa_cons pe_int (pa_cons (pv 1) (pa_cons pe_int pa_nil)))))))))), ?_⟩
    have hcut : cutV (ns.map V.int) none (some 63) = ns.map V.int := by
      unfold cutV
      rw [HT.sIx_none, show HT.sIx (ns.map V.int).length (ns.map V.int).length (some 63) = min 63 (ns.map V.int).length from HT.sIx_nat _ _ 63]
      rw [List.drop_zero, List.length_map, Nat.sub_zero, Nat.min_eq_right hlen]
      exact List.take_of_length_le (by rw [List.length_map]; exact Nat.le_refl _)
    refine ⟨.ref a, rfl, 63, rfl, a, _, rfl, hS, fun p hp => ?_⟩
    rw [hcut]
    refine ⟨p, rfl, ⟨_, SqL.of upd_same⟩, for_list (K := K) (a := p) (xs := ns.map V.int) (fun i σ H2 => ∃ (m : Int) (y : Option V), σ = [some (.ref a), some (.int m), y] ∧ 0 ≤ m ∧ m < 2147483399 ∧ H2 = upd H p (.lst (ns.map V.int)))
      ⟨3812, none, rfl, by decide, by decide, rfl⟩ (fun i σ H2 _ ⟨_, _, _, _, _, e⟩ => by rw [e]; exact SqL.of upd_same) ?_ ?_⟩
    · rintro i x σ H2 hx ⟨m, y, rfl, m0, m1, rfl⟩
      obtain ⟨z, rfl⟩ : ∃ z, x = V.int z := by
        rw [List.getElem?_map] at hx
        cases e : ns[i]? with
        | none =>
          rw [e] at hx
          cases hx
        | some z =>
          rw [e] at hx
          exact ⟨z, (Option.some.inj hx).symm⟩
      refine ⟨_, rfl, m, 40692, rfl, rfl, .inr ⟨by decide, by decide⟩, _, rfl, z, 2147483399, rfl, rfl, (by show (0 : Int) < 2147483399; decide), _, _, rfl, rfl, _, 17, rfl, rfl, _, 2147483399, rfl, rfl, (by show (0 : Int) < 2147483399; decide), ?_⟩
      exact ⟨_, _, rfl, Int.emod_nonneg _ (by decide), Int.emod_lt_of_pos _ (by decide), rfl⟩
    · rintro σ H2 ⟨m, y, rfl, m0, m1, rfl⟩
      have hS2 : SqL K (upd H p (.lst (ns.map V.int))) a (ns.map V.int) := (same_new hp).seq hS
      refine ⟨.ref a, rfl, 63, rfl, a, _, rfl, hS2, fun p2 hp2 => ?_⟩
      rw [hcut]
      refine ⟨p2, _, rfl, .inl (SqL.of upd_same), fun l hl => ?_⟩
      refine ⟨_, rfl, (by show 5 ≤ sizeLine; decide), fun b hb => ?_⟩
      have sm : Same H (upd (upd (upd (upd H p (.lst (ns.map V.int))) p2 (.lst (ns.map V.int))) l (.lst (ns.map V.int))) b (.lst [.ref l, .int 0, .int 0, .int m, .int 0])) := (same_new hp).trans ((same_new hp2).trans ((same_new hl).trans (same_new hb)))
      exact q b l _ (((same_new hp).trans ((same_new hp2).trans (same_new hl))).free hb) sm ⟨ns, 0, 0, m, 0, upd_same, same_new hb _ _ upd_same, Int.le_refl _, by omega, m0, m1⟩
end
/-! ### calls of a def with a star parameter -/
section
variable {X : Cx}
theorem pe_callR {CX : CXT} {k : Nat} {f : Addr} {sp : Sp} {E : XK} {x : Str} {p pos : Pos} {e : Expr} {es : List Expr} {t : TA}
    (F : FnR X.prog X.w X.K X.mg X.base CX k f sp) (hr : Room k X.A) (hg : Gl X x) (hm : X.mg x = some (.ref f)) (hk : PySem.W.keepIn X.K (.ref f) = true) (hx : Passes CX X E) (ha : PA X (e :: es) t)
    (hdb : (x == ("__debug__" : Str)) = false := by decide) (he : starEach (e :: es) X.env = (false, eval e X.env) :: starEach es X.env := by rfl)
    (hpl : (backTo pos (starEach es X.env)).any (·.1) = false := by rfl) :
    PE X (.Call (.Name x p) (e :: es) [] pos) (fun σ H Q => t σ H fun vs H1 => sp vs H1 Q E) :=
  ⟨fun pins s σ H Q I h => wpAny_Call_Name_kw (ld_glob I hg hm (PySem.W.callWith_K (h₀ := X.base) I.ok.mod.kin hk
    (thn (ha.run pos pins s σ H _ I h) fun us s1 ⟨vs, H1, I1, r, q⟩ => ⟨I1.kIn, wpAny_call (run_fnR F hr hx I1 r q)⟩) he hpl) hdb)⟩
theorem pe_callR0 {CX : CXT} {k : Nat} {f : Addr} {sp : Sp} {E : XK} {x : Str} {p pos : Pos}
    (F : FnR X.prog X.w X.K X.mg X.base CX k f sp) (hr : Room k X.A) (hg : Gl X x) (hm : X.mg x = some (.ref f)) (hk : PySem.W.keepIn X.K (.ref f) = true) (hx : Passes CX X E)
    (hdb : (x == ("__debug__" : Str)) = false := by decide) : PE X (.Call (.Name x p) [] [] pos) (fun _ H Q => sp [] H Q E) :=
  ⟨fun pins s σ H Q I h => wpAny_Call_Name_kw (ld_glob I hg hm (PySem.W.callWith_K0 I.kIn hk (wpAny_call (run_fnR (us := []) F hr hx I .nil h))) hdb)⟩
end
/-! ### lists of ints that comprehensions make -/
def Pt (H : Hp) (D : Addr) (ns : List Int) (i : Nat) (H' : Hp) : Prop := Same H H' ∧ H' D = some (.lst ((ns.take i).map V.int))
theorem pt_step {H H' : Hp} {D : Addr} {ns : List Int} {i : Nat} {z : Int} (h : Pt H D ns i H') (hD : H D = none) (hz : ns[i]? = some z) : Pt H D ns (i + 1) (upd H' D (.lst ((ns.take i).map V.int ++ [.int z]))) := by
  refine ⟨fun a o e => (upd_ne (ne_of_none e hD)).trans (h.1 a o e), ?_⟩
  rw [upd_same, List.take_add_one, hz, List.map_append]
  rfl
theorem pt_size {ns : List Int} {i : Nat} (h : ns.length ≤ 1000) : ((ns.take i).map V.int).length < sizeLine := by
  rw [List.length_map, List.length_take]
  exact small1000 (by omega)
theorem pt_end {H H' : Hp} {D : Addr} {ns : List Int} {i : Nat} (h : Pt H D ns i H') (hi : ns.length ≤ i) : Same H H' ∧ H' D = some (.lst (ns.map V.int)) := by
  have := h.2
  rw [List.take_of_length_le hi] at this
  exact ⟨h.1, this⟩
/-! ### pairs -/
def PairAt (K : PySem.W.Frag) (H : Hp) (v : V) (x y : Int) : Prop := ∃ t : Addr, v = .ref t ∧ SqT K H t [.int x, .int y]
theorem PairAt.same {K : PySem.W.Frag} {H H' : Hp} {v : V} {x y : Int} (h : PairAt K H v x y) (s : Same H H') : PairAt K H' v x y := by
  obtain ⟨t, e, h⟩ := h
  exact ⟨t, e, Evl.ex_t (show Evl.Ex H H' from s) h⟩
inductive PairsAt (K : PySem.W.Frag) (H : Hp) : List V → List (Int × Int) → Prop
  | nil : PairsAt K H [] []
  | cons {v : V} {vs : List V} {x y : Int} {ps : List (Int × Int)} : PairAt K H v x y → PairsAt K H vs ps → PairsAt K H (v :: vs) ((x, y) :: ps)
theorem PairsAt.get {K : PySem.W.Frag} {H : Hp} : ∀ {vs : List V} {ps : List (Int × Int)}, PairsAt K H vs ps → ∀ {i : Nat} {v : V}, vs[i]? = some v → ∃ x y, ps[i]? = some (x, y) ∧ PairAt K H v x y := by
  intro vs ps h
  induction h with
  | nil =>
    intro i v h
    simp at h
  | cons p t ih =>
    intro i v h
    cases i with
    | zero =>
      cases h
      exact ⟨_, _, rfl, p⟩
    | succ i => exact ih (i := i) (by simpa using h)
theorem PairsAt.same {K : PySem.W.Frag} {H H' : Hp} (s : Same H H') : ∀ {vs : List V} {ps : List (Int × Int)}, PairsAt K H vs ps → PairsAt K H' vs ps := by
  intro vs ps h
  induction h with
  | nil => exact .nil
  | cons p t ih => exact .cons (p.same s) ih
theorem PairsAt.len {K : PySem.W.Frag} {H : Hp} : ∀ {vs : List V} {ps : List (Int × Int)}, PairsAt K H vs ps → vs.length = ps.length
  | _, _, .nil => rfl
  | _, _, .cons p t => congrArg Nat.succ t.len
def s1 (ps : List (Int × Int)) : Int := (ps.map (·.1)).sum
def s2 (ps : List (Int × Int)) : Int := (ps.map (·.2)).sum
/-- a new pair -/
def NewPair (H : Hp) (x y : Int) (Q : VK) : Prop := ∀ p H', H p = none → Same H H' → H' p = some (.tup [.int x, .int y]) → Q (.ref p) H'
/-! ### added -/
section
variable {base : Heap} {K : PySem.W.Frag} {mg : Str → Option Value} {P : Program} {w : World}
def spAdded (K : PySem.W.Frag) : Sp := fun vs H Q _ => ∃ ps : List (Int × Int), PairsAt K H vs ps ∧ ps.length ≤ 1000 ∧ NewPair H (s1 ps) (s2 ps) Q
def spAddedB (K : PySem.W.Frag) : Sp := fun vs H Q _ => ∃ (t : Addr) (xs : List V) (ps : List (Int × Int)), vs = [.ref t] ∧ H t = some (.tup xs) ∧ PairsAt K H xs ps ∧ ps.length ≤ 1000 ∧ NewPair H (s1 ps) (s2 ps) Q
theorem ok_added (T : Txt K mg) : FnR P w K mg base CX0 1 T.f_added (spAdded K) := by
  obtain ⟨o1, o2, v1, v2, v3, a1, v4, v5, sl1, e1, r1, r2⟩ := T.F_added.ex
  have r1' := r1
  rw [e1] at r1'
  refine FnR.imp (StX.fn_star (ps := []) (pv := "pairs") (sp := spAddedB K) (N := ["pairs", "a", "b"]) r1' r2 sc_added StX.cxUp_none ?_ ?_) ?_
  · intro us rest hu
    match us, rest, hu with
    | [], [], _ => rfl
    | [], _ :: _, _ => rfl
  · intro A outer s H vs Q E hr h
    obtain ⟨t, xs, ps, rfl, ht, hp, hn, q⟩ := h
    refine ⟨_, PSs.nox (pss_one (ps_ret (pe_tup (pa_cons (pe_callB (cr_sum rfl) (by rfl) T.n_sum (by decide +kernel) (pa_cons (pe_lc (own := [("a", 1), ("b", 2)]) (g := (gTup K 2 (gCons (gName 1) (gCons (gName 2) gNil)))) (tt := tYes) (by rfl) sc_added.nd (pi_tup (pv 0)) (blkOk_by (own := [("a", 1), ("b", 2)]) (N := ["pairs", "a", "b"]) (sc := defScope s_added) (by decide +kernel)) (fun _ _ _ _ _ => (pg_tup (by rfl) (pgs_cons (pg_name (i := 1) sc_added.nd rfl (Or.inl rfl)) (pgs_cons (pg_name (i := 2) sc_added.nd rfl (Or.inl rfl)) pgs_nil)))) (fun _ _ _ _ _ => pts_nil) (fun _ _ _ _ _ => (pv 1))) pa_nil)) (pa_cons (pe_callB (cr_sum rfl) (by rfl) T.n_sum (by decide +kernel) (pa_cons (pe_lc (own := [("a", 1), ("b", 2)]) (g := (gTup K 2 (gCons (gName 1) (gCons (gName 2) gNil)))) (tt := tYes) (by rfl) sc_added.nd (pi_tup (pv 0)) (blkOk_by (own := [("a", 1), ("b", 2)]) (N := ["pairs", "a", "b"]) (sc := defScope s_added) (by decide +kernel)) (fun _ _ _ _ _ => (pg_tup (by rfl) (pgs_cons (pg_name (i := 1) sc_added.nd rfl (Or.inl rfl)) (pgs_cons (pg_name (i := 2) sc_added.nd rfl (Or.inl rfl)) pgs_nil)))) (fun _ _ _ _ _ => pts_nil) (fun _ _ _ _ _ => (pv 2))) pa_nil)) pa_nil))))), ?_⟩
    have hl := hp.len
    refine ⟨_, rfl, t, rfl, ⟨_, SqT.of ht⟩, fun D hD => lc_tup (K := K) (a := t) (xs := xs) (Pt H D (ps.map (·.1))) ⟨same_new hD, upd_same⟩ (fun i H' _ h => SqT.of (h.1 _ _ ht)) (fun i x H' hx hP => ?_) (fun H1 hP => ?_)⟩
    · obtain ⟨c, e, hc, u, rfl, hu⟩ := hp.get hx
      refine ⟨u, _, rfl, Evl.ex_t (show Evl.Ex H H' from hP.1) hu, rfl, .int c, [.int e], rfl, .int e, [], rfl, rfl, rfl, ⟨_, rfl, _, hP.2, pt_size (by rw [List.length_map]; exact hn), pt_step hP hD ?_⟩⟩
      rw [List.getElem?_map, hc]
      rfl
    obtain ⟨e1, f1⟩ := pt_end hP (by rw [List.length_map]; omega)
    refine ⟨D, _, rfl, SqL.of f1, ?_⟩
    refine ⟨_, rfl, t, rfl, ⟨_, SqT.of (e1 _ _ ht)⟩, fun D2 hD2 => lc_tup (K := K) (a := t) (xs := xs) (Pt H1 D2 (ps.map (·.2))) ⟨same_new hD2, upd_same⟩ (fun i H' _ h => SqT.of (h.1 _ _ (e1 _ _ ht))) (fun i x H' hx hP => ?_) (fun H2 hP => ?_)⟩
    · obtain ⟨c, e, hc, u, rfl, hu⟩ := hp.get hx
      refine ⟨u, _, rfl, Evl.ex_t (show Evl.Ex H H' from e1.trans hP.1) hu, rfl, .int c, [.int e], rfl, .int e, [], rfl, rfl, rfl, ⟨_, rfl, _, hP.2, pt_size (by rw [List.length_map]; exact hn), pt_step hP hD2 ?_⟩⟩
      rw [List.getElem?_map, hc]
      rfl
    obtain ⟨e2, f2⟩ := pt_end hP (by rw [List.length_map]; omega)
    exact ⟨D2, _, rfl, SqL.of f2, by show 2 ≤ sizeLine; decide, fun p hp => q p _ ((e1.trans e2).free hp) ((e1.trans e2).trans (same_new hp)) upd_same⟩
  · rintro vs H Q E ⟨ps, hp, hl, q⟩
    refine ⟨[], vs, rfl, rfl, Nat.le_of_lt (small1000 (by rw [hp.len]; exact hl)), fun p hpn => ⟨p, vs, ps, rfl, upd_same, hp.same (same_new hpn), hl, fun p' H' hp' sm h' => ?_⟩⟩
    exact q p' H' ((same_new hpn).free hp') ((same_new hpn).trans sm) h'
end
/-! ### scaled -/
section
variable {base : Heap} {K : PySem.W.Frag} {mg : Str → Option Value} {P : Program} {w : World}
def spScaled (K : PySem.W.Frag) : Sp := fun vs H Q _ => ∃ (v : V) (x y n : Int), vs = [v, .int n] ∧ PairAt K H v x y ∧ x.natAbs < 2 ^ 9000 ∧ y.natAbs < 2 ^ 9000 ∧ n.natAbs < 2 ^ 9000 ∧ NewPair H (x * n) (y * n) Q
theorem ok_scaled (T : Txt K mg) : FnOk P w K mg base CX0 1 T.f_scaled T.d_scaled ["pair", "number"] (spScaled K) := by
  refine T.F_scaled.ok sc_scaled (fun vs H Q E h => ?_) (fun cdv A outer s H vs Q E hr h => ?_)
  · obtain ⟨v, x, y, n, rfl, _⟩ := h
    rfl
  · obtain ⟨v, x, y, n, rfl, ⟨t, rfl, ht⟩, x1, y1, n1, q⟩ := h
    refine ⟨_, (pss_cons (ps_asg (pv 0) (pg_tup (by rfl) (pgs_cons (pg_name (i := 2) sc_scaled.nd rfl (Or.inl rfl)) (pgs_cons (pg_name (i := 3) sc_scaled.nd rfl (Or.inl rfl)) pgs_nil))))
      (pss_one (ps_ret (pe_tup (pa_cons (pe_op op_mulW (pv 2) (pv 1)) (pa_cons (pe_op op_mulW (pv 3) (pv 1)) pa_nil)))))), ?_⟩
    refine ⟨_, rfl, t, _, rfl, ht, rfl, .int x, [.int y], rfl, .int y, [], rfl, rfl, ?_⟩
    exact ⟨_, rfl, _, rfl, x, n, rfl, rfl, wide_mul x1 n1 (by decide) (by decide) (by decide), _, rfl, _, rfl, y, n, rfl, rfl, wide_mul y1 n1 (by decide) (by decide) (by decide), by show 2 ≤ sizeLine; decide, fun p hp => q p _ hp (same_new hp) upd_same⟩
end
/-! ### tuples stay -/
theorem tup_keep {H H' : Hp} {b sb : Addr} (B : Bag H b sb) (k : Keep b H H') (p : Addr) (xs : List V) (h : H p = some (.tup xs)) : H' p = some (.tup xs) := k _ _ (B.tup h) h
theorem tup_put {H : Hp} {l : Addr} {ys zs : List V} (hl : H l = some (.lst ys)) (p : Addr) (xs : List V) (h : H p = some (.tup xs)) : (upd H l (.lst zs)) p = some (.tup xs) := (upd_ne (ne_of h hl (by intro z; cases z))).trans h
theorem tup_same {H H' : Hp} (s : Same H H') (p : Addr) (xs : List V) (h : H p = some (.tup xs)) : H' p = some (.tup xs) := s _ _ h
/-! ### alike, from its parts -/
/-! ### the sign by squares -/
def ab (i : Int) : Int := if i < 0 then -i else i
def vl (a b d : Int) : Int := a * ab a + d * b * ab b
def sgnI (x : Int) : Int := (if decide (0 < x) = true then 1 else 0) - (if decide (x < 0) = true then 1 else 0)
theorem sgnI_pos {x : Int} (h : 0 < x) : sgnI x = 1 := by
  unfold sgnI
  rw [if_pos (decide_eq_true h), if_neg (by simp; omega)]
  rfl
theorem sgnI_neg {x : Int} (h : x < 0) : sgnI x = -1 := by
  unfold sgnI
  rw [if_neg (by simp; omega), if_pos (decide_eq_true h)]
  rfl
theorem sgnI_zero : sgnI 0 = 0 := by decide
theorem ab_abs (i : Int) : (ab i).natAbs = i.natAbs := by
  unfold ab
  split <;> omega
theorem ab_neg {i : Int} (h : i < 0) : ab i = -i := if_pos h
theorem ab_nn {i : Int} (h : 0 ≤ i) : ab i = i := if_neg (by omega)
section
variable {base : Heap} {K : PySem.W.Frag} {mg : Str → Option Value} {P : Program} {w : World}
def spSign (K : PySem.W.Frag) : Sp := fun vs H Q _ => ∃ (t : Addr) (d a b : Int), vs = [.ref t, .int d] ∧ SqT K H t [.int a, .int b] ∧ d.natAbs < 2 ^ 64 ∧ a.natAbs < 2 ^ 9000 ∧ b.natAbs < 2 ^ 9000 ∧ Q (.int (sgnI (vl a b d))) H
theorem ok_lsign (T : Txt K mg) : FnOk P w K mg base CX0 1 T.f_lsign T.d_lsign ["_law_pair", "_law_root"] (spSign K) := by
  refine T.F_lsign.ok sc_lsign (fun vs H Q E h => ?_) (fun cdv A outer s H vs Q E hr h => ?_)
  · obtain ⟨t, d, a, b, rfl, _⟩ := h
    rfl
  · obtain ⟨t, d, a, b, rfl, hT, d1, a1, b1, q⟩ := h
    refine ⟨_, (pss_cons (ps_set (i := 2) sc_lsign.nd rfl (Or.inl rfl) (pe_op op_add (pe_op op_mulW (pe_ix ix_tup (pv 0) pe_int (fun _ _ => rfl)) (pe_callB call_abs (by rfl) T.n_abs (by decide +kernel) (pa_cons (pe_ix ix_tup (pv 0) pe_int (fun _ _ => rfl)) pa_nil))) (pe_op op_mulW (pe_op op_mulW (pv 1) (pe_ix ix_tup (pv 0) pe_int (fun _ _ => rfl))) (pe_callB call_abs (by rfl) T.n_abs (by decide +kernel) (pa_cons (pe_ix ix_tup (pv 0) pe_int (fun _ _ => rfl)) pa_nil)))))
      (pss_one (ps_ret (pe_op op_sub (pe_callTy call_int1 (by rfl) T.n_int (by decide +kernel) (pa_cons (pe_cmpR op_gt (pv 2) pe_int (nomark _)) pa_nil)) (pe_callTy call_int1 (by rfl) T.n_int (by decide +kernel) (pa_cons (pe_cmpR op_lt (pv 2) pe_int (nomark _)) pa_nil)))))), ?_⟩
    have a2 : (ab a).natAbs < 2 ^ 9000 := by rw [ab_abs]; exact a1
    have b2 : (ab b).natAbs < 2 ^ 9000 := by rw [ab_abs]; exact b1
    have m1 : (d * b).natAbs < 2 ^ (64 + 9000) := wide_lt d1 b1
    refine ⟨_, rfl, t, _, 0, .int a, rfl, rfl, hT, atI_nat (j := 0) rfl, _, rfl, t, _, 0, .int a, rfl, rfl, hT, atI_nat (j := 0) rfl, a, rfl, a, _, rfl, rfl, wide_mul a1 a2 (by decide) (by decide) (by decide),
      _, rfl, _, rfl, t, _, 1, .int b, rfl, rfl, hT, atI_nat (j := 1) rfl, d, b, rfl, rfl, wide_mul d1 b1 (by decide) (by decide) (by decide), _, rfl, t, _, 1, .int b, rfl, rfl, hT, atI_nat (j := 1) rfl, b, rfl, _, _, rfl, rfl, wide_mul m1 b2 (by decide) (by decide) (by decide), _, _, rfl, rfl, ?_⟩
    exact ⟨_, rfl, vl a b d, 0, rfl, rfl, .inr ⟨_, rfl, _, rfl, vl a b d, 0, rfl, rfl, .inr ⟨_, rfl, _, _, rfl, rfl, q⟩⟩⟩
end
/-! ### sign, compare, is_length -/
section
variable {base : Heap} {K : PySem.W.Frag} {mg : Str → Option Value} {P : Program} {w : World}
def spPSign (K : PySem.W.Frag) : Sp := fun vs H Q _ => ∃ (v : V) (d a b : Int), vs = [v, .int d] ∧ PairAt K H v a b ∧ d.natAbs < 2 ^ 64 ∧ a.natAbs < 2 ^ 9000 ∧ b.natAbs < 2 ^ 9000 ∧ Q (.int (sgnI (vl a b d))) H
theorem ok_sign (T : Txt K mg) : FnOk P w K mg base CX0 1 T.f_sign T.d_sign ["pair", "root"] (spPSign K) := by
  refine T.F_sign.ok sc_sign (fun vs H Q E h => ?_) (fun cdv A outer s H vs Q E hr h => ?_)
  · obtain ⟨t, d, a, b, rfl, _⟩ := h
    rfl
  · obtain ⟨v, d, a, b, rfl, ⟨t, rfl, hT⟩, d1, a1, b1, q⟩ := h
    refine ⟨_, (pss_cons (ps_asg (pv 0) (pg_tup (by rfl) (pgs_cons (pg_name (i := 3) sc_sign.nd rfl (Or.inl rfl)) (pgs_cons (pg_name (i := 4) sc_sign.nd rfl (Or.inl rfl)) pgs_nil))))
      (pss_cons (ps_set (i := 2) sc_sign.nd rfl (Or.inl rfl) (pe_op op_add (pe_op op_mulW (pv 3) (pe_callB call_abs (by rfl) T.n_abs (by decide +kernel) (pa_cons (pv 3) pa_nil))) (pe_op op_mulW (pe_op op_mulW (pv 1) (pv 4)) (pe_callB call_abs (by rfl) T.n_abs (by decide +kernel) (pa_cons (pv 4) pa_nil)))))
      (pss_cons (ps_if (pt_cmpR op_gt (pv 2) pe_int (nomark _)) (pss_one (ps_ret pe_int)) pss_nil)
      (pss_cons (ps_if (pt_cmpR op_lt (pv 2) pe_int (nomark _)) (pss_one (ps_ret (pe_un un_neg pe_int))) pss_nil)
      (pss_one (ps_ret pe_int)))))), ?_⟩
    have a2 : (ab a).natAbs < 2 ^ 9000 := by rw [ab_abs]; exact a1
    have b2 : (ab b).natAbs < 2 ^ 9000 := by rw [ab_abs]; exact b1
    have m1 : (d * b).natAbs < 2 ^ (64 + 9000) := wide_lt d1 b1
    refine ⟨_, rfl, t, _, rfl, hT, rfl, .int a, [.int b], rfl, .int b, [], rfl, rfl, ?_⟩
    refine ⟨_, rfl, _, rfl, a, rfl, a, _, rfl, rfl, wide_mul a1 a2 (by decide) (by decide) (by decide),
      _, rfl, _, rfl, d, b, rfl, rfl, wide_mul d1 b1 (by decide) (by decide) (by decide), _, rfl, b, rfl, _, _, rfl, rfl, wide_mul m1 b2 (by decide) (by decide) (by decide), _, _, rfl, rfl, ?_⟩
    refine ⟨_, rfl, vl a b d, 0, rfl, rfl, _, rfl, ite2 (fun e => ?_) (fun e => ?_)⟩
    · rw [sgnI_pos (of_decide_eq_true e)] at q
      exact q
    · have e1 : ¬ 0 < vl a b d := fun z => e (decide_eq_true z)
      refine ⟨_, rfl, vl a b d, 0, rfl, rfl, _, rfl, ite2 (fun e => ?_) (fun e => ?_)⟩
      · rw [sgnI_neg (of_decide_eq_true e)] at q
        exact ⟨1, rfl, q⟩
      · have e2 : ¬ vl a b d < 0 := fun z => e (decide_eq_true z)
        rw [show vl a b d = 0 by omega, sgnI_zero] at q
        exact q
end
section
variable {base : Heap} {K : PySem.W.Frag} {mg : Str → Option Value} {P : Program} {w : World}
def spIsLen (K : PySem.W.Frag) : Sp := fun vs H Q _ => ∃ (v : V) (d a b : Int), vs = [v, .int d] ∧ PairAt K H v a b ∧ d.natAbs < 2 ^ 64 ∧ a.natAbs < 2 ^ 9000 ∧ b.natAbs < 2 ^ 9000 ∧ Q (.bl (decide (0 < sgnI (vl a b d)))) H
theorem ok_is_length (T : Txt K mg) : FnOk P w K mg base CX0 2 T.f_is_length T.d_is_length ["pair", "root"] (spIsLen K) := by
  refine T.F_is_length.ok sc_is_length (fun vs H Q E h => ?_) (fun cdv A outer s H vs Q E hr h => ?_)
  · obtain ⟨v, d, a, b, rfl, _⟩ := h
    rfl
  · obtain ⟨v, d, a, b, rfl, h1, d1, a1, b1, q⟩ := h
    refine ⟨_, (pss_one (ps_ret (pe_cmpR op_gt (pe_call (ok_sign T) (hr.mono (by decide)) (by rfl) T.g_sign T.F_sign.kp T.b_sign .nil pass0 (pa_cons (pv 0) (pa_cons (pv 1) pa_nil))) pe_int (nomark _)))), ?_⟩
    exact ⟨_, rfl, _, rfl, v, d, a, b, rfl, h1, d1, a1, b1, _, 0, rfl, rfl, q⟩
end
/-! ### whole_root, floor_of -/
theorem bits_up {n : Int} (h : 0 ≤ n) : n < 2 ^ (Builtin.Int.intBits n) := by
  obtain ⟨m, rfl⟩ := Int.eq_ofNat_of_zero_le h
  have h1 : (m : Int).natAbs = m := rfl
  have h2 : m < 2 ^ (Builtin.Int.intBits (m : Int)) := by
    unfold Builtin.Int.intBits
    rw [h1]
    split
    · rename_i z
      have z' : m = 0 := by
        first
          | exact z
          | (have := z; simp at this; omega)
      subst z'
      decide
    · exact Nat.lt_log2_self
  have h3 : ((m : Nat) : Int) < ((2 ^ (Builtin.Int.intBits (m : Int)) : Nat) : Int) := by exact_mod_cast h2
  rw [Int.natCast_pow] at h3
  exact h3
theorem bits_le {n : Int} {k : Nat} (hk : 0 < k) (h : n.natAbs < 2 ^ k) : Builtin.Int.intBits n ≤ k := by
  have := PySem.Flt.log2_lt_of hk h
  unfold Builtin.Int.intBits
  split
  · omega
  · omega
theorem guess_up {n : Int} {k : Nat} (h : 0 ≤ n) (hk : Builtin.Int.intBits n ≤ 2 * k) : n < (1 * 2 ^ k + 1) * (1 * 2 ^ k + 1) := by
  have h1 := bits_up h
  have h2 : (2 : Int) ^ (Builtin.Int.intBits n) ≤ 2 ^ (2 * k) := by
    have : 2 ^ (Builtin.Int.intBits n) ≤ 2 ^ (2 * k) := Nat.pow_le_pow_right (by decide) hk
    exact_mod_cast this
  have h3 : (2 : Int) ^ (2 * k) = 2 ^ k * 2 ^ k := by
    rw [Nat.two_mul, Int.pow_add]
  have h4 : (0 : Int) ≤ 2 ^ k := by
    have : 0 ≤ (2 ^ k : Nat) := Nat.zero_le _
    exact_mod_cast this
  rw [h3] at h2
  generalize (2 : Int) ^ k = x at h2 h4 ⊢
  grind
section
variable {base : Heap} {K : PySem.W.Frag} {mg : Str → Option Value} {P : Program} {w : World}
def spWhole : Sp := fun vs H Q _ => ∃ n : Int, vs = [.int n] ∧ 0 ≤ n ∧ n.natAbs < 2 ^ 8000 ∧ ∀ g : Int, 0 ≤ g → g * g ≤ n → n < (g + 1) * (g + 1) → Q (.int g) H
def WRoot (n : Int) (H : Hp) (m : Nat) (σ : L2.St) (H' : Hp) : Prop := ∃ g : Int, σ = [some (.int n), some (.int g)] ∧ H' = H ∧ 0 ≤ g ∧ g.natAbs < 2 ^ 4002 ∧ n < (g + 1) * (g + 1) ∧ m = g.toNat
theorem ok_whole_root (T : Txt K mg) : FnOk P w K mg base CX0 1 T.f_whole_root T.d_whole_root ["number"] spWhole := by
  refine T.F_whole_root.ok sc_whole_root (fun vs H Q E h => ?_) (fun cdv A outer s H vs Q E hr h => ?_)
  · obtain ⟨n, rfl, _⟩ := h
    rfl
  · obtain ⟨n, rfl, n0, n1, q⟩ := h
    refine ⟨_, (pss_cons (ps_set (i := 1) sc_whole_root.nd rfl (Or.inl rfl) (pe_op op_shl pe_int (pe_op op_fdiv (pe_op op_add (pe_bits (pv 0)) pe_int) pe_int)))
      (pss_cons (ps_while PassesOwn.never (pt_cmpR op_gt (pe_op op_mulW (pv 1) (pv 1)) (pv 0) (nomark _)) (pss_one (ps_set (i := 1) sc_whole_root.nd rfl (Or.inl rfl) (pe_op op_fdiv (pe_op op_add (pv 1) (pe_op op_fdivW (pv 0) (pv 1))) pe_int))))
      (pss_one (ps_ret (pv 1))))), ?_⟩
    have hb := bits_le (by decide) n1
    have e1 : (((Builtin.Int.intBits n : Nat) : Int) + 1) / 2 = (((Builtin.Int.intBits n + 1) / 2 : Nat) : Int) := by omega
    have e2 : ((((Builtin.Int.intBits n : Nat) : Int) + 1) / 2).toNat = (Builtin.Int.intBits n + 1) / 2 := by rw [e1]; rfl
    refine ⟨_, rfl, n, rfl, _, 1, rfl, rfl, _, 2, rfl, rfl, ⟨by decide, by decide⟩, 1, _, rfl, rfl, ⟨by omega, by omega, by decide⟩, ?_⟩
    dsimp only
    rw [e2]
    refine ⟨WRoot n H, ⟨_, (1 * 2 ^ ((Builtin.Int.intBits n + 1) / 2)), rfl, rfl, ?_, ?_, guess_up n0 (by omega), rfl⟩, ?_⟩
    · have : 0 ≤ (2 ^ ((Builtin.Int.intBits n + 1) / 2) : Nat) := Nat.zero_le _
      have z : (0 : Int) ≤ 2 ^ ((Builtin.Int.intBits n + 1) / 2) := by exact_mod_cast this
      omega
    · rw [Int.one_mul, Int.natAbs_pow]
      exact Nat.pow_lt_pow_right (by decide) (by omega)
    · rintro m σ H' ⟨g, rfl, rfl, g0, g1, g2, rfl⟩
      refine ⟨_, rfl, _, rfl, g, g, rfl, rfl, wide_mul g1 g1 (by decide) (by decide) (by decide), _, rfl, _, n, rfl, rfl, _, rfl, ite2 (fun e => ?_) (fun e => ?_)⟩
      · have e' : n < g * g := of_decide_eq_true e
        have gp : 0 < g := by
          rcases Int.lt_or_le 0 g with z | z
          · exact z
          · have : g = 0 := by omega
            rw [this] at e'
            omega
        refine ⟨fun σ' H'' => ∃ m', m' < g.toNat ∧ WRoot n H' m' σ' H'', fun _ _ z => z, ?_⟩
        have d1 := newton_dn gp e'
        have d2 := newton_nn gp n0
        refine ⟨_, rfl, _, rfl, _, rfl, n, g, rfl, rfl, wide_div gp g1 (by decide) (by decide), g, _, rfl, rfl, _, 2, rfl, rfl, ⟨by decide, by decide⟩, ?_⟩
        exact ⟨_, by omega, (g + n / g) / 2, rfl, rfl, d2, Nat.lt_of_le_of_lt (by omega) g1, newton_up gp n0, rfl⟩
      · have e' : ¬ n < g * g := fun z => e (decide_eq_true z)
        exact ⟨_, rfl, q g g0 (by omega) g2⟩
end
/-! ### is_root, check_root -/
def isRB (n : Int) : Bool := decide (2 ≤ n ∧ n ≤ 99) && okR n
theorem sq_dec : ∀ n : Nat, n < 100 → 2 ≤ n → ∀ g : Nat, g < 10 → g * g ≤ n → n < (g + 1) * (g + 1) → (!decide (g * g = n)) = okR (n : Int) := by decide +kernel
theorem isR_of {n g : Int} (h0 : 2 ≤ n) (h1 : n ≤ 99) (g0 : 0 ≤ g) (g1 : g * g ≤ n) (g2 : n < (g + 1) * (g + 1)) : (!decide (V.int (g * g) = V.int n)) = isRB n := by
  obtain ⟨m, rfl⟩ := Int.eq_ofNat_of_zero_le (show 0 ≤ n by omega)
  obtain ⟨k, rfl⟩ := Int.eq_ofNat_of_zero_le g0
  have hk : k < 10 := by
    rcases Nat.lt_or_ge k 10 with z | z
    · exact z
    · have := sq_le (show (0 : Int) ≤ 10 by decide) (show (10 : Int) ≤ (k : Int) by omega)
      omega
  have := sq_dec m (by omega) (by omega) k hk (by exact_mod_cast g1) (by exact_mod_cast g2)
  unfold isRB
  have e99 : decide (2 ≤ (m : Int) ∧ (m : Int) ≤ 99) = true := decide_eq_true ⟨h0, h1⟩
  rw [e99, Bool.true_and, ← this]
  congr 1
  by_cases z : k * k = m
  · rw [decide_eq_true z, decide_eq_true (by subst z; rw [Int.natCast_mul])]
  · rw [decide_eq_false z, decide_eq_false (fun e => z (by have := V.int.inj e; exact_mod_cast this))]
section
variable {base : Heap} {K : PySem.W.Frag} {mg : Str → Option Value} {w : World}
def spIsRoot : Sp := fun vs H Q _ => ∃ n : Int, vs = [.int n] ∧ Q (.bl (isRB n)) H
theorem ok_is_root {P : Program} (T : Txt K mg) : FnOk P w K mg base CX0 2 T.f_is_root T.d_is_root ["number"] spIsRoot := by
  refine T.F_is_root.ok sc_is_root (fun vs H Q E h => ?_) (fun cdv A outer s H vs Q E hr h => ?_)
  · obtain ⟨n, rfl, _⟩ := h
    rfl
  · obtain ⟨n, rfl, q⟩ := h
    refine ⟨_, (pss_cons (ps_if (PW.pt (pw_or (pt_cmpR op_lt (pv 0) pe_int (nomark _)) (pw_or1 (pt_cmpR op_gt (pv 0) pe_int (nomark _))))) (pss_one (ps_ret pe_bl)) pss_nil)
      (pss_cons (ps_set (i := 1) sc_is_root.nd rfl (Or.inl rfl) (pe_call (ok_whole_root T) (hr.mono (by decide)) (by rfl) T.g_whole_root T.F_whole_root.kp T.b_whole_root .nil pass0 (pa_cons (pv 0) pa_nil)))
      (pss_one (ps_ret (pe_cmpR op_ne (pe_op op_mulW (pv 1) (pv 1)) (pv 0) (nomark _)))))), ?_⟩
    refine ⟨_, rfl, n, 2, rfl, rfl, _, rfl, ite2 (fun e => ?_) (fun e => ?_)⟩
    · have : ¬ (2 ≤ n ∧ n ≤ 99) := by have := of_decide_eq_true e; omega
      unfold isRB at q
      rw [decide_eq_false this] at q
      exact q
    refine ⟨_, rfl, n, 99, rfl, rfl, _, rfl, ite2 (fun e2 => ?_) (fun e2 => ?_)⟩
    · have : ¬ (2 ≤ n ∧ n ≤ 99) := by have := of_decide_eq_true e2; omega
      unfold isRB at q
      rw [decide_eq_false this] at q
      exact q
    have h2 : 2 ≤ n := by
      have : ¬ n < 2 := fun z => e (decide_eq_true z)
      omega
    have h99 : n ≤ 99 := by
      have : ¬ n > 99 := fun z => e2 (decide_eq_true z)
      omega
    refine ⟨_, rfl, n, rfl, by omega, Nat.lt_of_le_of_lt (show n.natAbs ≤ 99 by omega) (Nat.lt_of_lt_of_le (show 99 < 2 ^ 7 by decide) (Nat.pow_le_pow_right (by decide) (by decide))), fun g g0 g1 g2 => ?_⟩
    have gb : g.natAbs < 2 ^ 7 := by
      have : g ≤ 99 := by
        rcases Int.lt_or_le 99 g with z | z
        · have := sq_le (show (0 : Int) ≤ 99 by decide) (Int.le_of_lt z)
          omega
        · exact z
      show g.natAbs < 128
      omega
    refine ⟨_, rfl, _, rfl, g, g, rfl, rfl, wide_mul gb gb (by decide) (by decide) (by decide), _, rfl, rfl, ?_⟩
    rw [isR_of h2 h99 g0 g1 g2]
    exact q
end
/-! ### tables -/
/-- two pairs, as they are handed in -/
def CellsK (K : PySem.W.Frag) (H : Hp) (r : V) (a b c e : Int) : Prop := ∃ t u v : Addr, r = .ref t ∧ SqT K H t [.ref u, .ref v] ∧ SqT K H u [.int a, .int b] ∧ SqT K H v [.int c, .int e]
/-- two pairs that the program has made -/
def CellsAt (H : Hp) (t : Addr) (a b c e : Int) : Prop := ∃ u v : Addr, H t = some (.tup [.ref u, .ref v]) ∧ H u = some (.tup [.int a, .int b]) ∧ H v = some (.tup [.int c, .int e])
def TabAt (C : Addr) (H : Hp) (p : Addr) (a b c e : Int) : Prop := ∃ dx t : Addr, H p = some (.ins C dx [("cells", .ref t)]) ∧ CellsAt H t a b c e
theorem CellsAt.same {H H' : Hp} {t : Addr} {a b c e : Int} (h : CellsAt H t a b c e) (s : Same H H') : CellsAt H' t a b c e := by
  obtain ⟨u, v, h1, h2, h3⟩ := h
  exact ⟨u, v, s _ _ h1, s _ _ h2, s _ _ h3⟩
theorem CellsAt.k {K : PySem.W.Frag} {H : Hp} {t : Addr} {a b c e : Int} (h : CellsAt H t a b c e) : CellsK K H (.ref t) a b c e := by
  obtain ⟨u, v, h1, h2, h3⟩ := h
  exact ⟨t, u, v, rfl, SqT.of h1, SqT.of h2, SqT.of h3⟩
theorem TabAt.same {C : Addr} {H H' : Hp} {p : Addr} {a b c e : Int} (h : TabAt C H p a b c e) (s : Same H H') : TabAt C H' p a b c e := by
  obtain ⟨dx, t, h1, h2⟩ := h
  exact ⟨dx, t, s _ _ h1, h2.same s⟩
theorem CellsAt.keep {H H' : Hp} {bg sb t : Addr} {a b c e : Int} (h : CellsAt H t a b c e) (B : Bag H bg sb) (k : Keep bg H H') : CellsAt H' t a b c e := by
  obtain ⟨u, v, h1, h2, h3⟩ := h
  exact ⟨u, v, k _ _ (B.tup h1) h1, k _ _ (B.tup h2) h2, k _ _ (B.tup h3) h3⟩
theorem TabAt.keep {C : Addr} {H H' : Hp} {bg sb p : Addr} {a b c e : Int} (h : TabAt C H p a b c e) (B : Bag H bg sb) (k : Keep bg H H') : TabAt C H' p a b c e := by
  obtain ⟨dx, t, h1, h2⟩ := h
  refine ⟨dx, t, k _ _ ?_ h1, h2.keep B k⟩
  obtain ⟨ns, i, j, m, c', B⟩ := B
  exact ne_of h1 B.hb (by intro z; cases z)
section
variable {base : Heap} {K : PySem.W.Frag} {mg : Str → Option Value} {P : Program} {w : World}
def spTInit (K : PySem.W.Frag) (C : Addr) : Sp := fun vs H Q _ => ∃ (p dx : Addr) (r : V) (a b c e : Int), vs = [.ref p, r] ∧ H p = some (.ins C dx []) ∧ CellsK K H r a b c e ∧ ∀ H', TabAt C H' p a b c e → (∀ q o, H q = some o → q ≠ p → H' q = some o) → Q .non H'
theorem ok_Table_init (T : Txt K mg) : FnOk P w K mg base CX0 1 T.f_Table_init T.d_Table_init ["self", "rows"] (spTInit K T.C_Table) := by
  refine T.F_Table_init.ok sc_Table_init (fun vs H Q E h => ?_) (fun cdv A outer s H vs Q E hr h => ?_)
  · obtain ⟨p, dx, r, a, b, c, e, rfl, _⟩ := h
    rfl
  · obtain ⟨p, dx, r, a, b, c, e, rfl, hp, ⟨t, u, v, rfl, ht, hu, hv⟩, q⟩ := h
    refine ⟨_, PSs.nox (pss_cons (ps_asg (pv 1) (pg_tup (by rfl) (pgs_cons (pg_tup (by rfl) (pgs_cons (pg_name (i := 2) sc_Table_init.nd rfl (Or.inl rfl)) (pgs_cons (pg_name (i := 3) sc_Table_init.nd rfl (Or.inl rfl)) pgs_nil))) (pgs_cons (pg_tup (by rfl) (pgs_cons (pg_name (i := 4) sc_Table_init.nd rfl (Or.inl rfl)) (pgs_cons (pg_name (i := 5) sc_Table_init.nd rfl (Or.inl rfl)) pgs_nil))) pgs_nil))))
      (pss_one (ps_fld (pv 0) (pe_tup (pa_cons (pe_tup (pa_cons (pv 2) (pa_cons (pv 3) pa_nil))) (pa_cons (pe_tup (pa_cons (pv 4) (pa_cons (pv 5) pa_nil))) pa_nil))) rfl))), ?_⟩
    refine ⟨_, rfl, t, _, rfl, ht, rfl, .ref u, _, rfl, u, _, rfl, hu, rfl, .int a, _, rfl, .int b, _, rfl, rfl, .ref v, _, rfl, v, _, rfl, hv, rfl, .int c, _, rfl, .int e, _, rfl, rfl, rfl, ?_⟩
    refine ⟨_, rfl, _, rfl, by show 2 ≤ sizeLine; decide, fun u1 n1 => ⟨_, rfl, _, rfl, by show 2 ≤ sizeLine; decide, fun v1 n2 => ⟨by show 2 ≤ sizeLine; decide, fun t1 n3 => ?_⟩⟩⟩
    have e1 := same_new (o := .tup [.int a, .int b]) n1
    have e2 := same_new (o := .tup [.int c, .int e]) n2
    have e3 := same_new (o := .tup [.ref u1, .ref v1]) n3
    have ee := e1.trans (e2.trans e3)
    refine ⟨_, rfl, p, T.C_Table, dx, [], rfl, ee _ _ hp, T.cl_Table, T.n_Table_cells, (by show 0 < 1000; decide), ?_⟩
    have np1 : u1 ≠ p := (ne_of_none hp n1).symm
    have np2 : v1 ≠ p := (ne_of_none (e1 _ _ hp) n2).symm
    have np3 : t1 ≠ p := (ne_of_none ((e1.trans e2) _ _ hp) n3).symm
    refine q _ ⟨dx, t1, upd_same, u1, v1, (upd_ne np3).trans upd_same, (upd_ne np1).trans ((e2.trans e3) _ _ upd_same), (upd_ne np2).trans (e3 _ _ upd_same)⟩ fun q1 o h1 h2 => (upd_ne h2).trans (ee _ _ h1)
theorem mk_tab {C : Addr} {H : Hp} {r : V} {a b c e : Int} {R : Addr → Hp → Prop} {E : XK} (hr : CellsK K H r a b c e) (q : ∀ x H', H x = none → Same H H' → TabAt C H' x a b c e → R x H') :
    ∀ x dx, H x = none → H dx = none → dx ≠ x → spTInit K C [.ref x, r] (upd (upd H dx (.own x)) x (.ins C dx [])) (fun v H2 => v = .non ∧ R x H2) E := by
  intro x dx nx nd ne
  have s1 : Same H (upd (upd H dx (.own x)) x (.ins C dx [])) := fun b o z => by
    rw [upd_ne (ne_of_none z nx), upd_ne (ne_of_none z nd)]
    exact z
  obtain ⟨t, u, v, rfl, h1, h2, h3⟩ := hr
  exact ⟨x, dx, _, a, b, c, e, rfl, upd_same, ⟨t, u, v, rfl, Evl.ex_t s1 h1, Evl.ex_t s1 h2, Evl.ex_t s1 h3⟩, fun H' hT hk => ⟨rfl, q x H' nx (fun p o z => hk p o (s1 p o z) (ne_of_none z nx)) hT⟩⟩
def spRows (C : Addr) : Sp := fun vs H Q _ => ∃ (p : Addr) (a b c e : Int), vs = [.ref p] ∧ TabAt C H p a b c e ∧ ∀ t, CellsAt H t a b c e → Q (.ref t) H
theorem ok_Table_rows (T : Txt K mg) : FnOk P w K mg base CX0 1 T.f_Table_rows T.d_Table_rows ["self"] (spRows T.C_Table) := by
  refine T.F_Table_rows.ok sc_Table_rows (fun vs H Q E h => ?_) (fun cdv A outer s H vs Q E hr h => ?_)
  · obtain ⟨p, a, b, c, e, rfl, _⟩ := h
    rfl
  · obtain ⟨p, a, b, c, e, rfl, ⟨dx, t, hp, ht⟩, q⟩ := h
    exact ⟨_, (pss_one (ps_ret (pe_fld (pv 0) rfl))), _, rfl, p, T.C_Table, dx, _, _, rfl, hp, T.cl_Table, T.n_Table_cells, rfl, q t ht⟩
end
/-! ### bounds -/
def Bd (n : Nat) (xs : List Int) : Prop := ∀ x ∈ xs, x.natAbs < 2 ^ n
theorem bd_w {n m : Nat} {x : Int} (h : x.natAbs < 2 ^ n) (l : n ≤ m) : x.natAbs < 2 ^ m := Nat.lt_of_lt_of_le h (Nat.pow_le_pow_right (by decide) l)
theorem bd_a {n : Nat} {x y : Int} (h1 : x.natAbs < 2 ^ n) (h2 : y.natAbs < 2 ^ n) : (x + y).natAbs < 2 ^ (n + 1) := by
  rw [Nat.pow_succ]
  omega
/-! ### determinant -/
section
variable {base : Heap} {K : PySem.W.Frag} {mg : Str → Option Value} {P : Program} {w : World}
def spDet (C : Addr) : Sp := fun vs H Q _ => ∃ (p : Addr) (a b c e : Int), vs = [.ref p] ∧ TabAt C H p a b c e ∧ Bd 9000 [a, b, c, e] ∧ Q (.int (a * e - b * c)) H
theorem ok_Table_determinant (T : Txt K mg) : FnOk P w K mg base CX0 1 T.f_Table_determinant T.d_Table_determinant ["self"] (spDet T.C_Table) := by
  refine T.F_Table_determinant.ok sc_Table_determinant (fun vs H Q E h => ?_) (fun cdv A outer s H vs Q E hr h => ?_)
  · obtain ⟨p, a, b, c, e, rfl, _⟩ := h
    rfl
  · obtain ⟨p, a, b, c, e, rfl, ⟨dx, t, hp, u, v, ht, hu, hv⟩, bd, q⟩ := h
    have ba := bd a (by simp)
    have bb := bd b (by simp)
    have bc := bd c (by simp)
    have be := bd e (by simp)
    refine ⟨_, (pss_cons (ps_asg (pe_fld (pv 0) rfl) (pg_tup (by rfl) (pgs_cons (pg_tup (by rfl) (pgs_cons (pg_name (i := 1) sc_Table_determinant.nd rfl (Or.inl rfl)) (pgs_cons (pg_name (i := 2) sc_Table_determinant.nd rfl (Or.inl rfl)) pgs_nil))) (pgs_cons (pg_tup (by rfl) (pgs_cons (pg_name (i := 3) sc_Table_determinant.nd rfl (Or.inl rfl)) (pgs_cons (pg_name (i := 4) sc_Table_determinant.nd rfl (Or.inl rfl)) pgs_nil))) pgs_nil))))
      (pss_one (ps_ret (pe_op op_sub (pe_op op_mulW (pv 1) (pv 4)) (pe_op op_mulW (pv 2) (pv 3)))))), ?_⟩
    refine ⟨_, rfl, p, T.C_Table, dx, _, _, rfl, hp, T.cl_Table, T.n_Table_cells, rfl, t, _, rfl, SqT.of ht, rfl, .ref u, _, rfl, u, _, rfl, SqT.of hu, rfl, .int a, _, rfl, .int b, _, rfl, rfl, .ref v, _, rfl, v, _, rfl, SqT.of hv, rfl, .int c, _, rfl, .int e, _, rfl, rfl, rfl, ?_⟩
    exact ⟨_, rfl, _, rfl, a, e, rfl, rfl, wide_mul ba be (by decide) (by decide) (by decide), _, rfl, _, rfl, b, c, rfl, rfl, wide_mul bb bc (by decide) (by decide) (by decide), _, _, rfl, rfl, q⟩
end
/-! ### outer -/
section
variable {base : Heap} {K : PySem.W.Frag} {mg : Str → Option Value} {P : Program} {w : World}
def NewTab (C : Addr) (H : Hp) (a b c e : Int) (Q : VK) : Prop := ∀ x H', H x = none → Same H H' → TabAt C H' x a b c e → Q (.ref x) H'
def spOuter (K : PySem.W.Frag) (C : Addr) : Sp := fun vs H Q _ => ∃ (u v : V) (a b c e : Int), vs = [u, v] ∧ PairAt K H u a b ∧ PairAt K H v c e ∧ Bd 9000 [a, b, c, e] ∧ NewTab C H (c * a) (e * a) (c * b) (e * b) Q
theorem ok_outer (T : Txt K mg) : FnOk P w K mg base CX0 3 T.f_outer T.d_outer ["one", "other"] (spOuter K T.C_Table) := by
  refine T.F_outer.ok sc_outer (fun vs H Q E h => ?_) (fun cdv A outer s H vs Q E hr h => ?_)
  · obtain ⟨u, v, a, b, c, e, rfl, _⟩ := h
    rfl
  · obtain ⟨u, v, a, b, c, e, rfl, ⟨t, rfl, ht⟩, ⟨t2, rfl, ht2⟩, bd, q⟩ := h
    have ba := bd a (by simp)
    have bb := bd b (by simp)
    have bc := bd c (by simp)
    have be := bd e (by simp)
    refine ⟨_, (pss_cons (ps_asg (pv 0) (pg_tup (by rfl) (pgs_cons (pg_name (i := 2) sc_outer.nd rfl (Or.inl rfl)) (pgs_cons (pg_name (i := 3) sc_outer.nd rfl (Or.inl rfl)) pgs_nil))))
      (pss_one (ps_ret (pe_make T.M_Table (ok_Table_init T) (hr.mono (by decide)) (by rfl) T.g_Table T.b_Table_init .nil pass0 (pa_cons (pe_tup (pa_cons (pe_call (ok_scaled T) (hr.mono (by decide)) (by rfl) T.g_scaled T.F_scaled.kp T.b_scaled .nil pass0 (pa_cons (pv 1) (pa_cons (pv 2) pa_nil))) (pa_cons (pe_call (ok_scaled T) (hr.mono (by decide)) (by rfl) T.g_scaled T.F_scaled.kp T.b_scaled .nil pass0 (pa_cons (pv 1) (pa_cons (pv 3) pa_nil))) pa_nil))) pa_nil))))), ?_⟩
    refine ⟨_, rfl, t, _, rfl, ht, rfl, .int a, _, rfl, .int b, _, rfl, rfl, ?_⟩
    refine ⟨_, rfl, _, rfl, _, c, e, a, rfl, ⟨t2, rfl, ht2⟩, bc, be, ba, fun p1 H1 n1 e1 f1 => ?_⟩
    refine ⟨_, rfl, _, rfl, _, c, e, b, rfl, ⟨t2, rfl, Evl.ex_t e1 ht2⟩, bc, be, bb, fun p2 H2 n2 e2 f2 => ?_⟩
    refine ⟨by show 2 ≤ sizeLine; decide, fun p3 n3 => ?_⟩
    have e3 := same_new (o := .tup [.ref p1, .ref p2]) n3
    refine mk_tab (K := K) ⟨p3, p1, p2, rfl, SqT.of upd_same, SqT.of ((e2.trans e3) _ _ f1), SqT.of (e3 _ _ f2)⟩ fun x H' nx sx hx => ?_
    exact q x H' ((e1.trans (e2.trans e3)).free nx) ((e1.trans (e2.trans e3)).trans sx) hx
end
/-! ### the signs of tables -/
theorem eqv4 (a b c e a' b' c' e' : Int) : PyData.eqv (.tuple [.tuple [.int a, .int b], .tuple [.int c, .int e]]) (.tuple [.tuple [.int a', .int b'], .tuple [.int c', .int e']]) = decide (a = a' ∧ b = b' ∧ c = c' ∧ e = e') := by
  simp [PyData.eqv, PyData.eqvAll]
  first | rfl | (by_cases h1 : a = a' <;> by_cases h2 : b = b' <;> by_cases h3 : c = c' <;> by_cases h4 : e = e' <;> simp [h1, h2, h3, h4])
theorem CellsAt.dp {K : PySem.W.Frag} {H : Hp} {t : Addr} {a b c e : Int} (h : CellsAt H t a b c e) : Dp K H (.ref t) (.tuple [.tuple [.int a, .int b], .tuple [.int c, .int e]]) := by
  obtain ⟨u, v, h1, h2, h3⟩ := h
  exact .tup (SqT.of h1) (.cons (.tup (SqT.of h2) (.cons (.int a) (.cons (.int b) .nil))) (.cons (.tup (SqT.of h3) (.cons (.int c) (.cons (.int e) .nil))) .nil))
section
variable {base : Heap} {K : PySem.W.Frag} {mg : Str → Option Value} {P : Program} {w : World}
def spAdd (C : Addr) : Sp := fun vs H Q _ => ∃ (p q : Addr) (a b c e a' b' c' e' : Int), vs = [.ref p, .ref q] ∧ TabAt C H p a b c e ∧ TabAt C H q a' b' c' e' ∧ NewTab C H (a + a') (b + b') (c + c') (e + e') Q
theorem ok_Table_add (T : Txt K mg) : FnOk P w K mg base CX0 3 T.f_Table_add T.d_Table_add ["self", "other"] (spAdd T.C_Table) := by
  refine T.F_Table_add.ok sc_Table_add (fun vs H Q E h => ?_) (fun cdv A outer s H vs Q E hr h => ?_)
  · obtain ⟨p, q, a, b, c, e, a', b', c', e', rfl, _⟩ := h
    rfl
  · obtain ⟨p, q, a, b, c, e, a', b', c', e', rfl, ⟨dx, t, hp, u, v, ht, hu, hv⟩, ⟨dy, t', hq, u', v', ht', hu', hv'⟩, k⟩ := h
    refine ⟨_, (pss_cons (ps_asg (pe_fld (pv 0) rfl) (pg_tup (by rfl) (pgs_cons (pg_name (i := 2) sc_Table_add.nd rfl (Or.inl rfl)) (pgs_cons (pg_name (i := 3) sc_Table_add.nd rfl (Or.inl rfl)) pgs_nil))))
      (pss_cons (ps_asg (pe_fld (pv 1) rfl) (pg_tup (by rfl) (pgs_cons (pg_name (i := 4) sc_Table_add.nd rfl (Or.inl rfl)) (pgs_cons (pg_name (i := 5) sc_Table_add.nd rfl (Or.inl rfl)) pgs_nil))))
      (pss_one (ps_ret (pe_make T.M_Table (ok_Table_init T) (hr.mono (by decide)) (by rfl) T.g_Table T.b_Table_init .nil pass0 (pa_cons (pe_tup (pa_cons (pe_callR (ok_added T) (hr.mono (by decide)) (by rfl) T.g_added T.F_added.kp pass0 (pa_cons (pv 2) (pa_cons (pv 4) pa_nil))) (pa_cons (pe_callR (ok_added T) (hr.mono (by decide)) (by rfl) T.g_added T.F_added.kp pass0 (pa_cons (pv 3) (pa_cons (pv 5) pa_nil))) pa_nil))) pa_nil)))))), ?_⟩
    refine ⟨_, rfl, p, T.C_Table, dx, _, _, rfl, hp, T.cl_Table, T.n_Table_cells, rfl, t, _, rfl, SqT.of ht, rfl, .ref u, _, rfl, .ref v, _, rfl, rfl, ?_⟩
    refine ⟨_, rfl, q, T.C_Table, dy, _, _, rfl, hq, T.cl_Table, T.n_Table_cells, rfl, t', _, rfl, SqT.of ht', rfl, .ref u', _, rfl, .ref v', _, rfl, rfl, ?_⟩
    refine ⟨_, rfl, _, rfl, [(a, b), (a', b')], .cons ⟨u, rfl, SqT.of hu⟩ (.cons ⟨u', rfl, SqT.of hu'⟩ .nil), by simp, fun p1 H1 n1 e1 f1 => ?_⟩
    refine ⟨_, rfl, _, rfl, [(c, e), (c', e')], .cons ⟨v, rfl, SqT.of (e1 _ _ hv)⟩ (.cons ⟨v', rfl, SqT.of (e1 _ _ hv')⟩ .nil), by simp, fun p2 H2 n2 e2 f2 => ?_⟩
    rw [show Gy.s1 [(a, b), (a', b')] = a + a' by simp [Gy.s1], show Gy.s2 [(a, b), (a', b')] = b + b' by simp [Gy.s2]] at f1
    rw [show Gy.s1 [(c, e), (c', e')] = c + c' by simp [Gy.s1], show Gy.s2 [(c, e), (c', e')] = e + e' by simp [Gy.s2]] at f2
    refine ⟨by show 2 ≤ sizeLine; decide, fun p3 n3 => ?_⟩
    have e3 := same_new (o := .tup [.ref p1, .ref p2]) n3
    refine mk_tab (K := K) ⟨p3, p1, p2, rfl, SqT.of upd_same, SqT.of ((e2.trans e3) _ _ f1), SqT.of (e3 _ _ f2)⟩ fun x H' nx sx hx => ?_
    exact k x H' ((e1.trans (e2.trans e3)).free nx) ((e1.trans (e2.trans e3)).trans sx) hx
def spMul (C : Addr) : Sp := fun vs H Q _ => ∃ (p : Addr) (a b c e n : Int), vs = [.ref p, .int n] ∧ TabAt C H p a b c e ∧ Bd 9000 [a, b, c, e, n] ∧ NewTab C H (a * n) (b * n) (c * n) (e * n) Q
theorem ok_Table_mul (T : Txt K mg) : FnOk P w K mg base CX0 3 T.f_Table_mul T.d_Table_mul ["self", "other"] (spMul T.C_Table) := by
  refine T.F_Table_mul.ok sc_Table_mul (fun vs H Q E h => ?_) (fun cdv A outer s H vs Q E hr h => ?_)
  · obtain ⟨p, a, b, c, e, n, rfl, _⟩ := h
    rfl
  · obtain ⟨p, a, b, c, e, n, rfl, ⟨dx, t, hp, u, v, ht, hu, hv⟩, bd, k⟩ := h
    have ba := bd a (by simp)
    have bb := bd b (by simp)
    have bc := bd c (by simp)
    have be := bd e (by simp)
    have bn := bd n (by simp)
    refine ⟨_, (pss_cons (ps_asg (pe_fld (pv 0) rfl) (pg_tup (by rfl) (pgs_cons (pg_name (i := 2) sc_Table_mul.nd rfl (Or.inl rfl)) (pgs_cons (pg_name (i := 3) sc_Table_mul.nd rfl (Or.inl rfl)) pgs_nil))))
      (pss_one (ps_ret (pe_make T.M_Table (ok_Table_init T) (hr.mono (by decide)) (by rfl) T.g_Table T.b_Table_init .nil pass0 (pa_cons (pe_tup (pa_cons (pe_call (ok_scaled T) (hr.mono (by decide)) (by rfl) T.g_scaled T.F_scaled.kp T.b_scaled .nil pass0 (pa_cons (pv 2) (pa_cons (pv 1) pa_nil))) (pa_cons (pe_call (ok_scaled T) (hr.mono (by decide)) (by rfl) T.g_scaled T.F_scaled.kp T.b_scaled .nil pass0 (pa_cons (pv 3) (pa_cons (pv 1) pa_nil))) pa_nil))) pa_nil))))), ?_⟩
    refine ⟨_, rfl, p, T.C_Table, dx, _, _, rfl, hp, T.cl_Table, T.n_Table_cells, rfl, t, _, rfl, SqT.of ht, rfl, .ref u, _, rfl, .ref v, _, rfl, rfl, ?_⟩
    refine ⟨_, rfl, _, rfl, _, a, b, n, rfl, ⟨u, rfl, SqT.of hu⟩, ba, bb, bn, fun p1 H1 n1 e1 f1 => ?_⟩
    refine ⟨_, rfl, _, rfl, _, c, e, n, rfl, ⟨v, rfl, SqT.of (e1 _ _ hv)⟩, bc, be, bn, fun p2 H2 n2 e2 f2 => ?_⟩
    refine ⟨by show 2 ≤ sizeLine; decide, fun p3 n3 => ?_⟩
    have e3 := same_new (o := .tup [.ref p1, .ref p2]) n3
    refine mk_tab (K := K) ⟨p3, p1, p2, rfl, SqT.of upd_same, SqT.of ((e2.trans e3) _ _ f1), SqT.of (e3 _ _ f2)⟩ fun x H' nx sx hx => ?_
    exact k x H' ((e1.trans (e2.trans e3)).free nx) ((e1.trans (e2.trans e3)).trans sx) hx
def spNeg (C : Addr) : Sp := fun vs H Q _ => ∃ (p : Addr) (a b c e : Int), vs = [.ref p] ∧ TabAt C H p a b c e ∧ Bd 9000 [a, b, c, e] ∧ NewTab C H (-a) (-b) (-c) (-e) Q
theorem Bd.nil {n : Nat} : Bd n [] := fun _ h => nomatch h
theorem Bd.cons {n : Nat} {x : Int} {xs : List Int} (h : x.natAbs < 2 ^ n) (t : Bd n xs) : Bd n (x :: xs) := fun y hy => by
  rcases List.mem_cons.mp hy with rfl | e
  · exact h
  · exact t y e
theorem Bd.b4 {n : Nat} {a b c e : Int} (h : Bd n [a, b, c, e]) : a.natAbs < 2 ^ n ∧ b.natAbs < 2 ^ n ∧ c.natAbs < 2 ^ n ∧ e.natAbs < 2 ^ n := ⟨h a (by simp), h b (by simp), h c (by simp), h e (by simp)⟩
theorem mk4 {n : Nat} {a b c e : Int} (h1 : a.natAbs < 2 ^ n) (h2 : b.natAbs < 2 ^ n) (h3 : c.natAbs < 2 ^ n) (h4 : e.natAbs < 2 ^ n) : Bd n [a, b, c, e] := .cons h1 (.cons h2 (.cons h3 (.cons h4 .nil)))
theorem mk5 {n : Nat} {a b c e x : Int} (h : Bd n [a, b, c, e]) (h5 : x.natAbs < 2 ^ n) : Bd n [a, b, c, e, x] := by
  obtain ⟨h1, h2, h3, h4⟩ := h.b4
  exact .cons h1 (.cons h2 (.cons h3 (.cons h4 (.cons h5 .nil))))
theorem one_bd {n : Nat} (h : 1 ≤ n) : (1 : Int).natAbs < 2 ^ n := Nat.lt_of_lt_of_le (show 1 < 2 ^ 1 by decide) (Nat.pow_le_pow_right (by decide) h)
theorem ok_Table_neg (T : Txt K mg) : FnOk P w K mg base CX0 4 T.f_Table_neg T.d_Table_neg ["self"] (spNeg T.C_Table) := by
  refine T.F_Table_neg.ok sc_Table_neg (fun vs H Q E h => ?_) (fun cdv A outer s H vs Q E hr h => ?_)
  · obtain ⟨p, a, b, c, e, rfl, _⟩ := h
    rfl
  · obtain ⟨p, a, b, c, e, rfl, hT, bd, k⟩ := h
    obtain ⟨dx, t, hp, _⟩ := id hT
    refine ⟨_, (pss_one (ps_ret (pe_op (op_binI T.m_Table_mul T.sf_Table T.x_Table_rmul T.i_mul T.i_rmul T.is_Table (ok_Table_mul T) (hr.mono (by decide)) T.b_Table_mul pass0) (pv 0) (pe_un un_neg pe_int)))), ?_⟩
    refine ⟨_, rfl, 1, rfl, p, dx, _, -1, rfl, rfl, hp, p, a, b, c, e, -1, rfl, hT, mk5 bd (by simpa using one_bd (by decide)), fun x H' nx sx hx => k x H' nx sx ?_⟩
    simpa using hx
def spSub (C : Addr) : Sp := fun vs H Q _ => ∃ (p q : Addr) (a b c e a' b' c' e' : Int), vs = [.ref p, .ref q] ∧ TabAt C H p a b c e ∧ TabAt C H q a' b' c' e' ∧ Bd 9000 [a', b', c', e'] ∧ NewTab C H (a - a') (b - b') (c - c') (e - e') Q
theorem ok_Table_sub (T : Txt K mg) : FnOk P w K mg base CX0 5 T.f_Table_sub T.d_Table_sub ["self", "other"] (spSub T.C_Table) := by
  refine T.F_Table_sub.ok sc_Table_sub (fun vs H Q E h => ?_) (fun cdv A outer s H vs Q E hr h => ?_)
  · obtain ⟨p, q, a, b, c, e, a', b', c', e', rfl, _⟩ := h
    rfl
  · obtain ⟨p, q, a, b, c, e, a', b', c', e', rfl, hT, hU, bd, k⟩ := h
    obtain ⟨dx, t, hp, _⟩ := id hT
    obtain ⟨dy, t', hq, _⟩ := id hU
    refine ⟨_, (pss_one (ps_ret (pe_op (op_bin T.m_Table_add T.sf_Table (ok_Table_add T) (hr.mono (by decide)) T.b_Table_add pass0) (pv 0) (pe_un (un_own T.m_Table_neg (ok_Table_neg T) (hr.mono (by decide)) T.b_Table_neg pass0) (pv 1))))), ?_⟩
    refine ⟨_, rfl, _, rfl, q, dy, _, rfl, hq, q, a', b', c', e', rfl, hU, bd, fun x H1 n1 e1 hx => ?_⟩
    obtain ⟨dz, tz, hz, _⟩ := id hx
    refine ⟨p, dx, _, x, dz, _, rfl, rfl, e1 _ _ hp, hz, p, x, a, b, c, e, -a', -b', -c', -e', rfl, hT.same e1, hx, fun y H2 n2 e2 hy => k y H2 (e1.free n2) (e1.trans e2) ?_⟩
    simpa [Int.sub_eq_add_neg] using hy
def spEqT (K : PySem.W.Frag) (C : Addr) : Sp := fun vs H Q _ => ∃ (p : Addr) (y : V) (a b c e : Int), vs = [.ref p, y] ∧ TabAt C H p a b c e ∧
  ((∃ (q : Addr) (a' b' c' e' : Int), y = .ref q ∧ TabAt C H q a' b' c' e' ∧ Q (.bl (decide (a = a' ∧ b = b' ∧ c = c' ∧ e = e'))) H) ∨ (∃ t, TyX K H y t ∧ PySem.W.kitOne K t (.ref C) = some false ∧ Q (.bl false) H))
theorem ok_Table_eq (T : Txt K mg) : FnOk P w K mg base CX0 1 T.f_Table_eq T.d_Table_eq ["self", "other"] (spEqT K T.C_Table) := by
  refine T.F_Table_eq.ok sc_Table_eq (fun vs H Q E h => ?_) (fun cdv A outer s H vs Q E hr h => ?_)
  · obtain ⟨p, y, a, b, c, e, rfl, _⟩ := h
    rfl
  · obtain ⟨p, y, a, b, c, e, rfl, ⟨dx, t, hp, hc⟩, h⟩ := h
    refine ⟨_, (pss_one (ps_ret (pe_and (pe_callB call_isi (by rfl) T.n_isinstance (by decide +kernel) (pa_cons (pv 1) (pa_cons (pe_glob (v := .ref T.C_Table) (by rfl) T.g_Table rfl) pa_nil))) (pe_one (pe_cmpR (op_eqD hr.units) (pe_fld (pv 0) rfl) (pe_fld (pv 1) rfl) (nomark _)))))), ?_⟩
    rcases h with ⟨q, a', b', c', e', rfl, ⟨dy, t', hq, hc'⟩, k⟩ | ⟨ty, h1, h2, k⟩
    · refine ⟨_, rfl, .ref q, .ref T.C_Table, .ref T.C_Table, .ref T.C_Table, true, rfl, ClsV.own _, TyX.base (TyOf.ins hq T.cl_Table T.ca_Table T.hn T.ht T.mo_Table), by simp [PySem.W.kitOne], true, rfl, iteT ?_⟩
      refine ⟨_, rfl, p, T.C_Table, dx, _, _, rfl, hp, T.cl_Table, T.n_Table_cells, rfl, _, rfl, q, T.C_Table, dy, _, _, rfl, hq, T.cl_Table, T.n_Table_cells, rfl, _, _, hc.dp, hc'.dp, rfl, rfl, ?_⟩
      rw [eqv4]
      exact k
    · exact ⟨_, rfl, y, .ref T.C_Table, ty, .ref T.C_Table, false, rfl, ClsV.own _, h1, h2, false, rfl, iteF k⟩
def spBoolT (C : Addr) : Sp := fun vs H Q _ => ∃ (p : Addr) (a b c e : Int), vs = [.ref p] ∧ TabAt C H p a b c e ∧ ∀ H', Same H H' → Q (.bl ([a, b, c, e].any fun i => i != 0)) H'
theorem ok_Table_bool (T : Txt K mg) : FnOk P w K mg base CX0 1 T.f_Table_bool T.d_Table_bool ["self"] (spBoolT T.C_Table) := by
  refine T.F_Table_bool.ok sc_Table_bool (fun vs H Q E h => ?_) (fun cdv A outer s H vs Q E hr h => ?_)
  · obtain ⟨p, a, b, c, e, rfl, _⟩ := h
    rfl
  · obtain ⟨p, a, b, c, e, rfl, ⟨dx, t, hp, u, v, ht, hu, hv⟩, q⟩ := h
    refine ⟨_, (pss_cons (ps_asg (pe_fld (pv 0) rfl) (pg_tup (by rfl) (pgs_cons (pg_tup (by rfl) (pgs_cons (pg_name (i := 1) sc_Table_bool.nd rfl (Or.inl rfl)) (pgs_cons (pg_name (i := 2) sc_Table_bool.nd rfl (Or.inl rfl)) pgs_nil))) (pgs_cons (pg_tup (by rfl) (pgs_cons (pg_name (i := 3) sc_Table_bool.nd rfl (Or.inl rfl)) (pgs_cons (pg_name (i := 4) sc_Table_bool.nd rfl (Or.inl rfl)) pgs_nil))) pgs_nil))))
      (pss_one (ps_ret (pe_callB (cr_anyI rfl) (by rfl) T.n_any (by decide +kernel) (pa_cons (pe_lst (pa_cons (pv 1) (pa_cons (pv 2) (pa_cons (pv 3) (pa_cons (pv 4) pa_nil))))) pa_nil))))), ?_⟩
    refine ⟨_, rfl, p, T.C_Table, dx, _, _, rfl, hp, T.cl_Table, T.n_Table_cells, rfl, t, _, rfl, SqT.of ht, rfl, .ref u, _, rfl, u, _, rfl, SqT.of hu, rfl, .int a, _, rfl, .int b, _, rfl, rfl, .ref v, _, rfl, v, _, rfl, SqT.of hv, rfl, .int c, _, rfl, .int e, _, rfl, rfl, rfl, ?_⟩
    exact ⟨_, rfl, _, rfl, _, rfl, _, rfl, by show 4 ≤ sizeLine; decide, fun l hl => ⟨l, [a, b, c, e], rfl, SqL.of upd_same, q _ (same_new hl)⟩⟩
end
/-! ### the signs, used -/
theorem Dflt.cells {K : PySem.W.Frag} {H : Hp} {r : Addr} (h : Dflt K r) : CellsK K H (.ref r) 0 0 0 0 := by
  obtain ⟨a, b, c⟩ := h
  exact ⟨_, _, _, rfl, .inr ⟨_, _, _, a, rfl, rfl, by show 2 ≤ sizeLine; decide, .cons rfl (.cons rfl .nil)⟩, .inr ⟨_, _, _, b, rfl, rfl, by show 2 ≤ sizeLine; decide, .cons ⟨_, rfl⟩ (.cons ⟨_, rfl⟩ .nil)⟩, .inr ⟨_, _, _, c, rfl, rfl, by show 2 ≤ sizeLine; decide, .cons ⟨_, rfl⟩ (.cons ⟨_, rfl⟩ .nil)⟩⟩
theorem wn {x : Int} (h : x.natAbs ≤ 10 ^ 18) : x.natAbs < 2 ^ 60 := Nat.lt_of_le_of_lt h (by decide)
theorem nc : ∀ {t : Addr} {m : Str}, ¬ m = "cells" → ([(("cells" : Str), V.ref t)] : List (Str × V)).lookup m = none := by
  intro t m h
  rw [List.lookup_cons, show (m == "cells") = false from beq_eq_false_iff_ne.mpr h]
  rfl
theorem Bd.up {n m : Nat} {xs : List Int} (h : Bd n xs) (l : n ≤ m) : Bd m xs := fun x hx => bd_w (h x hx) l
theorem Bd.add {n : Nat} {a b c e a' b' c' e' : Int} (h : Bd n [a, b, c, e]) (h' : Bd n [a', b', c', e']) : Bd (n + 1) [a + a', b + b', c + c', e + e'] := by
  obtain ⟨h1, h2, h3, h4⟩ := h.b4
  obtain ⟨k1, k2, k3, k4⟩ := h'.b4
  exact mk4 (bd_a h1 k1) (bd_a h2 k2) (bd_a h3 k3) (bd_a h4 k4)
theorem Bd.sub {n : Nat} {a b c e a' b' c' e' : Int} (h : Bd n [a, b, c, e]) (h' : Bd n [a', b', c', e']) : Bd (n + 1) [a - a', b - b', c - c', e - e'] := by
  obtain ⟨h1, h2, h3, h4⟩ := h.b4
  obtain ⟨k1, k2, k3, k4⟩ := h'.b4
  have g : ∀ x y : Int, x.natAbs < 2 ^ n → y.natAbs < 2 ^ n → (x - y).natAbs < 2 ^ (n + 1) := fun x y hx hy => by
    rw [Nat.pow_succ]
    omega
  exact mk4 (g _ _ h1 k1) (g _ _ h2 k2) (g _ _ h3 k3) (g _ _ h4 k4)
theorem Bd.mul {n m : Nat} {a b c e x : Int} (h : Bd n [a, b, c, e]) (hx : x.natAbs < 2 ^ m) : Bd (n + m) [a * x, b * x, c * x, e * x] := by
  obtain ⟨h1, h2, h3, h4⟩ := h.b4
  exact mk4 (wide_lt h1 hx) (wide_lt h2 hx) (wide_lt h3 hx) (wide_lt h4 hx)
section
variable {K : PySem.W.Frag} {C : Addr} {H : Hp} {E : XK} {Q : VK} {p q : Addr} {a b c e a' b' c' e' n : Int}
theorem add_do (hX : TabAt C H p a b c e) (hY : TabAt C H q a' b' c' e') (k : NewTab C H (a + a') (b + b') (c + c') (e + e') Q) : rOwn2 C (spAdd C) E (.ref p) (.ref q) H Q := by
  obtain ⟨dx, t, hp, _⟩ := id hX
  obtain ⟨dy, t', hq, _⟩ := id hY
  exact ⟨p, dx, _, q, dy, _, rfl, rfl, hp, hq, p, q, a, b, c, e, a', b', c', e', rfl, hX, hY, k⟩
theorem sub_do {m : Nat} (hX : TabAt C H p a b c e) (hY : TabAt C H q a' b' c' e') (bd : Bd m [a', b', c', e']) (hm : m ≤ 9000) (k : NewTab C H (a - a') (b - b') (c - c') (e - e') Q) : rOwn2 C (spSub C) E (.ref p) (.ref q) H Q := by
  obtain ⟨dx, t, hp, _⟩ := id hX
  obtain ⟨dy, t', hq, _⟩ := id hY
  exact ⟨p, dx, _, q, dy, _, rfl, rfl, hp, hq, p, q, a, b, c, e, a', b', c', e', rfl, hX, hY, bd.up hm, k⟩
theorem mul_do {m : Nat} (hX : TabAt C H p a b c e) (bd : Bd m [a, b, c, e]) (bn : n.natAbs < 2 ^ 9000) (hm : m ≤ 9000) (k : NewTab C H (a * n) (b * n) (c * n) (e * n) Q) : rOwnI C (spMul C) E (.ref p) (.int n) H Q := by
  obtain ⟨dx, t, hp, _⟩ := id hX
  exact ⟨p, dx, _, n, rfl, rfl, hp, p, a, b, c, e, n, rfl, hX, mk5 (bd.up hm) bn, k⟩
theorem neg_do {m : Nat} (hX : TabAt C H p a b c e) (bd : Bd m [a, b, c, e]) (hm : m ≤ 9000) (k : NewTab C H (-a) (-b) (-c) (-e) Q) : rOwn1 C (spNeg C) E (.ref p) H Q := by
  obtain ⟨dx, t, hp, _⟩ := id hX
  exact ⟨p, dx, _, rfl, hp, p, a, b, c, e, rfl, hX, bd.up hm, k⟩
theorem neq_do (hX : TabAt C H p a b c e) (hY : TabAt C H q a' b' c' e') (k : Q (.bl (!decide (a = a' ∧ b = b' ∧ c = c' ∧ e = e'))) H) : rOwnN C (spEqT K C) E (.ref p) (.ref q) H Q := by
  obtain ⟨dx, t, hp, _⟩ := id hX
  obtain ⟨dy, t', hq, _⟩ := id hY
  exact ⟨p, dx, _, q, dy, _, rfl, rfl, hp, hq, p, .ref q, a, b, c, e, rfl, hX, .inl ⟨q, a', b', c', e', rfl, hY, _, rfl, k⟩⟩
theorem ne_do (hX : TabAt C H p a b c e) (hY : TabAt C H q a' b' c' e') (e1 : a = a') (e2 : b = b') (e3 : c = c') (e4 : e = e') (k : Q (.bl false) H) : rOwnN C (spEqT K C) E (.ref p) (.ref q) H Q := by
  refine neq_do hX hY ?_
  rw [decide_eq_true ⟨e1, e2, e3, e4⟩]
  exact k
theorem eq_do (hX : TabAt C H p a b c e) (hY : TabAt C H q a' b' c' e') (k : Q (.bl (decide (a = a' ∧ b = b' ∧ c = c' ∧ e = e'))) H) : rOwn2 C (spEqT K C) E (.ref p) (.ref q) H Q := by
  obtain ⟨dx, t, hp, _⟩ := id hX
  obtain ⟨dy, t', hq, _⟩ := id hY
  exact ⟨p, dx, _, q, dy, _, rfl, rfl, hp, hq, p, .ref q, a, b, c, e, rfl, hX, .inl ⟨q, a', b', c', e', rfl, hY, k⟩⟩
theorem bool_do (hX : TabAt C H p a b c e) (k : ∀ H', Same H H' → Q (.bl ([a, b, c, e].any fun i => i != 0)) H') : rBoolO C (spBoolT C) E [.ref p] H Q := by
  obtain ⟨dx, t, hp, _⟩ := id hX
  exact ⟨p, dx, _, rfl, hp, p, a, b, c, e, rfl, hX, fun H' s => ⟨_, rfl, k H' s⟩⟩
end
theorem any4 (a b c e a' b' c' e' : Int) : ([a - a', b - b', c - c', e - e'].any fun i => i != 0) = !decide (a = a' ∧ b = b' ∧ c = c' ∧ e = e') := by
  have h : ∀ x y : Int, (x - y != 0) = !decide (x = y) := fun x y => by
    by_cases h : x = y
    · subst h
      simp
    · have : x - y ≠ 0 := fun z => h (by omega)
      simp [h, this]
  simp only [List.any_cons, List.any_nil, h, Bool.or_false]
  by_cases h1 : a = a' <;> by_cases h2 : b = b' <;> by_cases h3 : c = c' <;> by_cases h4 : e = e' <;> simp [h1, h2, h3, h4]
/-- tables that were drawn -/
inductive Tabs (C : Addr) (H : Hp) : List V → List (Int × Int × Int × Int) → Prop
  | nil : Tabs C H [] []
  | cons {p : Addr} {vs : List V} {a b c e : Int} {ts : List (Int × Int × Int × Int)} : TabAt C H p a b c e → Bd 60 [a, b, c, e] → Tabs C H vs ts → Tabs C H (.ref p :: vs) ((a, b, c, e) :: ts)
theorem Tabs.inv {C : Addr} {H : Hp} {v : V} {vs : List V} {ts : List (Int × Int × Int × Int)} (h : Tabs C H (v :: vs) ts) : ∃ (p : Addr) (a b c e : Int) (ts' : List (Int × Int × Int × Int)), v = .ref p ∧ ts = (a, b, c, e) :: ts' ∧ TabAt C H p a b c e ∧ Bd 60 [a, b, c, e] ∧ Tabs C H vs ts' := by
  cases h with
  | cons h b t => exact ⟨_, _, _, _, _, _, rfl, rfl, h, b, t⟩
theorem Tabs.mono {C : Addr} {H H' : Hp} (k : ∀ p a b c e, TabAt C H p a b c e → TabAt C H' p a b c e) : ∀ {vs : List V} {ts : List (Int × Int × Int × Int)}, Tabs C H vs ts → Tabs C H' vs ts
  | _, _, .nil => .nil
  | _, _, .cons h b t => .cons (k _ _ _ _ _ h) b (t.mono k)
theorem Tabs.snoc {C : Addr} {H : Hp} {p : Addr} {a b c e : Int} (h : TabAt C H p a b c e) (bd : Bd 60 [a, b, c, e]) : ∀ {vs : List V} {ts : List (Int × Int × Int × Int)}, Tabs C H vs ts → Tabs C H (vs ++ [.ref p]) (ts ++ [(a, b, c, e)])
  | _, _, .nil => .cons h bd .nil
  | _, _, .cons h' b' t => .cons h' b' (t.snoc h bd)
theorem TabAt.put {C : Addr} {H : Hp} {p l : Addr} {a b c e : Int} {ys zs : List V} (hl : H l = some (.lst ys)) (h : TabAt C H p a b c e) : TabAt C (upd H l (.lst zs)) p a b c e := by
  obtain ⟨dx, t, h1, u, v, h2, h3, h4⟩ := h
  exact ⟨dx, t, (upd_ne (ne_of h1 hl (by intro z; cases z))).trans h1, u, v, (upd_ne (ne_of h2 hl (by intro z; cases z))).trans h2, (upd_ne (ne_of h3 hl (by intro z; cases z))).trans h3, (upd_ne (ne_of h4 hl (by intro z; cases z))).trans h4⟩
theorem dpair {K : PySem.W.Frag} {H : Hp} {p : Addr} {x y : Int} (h : H p = some (.tup [.int x, .int y])) : Dp K H (.ref p) (.tuple [.int x, .int y]) := .tup (SqT.of h) (.cons (.int x) (.cons (.int y) .nil))
theorem eqv2 (a b c e : Int) : PyData.eqv (.tuple [.int a, .int b]) (.tuple [.int c, .int e]) = (decide (a = c) && decide (b = e)) := by
  simp [PyData.eqv, PyData.eqvAll]
  first | rfl | (by_cases h1 : a = c <;> by_cases h2 : b = e <;> simp [h1, h2])
theorem ne_pair {a b c e : Int} (h1 : a = c) (h2 : b = e) : (!PyData.eqv (.tuple [.int a, .int b]) (.tuple [.int c, .int e])) = false := by
  rw [eqv2, decide_eq_true h1, decide_eq_true h2]
  rfl
theorem dtri {K : PySem.W.Frag} {H : Hp} {p : Addr} {x y z : Int} (h : H p = some (.tup [.int x, .int y, .int z])) : Dp K H (.ref p) (.tuple [.int x, .int y, .int z]) := .tup (SqT.of h) (.cons (.int x) (.cons (.int y) (.cons (.int z) .nil)))
theorem ne_tri {a b c a' b' c' : Int} (h1 : a = a') (h2 : b = b') (h3 : c = c') : (!PyData.eqv (.tuple [.int a, .int b, .int c]) (.tuple [.int a', .int b', .int c'])) = false := by
  subst h1 h2 h3
  simp [PyData.eqv, PyData.eqvAll]
/-! ### heaps -/
section
variable {X : Cx}
theorem pi_seq {tg e : Expr} {t : TE} (h : PE X e t) : PI X tg e (fun σ H R => iList X.K t σ H R ∨ iTup X.K t σ H R) := PI.or (pi_list h) (pi_tup h)
/-- d.items() -/
theorem pe_itemsDS {o : Expr} {apos cpos : Pos} {td : TE} (ho : PE X o td) (hb : attributeBase o "items" X.env (eval o X.env) = eval o X.env := by rfl) (hl : (apos.endLine == cpos.line) = true := by rfl) :
    PE X (.Call (.Attribute o "items" apos) [] [] cpos) (fun σ H Q => td σ H fun v G => rItemsDS X.prog X.w v [] G Q) := by
  constructor
  intro pins s σ H Q I h
  apply wpAny_Call_method0_late hb hl
  refine thn (ho.run pins s σ H _ I h) ?_
  rintro u s1 ⟨v, G, I1, rv, d, es, rfl, _, D, q⟩
  cases rv
  obtain ⟨t1, t2⟩ := ds_dict I1 D.rd
  exact ⟨"dict", "dict.items", PySem.F.plainAttrs_dict, PySem.F.slot_dict_items, PySem.F.type_dict_items, t1, t2, Calls.callWith_builtin rfl (PySem.evalArgs_none (mt_itemsDS pins s1 σ G (.ref d) [] (.ref d) [] Q I1 rfl .nil ⟨d, es, rfl, rfl, D, q⟩))⟩
end
/-- a for over enumerate of a list that stays -/
theorem for_enumL {K : PySem.W.Frag} {a : Addr} {xs : List V} {g : TG} {tb : TS} {D : Ends} {σ : L2.St} {H : Hp} (Pv : Nat → L2.St → Hp → Prop) (h0 : Pv 0 σ H) (hl : ∀ i τ G, i ≤ xs.length → Pv i τ G → SqL K G a xs)
    (turn : ∀ i x τ G T, xs[i]? = some x → Pv i τ G → G T = none → g (.ref T) τ (upd G T (.tup [.int (i : Nat), x])) fun τ2 G2 => tb { D with nx := Pv (i + 1), ct := Pv (i + 1), bk := D.nx } τ2 G2) (fin : ∀ τ G, Pv xs.length τ G → D.nx τ G) :
    ∃ W : Nat → Nat → L2.St → Hp → Prop, (∃ m, W 0 m σ H) ∧ ∀ i m τ G, W i m τ G → ((Ite K a).stop i G ∧ D.nx τ G) ∨ ((Ite K a).go i G ∧ ∃ N : L2.St → Hp → Prop, (∀ τ' G', N τ' G' → ∃ m', m' < m ∧ W (i + 1) m' τ' G') ∧
      ∀ x G', (Ite K a).yld i G x G' → g x τ G' fun τ2 G2 => tb { D with nx := N, ct := N, bk := D.nx } τ2 G2) := by
  refine ⟨fun i m τ G => m + i = xs.length ∧ Pv i τ G, ⟨xs.length, rfl, h0⟩, ?_⟩
  rintro i m τ G ⟨hm, pv⟩
  have sq := hl i τ G (by omega) pv
  cases m with
  | zero =>
    obtain rfl : i = xs.length := by omega
    exact .inl ⟨⟨xs, sq, Nat.le_refl _⟩, fin τ G pv⟩
  | succ m =>
    refine .inr ⟨⟨xs, xs[i], sq, List.getElem?_eq_getElem (by omega)⟩, Pv (i + 1), fun τ' G' z => ⟨m, Nat.lt_succ_self m, by omega, z⟩, ?_⟩
    rintro x G' ⟨T, y, rfl, hT, rfl, at_⟩
    exact turn i y τ G T (at_ xs sq) pv hT
/-! rows, as they are handed in -/
def LenOk (d a b : Int) : Prop := 0 < vl a b d ∧ a.natAbs < 2 ^ 100 ∧ b.natAbs < 2 ^ 100
def ShOk (d : Int) (x : Sh) : Prop := LenOk d x.1 x.2.1 ∧ LenOk d x.2.2.1 x.2.2.2
def EsOk (d : Int) (es : DEs) : Prop := ∀ e ∈ es, ShOk d e.1 ∧ 1 ≤ e.2.2
/-- the rows es, in a list or, where there are none, in a tuple -/
inductive Handed (K : PySem.W.Frag) (H : Hp) : V → DEs → Prop
  | list {l : Addr} {as : List Addr} {es : DEs} (hl : SqL K H l (as.map V.ref)) (hr : RowsAt H as es) (hk : ∀ e ∈ es, ShAt H e.2.1 e.1) : Handed K H (.ref l) es
  | none {t : Addr} (ht : SqT K H t []) : Handed K H (.ref t) []
theorem Handed.same {K : PySem.W.Frag} {H H' : Hp} {r : V} {es : DEs} (h : Handed K H r es) (s : Same H H') : Handed K H' r es := by
  cases h with
  | list hl hr hk => exact .list (Same.seq s hl) (hr.mono fun p xs z => s _ _ z) fun e he => (hk e he).same s
  | none ht => exact .none (Evl.ex_t s ht)
theorem RowsAt.row {H : Hp} {as : List Addr} {es : DEs} (h : RowsAt H as es) {i : Nat} {v : V} (hv : (as.map V.ref)[i]? = some v) : ∃ a e, v = .ref a ∧ es[i]? = some e ∧ H a = some (.tup [.ref e.2.1, .int e.2.2]) := by
  rw [List.getElem?_map] at hv
  cases ha : as[i]? with
  | none =>
    rw [ha] at hv
    cases hv
  | some a =>
    rw [ha] at hv
    obtain ⟨e, he, z⟩ := Paired.getL h ha
    exact ⟨a, e, (Option.some.inj hv).symm, he, z⟩
theorem RowsAt.len {H : Hp} {as : List Addr} {es : DEs} (h : RowsAt H as es) : as.length = es.length := Paired.length h
theorem w100 {x : Int} (h : x.natAbs < 2 ^ 100) : x.natAbs < 2 ^ 9000 := Nat.lt_of_lt_of_le h (Nat.pow_le_pow_right (by decide) (by decide))
section
variable {base : Heap} {K : PySem.W.Frag} {mg : Str → Option Value} {P : Program} {w : World}
def spCkRoot : Sp := fun vs H Q _ => ∃ n : Int, vs = [.int n] ∧ isRB n = true ∧ Q .non H
theorem ok_check_root (T : Txt K mg) : FnOk P w K mg base CX0 3 T.f_check_root T.d_check_root ["root"] spCkRoot := by
  refine T.F_check_root.ok sc_check_root (fun vs H Q E h => ?_) (fun cdv A outer s H vs Q E hr h => ?_)
  · obtain ⟨n, rfl, _⟩ := h
    rfl
  · obtain ⟨n, rfl, h1, q⟩ := h
    refine ⟨_, (pss_one (ps_if (pt_not (pt_val (pe_call (ok_is_root T) (hr.mono (by decide)) (by rfl) T.g_is_root T.F_is_root.kp T.b_is_root .nil pass0 (pa_cons (pv 0) pa_nil)))) (pss_one ps_dead) pss_nil)), ?_⟩
    refine ⟨_, rfl, n, rfl, _, rfl, ?_⟩
    rw [h1]
    exact iteF q
def spIsSheet (K : PySem.W.Frag) : Sp := fun vs H Q _ => ∃ (p : Addr) (d : Int) (x : Sh), vs = [.ref p, .int d] ∧ ShAt H p x ∧ d.natAbs < 2 ^ 64 ∧ ShOk d x ∧ Q (.bl true) H
theorem ok_is_sheet (T : Txt K mg) : FnOk P w K mg base CX0 3 T.f_is_sheet T.d_is_sheet ["sheet", "root"] (spIsSheet K) := by
  refine T.F_is_sheet.ok sc_is_sheet (fun vs H Q E h => ?_) (fun cdv A outer s H vs Q E hr h => ?_)
  · obtain ⟨p, d, x, rfl, _⟩ := h
    rfl
  · obtain ⟨p, d, x, rfl, ⟨u, v, h1, h2, h3⟩, hd, ⟨⟨p1, b1, b2⟩, p2, b3, b4⟩, q⟩ := h
    refine ⟨_, (pss_cons (ps_asg (pv 0) (pg_tup (by rfl) (pgs_cons (pg_name (i := 2) sc_is_sheet.nd rfl (Or.inl rfl)) (pgs_cons (pg_name (i := 3) sc_is_sheet.nd rfl (Or.inl rfl)) pgs_nil))))
      (pss_one (ps_ret (pe_and (pe_call (ok_is_length T) (hr.mono (by decide)) (by rfl) T.g_is_length T.F_is_length.kp T.b_is_length .nil pass0 (pa_cons (pv 2) (pa_cons (pv 1) pa_nil))) (pe_one (pe_call (ok_is_length T) (hr.mono (by decide)) (by rfl) T.g_is_length T.F_is_length.kp T.b_is_length .nil pass0 (pa_cons (pv 3) (pa_cons (pv 1) pa_nil)))))))), ?_⟩
    refine ⟨_, rfl, p, _, rfl, SqT.of h1, rfl, .ref u, _, rfl, .ref v, _, rfl, rfl, ?_⟩
    refine ⟨_, rfl, _, rfl, .ref u, d, _, _, rfl, ⟨u, rfl, SqT.of h2⟩, hd, w100 b1, w100 b2, true, (by rw [sgnI_pos p1]; rfl), iteT ?_⟩
    refine ⟨_, rfl, _, rfl, .ref v, d, _, _, rfl, ⟨v, rfl, SqT.of h3⟩, hd, w100 b3, w100 b4, ?_⟩
    rw [sgnI_pos p2]
    exact q
def spCkRows (K : PySem.W.Frag) : Sp := fun vs H Q _ => ∃ (r : V) (d : Int) (es : DEs), vs = [r, .int d] ∧ Handed K H r es ∧ d.natAbs < 2 ^ 64 ∧ EsOk d es ∧ ∀ H', Same H H' → Q .non H'
theorem ok_check_rows (T : Txt K mg) : FnOk P w K mg base CX0 4 T.f_check_rows T.d_check_rows ["rows", "root"] (spCkRows K) := by
  refine T.F_check_rows.ok sc_check_rows (fun vs H Q E h => ?_) (fun cdv A outer s H vs Q E hr h => ?_)
  · obtain ⟨r, d, es, rfl, _⟩ := h
    rfl
  · obtain ⟨r, d, es, rfl, hh, hd, ok, q⟩ := h
    refine ⟨_, (pss_one (ps_for PassesOwn.never rfl (PI.or (pi_enum (by rfl) T.n_enumerate (pa_cons (pv 0) pa_nil)) (pi_enumN (by rfl) T.n_enumerate (pa_cons (pv 0) pa_nil))) (pg_tup (by rfl) (pgs_cons (pg_name (i := 2) sc_check_rows.nd rfl (Or.inl rfl)) (pgs_cons (pg_tup (by rfl) (pgs_cons (pg_name (i := 3) sc_check_rows.nd rfl (Or.inl rfl)) (pgs_cons (pg_name (i := 4) sc_check_rows.nd rfl (Or.inl rfl)) pgs_nil))) pgs_nil))) (pss_one (ps_if (PW.pt (pw_or (pt_cmpR op_lt (pv 4) pe_int (nomark _)) (pw_or1 (pt_not (pt_val (pe_call (ok_is_sheet T) (hr.mono (by decide)) (by rfl) T.g_is_sheet T.F_is_sheet.kp T.b_is_sheet .nil pass0 (pa_cons (pv 3) (pa_cons (pv 1) pa_nil)))))))) (pss_one ps_dead) pss_nil)))), ?_⟩
    cases hh with
    | none ht =>
      refine .inr ⟨_, rfl, _, rfl, ht, fun i m σ H' => m = 0 ∧ H' = H, ⟨0, rfl, rfl⟩, ?_⟩
      rintro i m σ H' ⟨rfl, rfl⟩
      exact .inl ⟨ht, q _ (Same.refl _)⟩
    | @list l as _ hl hr hk =>
      refine .inl ⟨_, rfl, l, _, rfl, hl, for_enumL (K := K) (a := l) (xs := as.map V.ref) (fun i σ H' => ∃ y2 y3 y4, σ = [some (.ref l), some (.int d), y2, y3, y4] ∧ Same H H') ⟨_, _, _, rfl, Same.refl _⟩ ?_ ?_ ?_⟩
      · rintro i τ G hi ⟨_, _, _, _, s⟩
        exact Same.seq s hl
      · rintro i x τ G T1 hx ⟨y2, y3, y4, rfl, s⟩ hT
        obtain ⟨a, e, rfl, he, ha⟩ := hr.row hx
        have s1 := s.trans (same_new (o := .tup [.int (i : Nat), .ref a]) hT)
        have me := List.mem_of_getElem? he
        obtain ⟨o1, o2⟩ := ok e me
        refine ⟨T1, _, rfl, SqT.of upd_same, rfl, .int i, _, rfl, .ref a, _, rfl, a, _, rfl, SqT.of (s1 _ _ ha), rfl, .ref e.2.1, _, rfl, .int e.2.2, _, rfl, rfl, rfl, ?_⟩
        refine ⟨_, rfl, e.2.2, 1, rfl, rfl, _, rfl, ?_⟩
        rw [decide_eq_false (by omega)]
        refine iteF ⟨_, rfl, _, rfl, e.2.1, d, e.1, rfl, (hk e me).same s1, hd, o1, _, rfl, iteF ?_⟩
        exact ⟨_, _, _, rfl, s1⟩
      · rintro τ G ⟨_, _, _, rfl, s⟩
        exact q _ s
/-- what a dict that is made is told by -/
def NewD (P : Program) (w : World) (H : Hp) (es : DEs) (Q : VK) : Prop := ∀ d H', H d = none → Same H H' → DAt P w H' d es → Q (.ref d) H'
def spMerged (K : PySem.W.Frag) (P : Program) (w : World) : Sp := fun vs H Q _ => ∃ (r : V) (es : DEs), vs = [r] ∧ Handed K H r es ∧ es.length ≤ 1000 ∧ NewD P w H (sortE (mergeD es)) Q
theorem step_put {H H1 : Hp} {c : Addr} {es : DEs} {e : Sh × Addr × Int} {i : Nat} (hc : H c = none) (s : Same H H1) (D : DAt P w H1 c (mergeTo es i)) (hs : ShAt H1 e.2.1 e.1) (he : es[i]? = some e) :
    Same H (upd H1 c (DS P w c (putD (mergeTo es i) e.1 e.2.1 ((valD (mergeTo es i) e.1).getD 0 + e.2.2)))) ∧ DAt P w (upd H1 c (DS P w c (putD (mergeTo es i) e.1 e.2.1 ((valD (mergeTo es i) e.1).getD 0 + e.2.2)))) c (mergeTo es (i + 1)) := by
  refine ⟨fun a o z => (upd_ne (ne_of_none z hc)).trans (s a o z), ?_⟩
  rw [mergeTo_succ he]
  exact D.put hs
theorem small_of {n : Nat} (h : n ≤ 1000) : n < sizeLine := small1000 h
theorem sortE_at {acc : DEs} (nd : (keysD acc).Nodup) {i : Nat} {b : Sh × Addr} (hb : (sortK acc)[i]? = some b) : ∃ n, valD acc b.1 = some n ∧ (sortE acc)[i]? = some (b.1, b.2, n) ∧ (b.1, b.2, n) ∈ acc := by
  obtain ⟨e, he, e1⟩ := List.mem_map.mp ((sortK_perm acc).mem_iff.mp (List.mem_of_getElem? hb))
  have hv := valD_mem nd he
  have k1 : e.1 = b.1 := congrArg Prod.fst e1
  have k2 : e.2.1 = b.2 := congrArg Prod.snd e1
  rw [k1] at hv
  refine ⟨e.2.2, hv, ?_, ?_⟩
  · unfold sortE
    rw [List.getElem?_map, hb]
    show some (b.1, b.2, (valD acc b.1).getD 0) = _
    rw [hv]
    rfl
  · rw [← k1, ← k2]
    exact he
theorem ok_merged (T : Txt K mg) : FnOk P w K mg base CX0 1 T.f_merged T.d_merged ["rows"] (spMerged K P w) := by
  refine T.F_merged.ok sc_merged (fun vs H Q E h => ?_) (fun cdv A outer s H vs Q E hr h => ?_)
  · obtain ⟨r, es, rfl, _⟩ := h
    rfl
  · obtain ⟨r, es, rfl, hh, hn, q⟩ := h
    refine ⟨_, (pss_cons (ps_set (i := 1) sc_merged.nd rfl (Or.inr rfl) pe_dnewS)
      (Evl.pss_cut (ps_for PassesOwn.never rfl (pi_seq (pv 0)) (pg_tup (by rfl) (pgs_cons (pg_name (i := 2) sc_merged.nd rfl (Or.inl rfl)) (pgs_cons (pg_name (i := 3) sc_merged.nd rfl (Or.inl rfl)) pgs_nil))) (pss_one (ps_sput hr.units (pv 1) (pv 2) (pe_op op_add (pe_sget2 hr.units (pv 1) (pv 2) pe_int ⟨rfl, rfl, rfl, rfl⟩) (pv 3)) rfl)))
      (pss_one (ps_ret (pe_dcS (own := [("sheet", 2)]) (g := (gName 2)) (tk := tVar 2) (tv := tSGet P w (tVar 1) (tVar 2)) (by rfl) hr.units sc_merged.nd (pi_list (pe_callB (cr_sortedDS rfl hr.units) (by rfl) T.n_sorted (by decide +kernel) (pa_cons (pv 1) pa_nil))) (blkOk_by (own := [("sheet", 2)]) (N := ["rows", "counts", "sheet", "count"]) (sc := defScope s_merged) (by decide +kernel)) (fun _ _ _ _ _ => (pg_name (i := 2) sc_merged.nd rfl (Or.inl rfl))) (fun _ _ _ _ _ => (pv 2)) (fun _ _ _ _ _ => (pe_sget hr.units (pv 1) (pv 2) (fun _ _ => rfl)))))))), ?_⟩
    intro c hc
    refine ⟨fun σ H' => ∃ y2 y3, σ = [some r, some (.ref c), y2, y3] ∧ Same H H' ∧ DAt P w H' c (mergeD es), ?_, ?_⟩
    · have D0 : DAt P w (upd H c (DS P w c [])) c [] := ⟨upd_same, fun x hx => by cases hx⟩
      cases hh with
      | none ht => exact .inr ⟨_, rfl, _, rfl, ⟨_, Evl.ex_t (same_new hc) ht⟩, for_tup (K := K) (xs := []) (fun i σ H' => σ = [some _, some (.ref c), none, none] ∧ H' = upd H c (DS P w c [])) ⟨rfl, rfl⟩ (fun i σ H' _ z => by rw [z.2]; exact Evl.ex_t (same_new hc) ht) (fun i x σ H' hx _ => nomatch hx) (fun σ H' z => ⟨_, _, z.1, by rw [z.2]; exact same_new hc, by rw [z.2]; exact D0⟩)⟩
      | @list l as _ hl hr2 hk =>
        refine .inl ⟨_, rfl, l, rfl, ⟨_, (same_new hc).seq hl⟩, for_list (K := K) (a := l) (xs := as.map V.ref) (fun i σ H' => ∃ y2 y3, σ = [some (.ref l), some (.ref c), y2, y3] ∧ Same H H' ∧ DAt P w H' c (mergeTo es i)) ⟨none, none, rfl, same_new hc, D0⟩ ?_ ?_ ?_⟩
        · rintro i σ H' _ ⟨_, _, _, s1, _⟩
          exact s1.seq hl
        · rintro i x σ H' hx ⟨y2, y3, rfl, s1, D⟩
          obtain ⟨a, e, rfl, he, ha⟩ := hr2.row hx
          have hs := (hk e (List.mem_of_getElem? he)).same s1
          have hlt : i < es.length := (List.getElem?_eq_some_iff.mp he).1
          refine ⟨a, _, rfl, SqT.of (s1 _ _ ha), rfl, .ref e.2.1, _, rfl, .int e.2.2, _, rfl, rfl, ?_⟩
          refine ⟨.ref c, rfl, c, _, rfl, D.rd, .ref e.2.1, rfl, e.2.1, e.1, 0, _, rfl, rfl, D.rd, hs, .int e.2.2, rfl, _, _, rfl, rfl, .ref c, rfl, .ref e.2.1, rfl, c, e.2.1, _, e.1, _, rfl, rfl, rfl, D, hs, small_of (by have := mergeTo_len es i; omega), ?_⟩
          obtain ⟨s2, D2⟩ := step_put hc s1 D hs he
          exact ⟨_, _, rfl, s2, D2⟩
        · rintro σ H' ⟨y2, y3, rfl, s1, D⟩
          rw [List.length_map, hr2.len, mergeTo_all] at D
          exact ⟨_, _, rfl, s1, D⟩
    · rintro σ H2 ⟨y2, y3, rfl, s2, D⟩
      have nd := merge_nodup es
      have hlen : (sortE (mergeD es)).length ≤ 1000 := by
        rw [(sortE_perm nd).length_eq]
        exact Nat.le_trans (merge_len es) hn
      refine ⟨.ref c, rfl, c, _, rfl, D, fun p hp => ⟨p, rfl, ⟨_, SqL.of upd_same⟩, fun d hd => ?_⟩⟩
      have ep := same_new (o := .lst ((sortK (mergeD es)).map fun b => V.ref b.2)) hp
      refine dcS_list (K := K) (a := p) (xs := (sortK (mergeD es)).map fun b => V.ref b.2) (fun i G => Same (upd H2 p (.lst ((sortK (mergeD es)).map fun b => V.ref b.2))) G ∧ DAt P w G d ((sortE (mergeD es)).take i)) ⟨same_new hd, upd_same, fun x hx => by cases hx⟩ (fun i G _ z => SqL.of (z.1 _ _ upd_same)) ?_ ?_ ?_
      · rintro i x G hx ⟨sG, DG⟩
        rw [List.getElem?_map] at hx
        cases hb : (sortK (mergeD es))[i]? with
        | none =>
          rw [hb] at hx
          cases hx
        | some b =>
          rw [hb] at hx
          cases hx
          obtain ⟨n, hv, hat, hin⟩ := sortE_at nd hb
          have Dc := (D.same (ep.trans sG))
          have hs := Dc.ks _ hin
          refine ⟨rfl, _, rfl, _, rfl, _, rfl, c, b.2, _, b.1, n, rfl, rfl, Dc.rd, hs, hv, b.2, b.1, n, _, rfl, rfl, DG, hs, small_of (by rw [List.length_take]; omega), ?_⟩
          have e1 := take_put (sortE_keys nd) hat
          rw [e1]
          refine ⟨fun a o z => (upd_ne (ne_of_none z hd)).trans (sG a o z), ?_⟩
          have := DG.put (n := n) hs
          rw [e1] at this
          exact this
      · rintro G ⟨sG, DG⟩
        have hl : ((sortK (mergeD es)).map fun b => V.ref b.2).length = (sortE (mergeD es)).length := by
          unfold sortE
          rw [List.length_map, List.length_map]
        rw [hl, List.take_length] at DG
        exact q d G ((s2.trans ep).free hd) ((s2.trans ep).trans sG) DG
      · rintro N N' x G hN ⟨h1, y, h2, z, h3, z2, h4, c1, p1, es1, x1, n1, h5, h6, h7, h8, h9, p2, k2, n2, es2, h10, h11, h12, h13, h14, h15⟩
        exact ⟨h1, y, h2, z, h3, z2, h4, c1, p1, es1, x1, n1, h5, h6, h7, h8, h9, p2, k2, n2, es2, h10, h11, h12, h13, h14, hN _ h15⟩
theorem Handed.put {H : Hp} {r : V} {es : DEs} {p C dx : Addr} {fs gs : List (Str × V)} (h : Handed K H r es) (hp : H p = some (.ins C dx fs)) : Handed K (upd H p (.ins C dx gs)) r es := by
  have tup : ∀ a xs, H a = some (.tup xs) → (upd H p (.ins C dx gs)) a = some (.tup xs) := fun a xs z => (upd_ne (ne_of z hp (by intro q; cases q))).trans z
  have rd : ∀ a o, o ≠ .ins C dx fs → Rd H a o → Rd (upd H p (.ins C dx gs)) a o := by
    intro a o no z
    rcases z with z | ⟨od, z⟩
    · exact .inl ((upd_ne (ne_of z hp no)).trans z)
    · exact .inr ⟨od, (upd_ne (ne_of z hp (by intro q; cases q))).trans z⟩
  cases h with
  | list hl hr hk =>
    refine .list ?_ (hr.mono tup) fun e he => (hk e he).mono tup
    rcases hl with z | z
    · exact .inl (rd _ _ (by intro q; cases q) z)
    · exact .inr z
  | none ht =>
    refine .none ?_
    rcases ht with z | z
    · exact .inl (rd _ _ (by intro q; cases q) z)
    · exact .inr z
def HeapAt (P : Program) (w : World) (C : Addr) (H : Hp) (p : Addr) (d : Int) (es : DEs) : Prop := ∃ dx c : Addr, H p = some (.ins C dx [("held_root", .int d), ("copies", .ref c)]) ∧ DAt P w H c es
theorem HeapAt.same {C : Addr} {H H' : Hp} {p : Addr} {d : Int} {es : DEs} (h : HeapAt P w C H p d es) (s : Same H H') : HeapAt P w C H' p d es := by
  obtain ⟨dx, c, h1, h2⟩ := h
  exact ⟨dx, c, s _ _ h1, h2.same s⟩
theorem isRB_small {n : Int} (h : isRB n = true) : n.natAbs < 2 ^ 64 := by
  unfold isRB at h
  rw [Bool.and_eq_true] at h
  have := of_decide_eq_true h.1
  omega
def spHInit (K : PySem.W.Frag) (P : Program) (w : World) (C : Addr) : Sp := fun vs H Q _ => ∃ (p dx : Addr) (d : Int) (r : V) (es : DEs), vs = [.ref p, .int d, r] ∧ H p = some (.ins C dx []) ∧ isRB d = true ∧ Handed K H r es ∧ EsOk d es ∧ es.length ≤ 1000 ∧
  ∀ H', HeapAt P w C H' p d (sortE (mergeD es)) → (∀ q o, H q = some o → q ≠ p → H' q = some o) → Q .non H'
theorem ok_Heap_init (T : Txt K mg) : FnOk P w K mg base CX0 5 T.f_Heap_init T.d_Heap_init ["self", "root", "rows"] (spHInit K P w T.C_Heap) := by
  refine T.F_Heap_init.ok sc_Heap_init (fun vs H Q E h => ?_) (fun cdv A outer s H vs Q E hr h => ?_)
  · obtain ⟨p, dx, d, r, es, rfl, _⟩ := h
    rfl
  · obtain ⟨p, dx, d, r, es, rfl, hp, hd, hh, ok, hn, q⟩ := h
    refine ⟨_, (pss_cons (ps_expr (pe_call (ok_check_root T) (hr.mono (by decide)) (by rfl) T.g_check_root T.F_check_root.kp T.b_check_root .nil pass0 (pa_cons (pv 1) pa_nil)))
      (pss_cons (ps_expr (pe_call (ok_check_rows T) (hr.mono (by decide)) (by rfl) T.g_check_rows T.F_check_rows.kp T.b_check_rows .nil pass0 (pa_cons (pv 2) (pa_cons (pv 1) pa_nil))))
      (pss_cons (ps_fld (pv 0) (pv 1) rfl)
      (pss_one (ps_fld (pv 0) (pe_call (ok_merged T) (hr.mono (by decide)) (by rfl) T.g_merged T.F_merged.kp T.b_merged .nil pass0 (pa_cons (pv 2) pa_nil)) rfl))))), ?_⟩
    refine ⟨_, rfl, d, rfl, hd, _, rfl, _, rfl, r, d, es, rfl, hh, isRB_small hd, ok, fun H1 s1 => ?_⟩
    refine ⟨_, rfl, _, rfl, p, T.C_Heap, dx, [], rfl, s1 _ _ hp, T.cl_Heap, T.n_Heap_held_root, by decide, ?_⟩
    refine ⟨_, rfl, r, es, rfl, (hh.same s1).put (s1 _ _ hp), hn, fun c H2 hc s2 D => ?_⟩
    have hp2 := s2 _ _ (upd_same (H := H1) (a := p) (o := .ins T.C_Heap dx [("held_root", .int d)]))
    refine ⟨_, rfl, p, T.C_Heap, dx, _, rfl, hp2, T.cl_Heap, T.n_Heap_copies, (by show 1 < 1000; decide), ?_⟩
    refine q _ ⟨dx, c, upd_same, (upd_ne (ne_of D.hd hp2 (by intro z; cases z))).trans D.hd, fun x hx => (D.ks x hx).mono fun a xs z => (upd_ne (ne_of z hp2 (by intro z; cases z))).trans z⟩ fun b o z ne => ?_
    exact (upd_ne ne).trans (s2 _ _ ((upd_ne ne).trans (s1 _ _ z)))
theorem mk_heap {C : Addr} {H : Hp} {d : Int} {r : V} {es : DEs} {R : Addr → Hp → Prop} {E : XK} (hd : isRB d = true) (hh : Handed K H r es) (ok : EsOk d es) (hn : es.length ≤ 1000) (q : ∀ x H', H x = none → Same H H' → HeapAt P w C H' x d (sortE (mergeD es)) → R x H') :
    ∀ x dx, H x = none → H dx = none → dx ≠ x → spHInit K P w C [.ref x, .int d, r] (upd (upd H dx (.own x)) x (.ins C dx [])) (fun v H2 => v = .non ∧ R x H2) E := by
  intro x dx nx nd ne
  have s1 : Same H (upd (upd H dx (.own x)) x (.ins C dx [])) := fun b o z => by
    rw [upd_ne (ne_of_none z nx), upd_ne (ne_of_none z nd)]
    exact z
  exact ⟨x, dx, d, r, es, rfl, upd_same, hd, hh.same s1, ok, hn, fun H' hA hk => ⟨rfl, q x H' nx (fun b o z => hk b o (s1 b o z) (ne_of_none z nx)) hA⟩⟩
def spHRows (P : Program) (w : World) (C : Addr) : Sp := fun vs H Q _ => ∃ (p : Addr) (d : Int) (es : DEs), vs = [.ref p] ∧ HeapAt P w C H p d es ∧ ∀ l as H', H l = none → Same H H' → H' l = some (.lst (as.map V.ref)) → RowsAt H' as es → Q (.ref l) H'
theorem ok_Heap_rows (T : Txt K mg) : FnOk P w K mg base CX0 1 T.f_Heap_rows T.d_Heap_rows ["self"] (spHRows P w T.C_Heap) := by
  refine T.F_Heap_rows.ok sc_Heap_rows (fun vs H Q E h => ?_) (fun cdv A outer s H vs Q E hr h => ?_)
  · obtain ⟨p, d, es, rfl, _⟩ := h
    rfl
  · obtain ⟨p, d, es, rfl, ⟨dx, c, hp, D⟩, q⟩ := h
    refine ⟨_, (pss_one (ps_ret (pe_callTy (call_list_itemsDS rfl) (by rfl) T.n_list (by decide +kernel) (pa_cons (pe_itemsDS (pe_fld (pv 0) rfl)) pa_nil)))), ?_⟩
    refine ⟨_, rfl, p, T.C_Heap, dx, _, _, rfl, hp, T.cl_Heap, T.n_Heap_copies, rfl, c, es, rfl, rfl, D, fun v hv => ?_⟩
    refine ⟨v, c, es, rfl, upd_same, D.same (same_new hv), fun l as H' hl s1 hL hR => ?_⟩
    exact q l as H' ((same_new hv).free hl) ((same_new hv).trans s1) hL hR
/-! the table of a heap -/
def f00 (x : Sh) : Int := x.2.2.1 * x.1
def f01 (x : Sh) : Int := x.2.2.2 * x.1
def f10 (x : Sh) : Int := x.2.2.1 * x.2.1
def f11 (x : Sh) : Int := x.2.2.2 * x.2.1
/-- sheets and numbers of less than 100 bits -/
def Small (es : DEs) : Prop := ∀ e ∈ es, Bd 100 [e.1.1, e.1.2.1, e.1.2.2.1, e.1.2.2.2] ∧ e.2.2.natAbs < 2 ^ 100
theorem wsum_take {φ : Sh → Int} {es : DEs} {i : Nat} {e : Sh × Addr × Int} (he : es[i]? = some e) : wsum φ (es.take (i + 1)) = wsum φ (es.take i) + e.2.2 * φ e.1 := by
  rw [List.take_add_one, he, wsum_app, show (some e).toList = [e] from rfl, wsum_cons]
  show _ + (_ + 0) = _
  omega
theorem wsum_bd {φ : Sh → Int} {B : Nat} : ∀ {es : DEs}, (∀ e ∈ es, (e.2.2 * φ e.1).natAbs ≤ B) → (wsum φ es).natAbs ≤ es.length * B
  | [], _ => by simp [wsum]
  | e :: es, h => by
    have h1 := h e List.mem_cons_self
    have h2 := wsum_bd (es := es) fun f hf => h f (List.mem_cons_of_mem _ hf)
    rw [wsum_cons, List.length_cons, Nat.succ_mul]
    omega
theorem wsum_small {φ : Sh → Int} {es : DEs} (h : ∀ e ∈ es, (φ e.1).natAbs < 2 ^ 200 ∧ e.2.2.natAbs < 2 ^ 100) (hn : es.length ≤ 1000) : (wsum φ es).natAbs < 2 ^ 320 := by
  have h1 := wsum_bd (φ := φ) (B := 2 ^ 300) (es := es) fun e he => Nat.le_of_lt (wide_lt (h e he).2 (h e he).1)
  refine Nat.lt_of_le_of_lt h1 (Nat.lt_of_le_of_lt (Nat.mul_le_mul_right _ hn) ?_)
  decide +kernel
theorem Small.tab {es : DEs} (h : Small es) (hn : es.length ≤ 1000) : Bd 320 [wsum f00 es, wsum f01 es, wsum f10 es, wsum f11 es] := by
  have g : ∀ e ∈ es, (f00 e.1).natAbs < 2 ^ 200 ∧ (f01 e.1).natAbs < 2 ^ 200 ∧ (f10 e.1).natAbs < 2 ^ 200 ∧ (f11 e.1).natAbs < 2 ^ 200 := fun e he => by
    obtain ⟨b1, b2, b3, b4⟩ := (h e he).1.b4
    exact ⟨wide_lt b3 b1, wide_lt b4 b1, wide_lt b3 b2, wide_lt b4 b2⟩
  exact mk4 (wsum_small (fun e he => ⟨(g e he).1, (h e he).2⟩) hn) (wsum_small (fun e he => ⟨(g e he).2.1, (h e he).2⟩) hn) (wsum_small (fun e he => ⟨(g e he).2.2.1, (h e he).2⟩) hn) (wsum_small (fun e he => ⟨(g e he).2.2.2, (h e he).2⟩) hn)
def spHTable (K : PySem.W.Frag) (P : Program) (w : World) (C CT : Addr) : Sp := fun vs H Q _ => ∃ (p : Addr) (d : Int) (es : DEs), vs = [.ref p] ∧ HeapAt P w C H p d es ∧ Small es ∧ NewTab CT H (wsum f00 es) (wsum f01 es) (wsum f10 es) (wsum f11 es) Q
theorem ok_Heap_table (T : Txt K mg) : FnOk P w K mg base CX0 4 T.f_Heap_table T.d_Heap_table ["self"] (spHTable K P w T.C_Heap T.C_Table) := by
  refine T.F_Heap_table.ok sc_Heap_table (fun vs H Q E h => ?_) (fun cdv A outer s H vs Q E hr h => ?_)
  · obtain ⟨p, d, es, rfl, _⟩ := h
    rfl
  · obtain ⟨p, d, es, rfl, hA, sm, q⟩ := h
    refine ⟨_, (pss_cons (ps_set (i := 1) sc_Heap_table.nd rfl (Or.inl rfl) (pe_make0 T.M_Table (ok_Table_init T) (hr.mono (by decide)) (by rfl) T.g_Table T.b0_Table_init T.v0_Table_init pass0))
      (pss_cons (ps_for PassesOwn.never rfl (pi_list (pe_meth0 (pv 0) T.cl_Heap T.m_Heap_rows (ok_Heap_rows T) (hr.mono (by decide)) T.b_Heap_rows .nil pass0)) (pg_tup (by rfl) (pgs_cons (pg_tup (by rfl) (pgs_cons (pg_name (i := 3) sc_Heap_table.nd rfl (Or.inl rfl)) (pgs_cons (pg_name (i := 4) sc_Heap_table.nd rfl (Or.inl rfl)) pgs_nil))) (pgs_cons (pg_name (i := 2) sc_Heap_table.nd rfl (Or.inl rfl)) pgs_nil))) (pss_one (ps_set (i := 1) sc_Heap_table.nd rfl (Or.inl rfl) (pe_op (op_bin T.m_Table_add T.sf_Table (ok_Table_add T) (hr.mono (by decide)) T.b_Table_add pass0) (pv 1) (pe_op (op_binI T.m_Table_mul T.sf_Table T.x_Table_rmul T.i_mul T.i_rmul T.is_Table (ok_Table_mul T) (hr.mono (by decide)) T.b_Table_mul pass0) (pe_call (ok_outer T) (hr.mono (by decide)) (by rfl) T.g_outer T.F_outer.kp T.b_outer .nil pass0 (pa_cons (pv 3) (pa_cons (pv 4) pa_nil))) (pv 2))))))
      (pss_one (ps_ret (pv 1))))), ?_⟩
    refine mk_tab (K := K) (Dflt.cells T.z0_Table_init) fun t0 H1 n1 s1 hT0 => ?_
    have hA1 := hA.same s1
    obtain ⟨dx, c, hp, D⟩ := id hA1
    refine ⟨_, rfl, p, dx, _, rfl, hp, rfl, p, d, es, rfl, hA1, fun l as H2 n2 s2 hl hR => ?_⟩
    have D2 := D.same s2
    refine ⟨l, rfl, ⟨_, SqL.of hl⟩, for_list (K := K) (a := l) (xs := as.map V.ref) (fun i σ H' => ∃ t y2 y3 y4, σ = [some (.ref p), some (.ref t), y2, y3, y4] ∧ H t = none ∧ Same H2 H' ∧ TabAt T.C_Table H' t (wsum f00 (es.take i)) (wsum f01 (es.take i)) (wsum f10 (es.take i)) (wsum f11 (es.take i))) ⟨t0, none, none, none, rfl, n1, fun _ _ z => z, hT0.same s2⟩ ?_ ?_ ?_⟩
    · rintro i σ H' _ ⟨_, _, _, _, _, _, s3, _⟩
      exact SqL.of (s3 _ _ hl)
    · rintro i x σ H3 hx ⟨t, y2, y3, y4, rfl, nt, s3, hT⟩
      obtain ⟨a, e, rfl, he, ha⟩ := hR.row hx
      obtain ⟨bs, bn⟩ := sm e (List.mem_of_getElem? he)
      obtain ⟨u, v, h1, h2, h3⟩ := (D2.same s3).ks e (List.mem_of_getElem? he)
      refine ⟨a, _, rfl, SqT.of (s3 _ _ ha), rfl, .ref e.2.1, _, rfl, e.2.1, _, rfl, SqT.of h1, rfl, .ref u, _, rfl, .ref v, _, rfl, rfl, .int e.2.2, _, rfl, rfl, ?_⟩
      refine ⟨_, rfl, _, rfl, _, rfl, .ref u, .ref v, _, _, _, _, rfl, ⟨u, rfl, SqT.of h2⟩, ⟨v, rfl, SqT.of h3⟩, bs.up (by decide), fun t1 H4 n4 s4 hT1 => ?_⟩
      obtain ⟨b1, b2, b3, b4⟩ := bs.b4
      refine ⟨_, rfl, mul_do (m := 200) hT1 (mk4 (wide_lt b3 b1) (wide_lt b4 b1) (wide_lt b3 b2) (wide_lt b4 b2)) (w100 bn) (by decide) fun t2 H5 n5 s5 hT2 => ?_⟩
      refine add_do ((hT.same s4).same s5) hT2 fun t3 H6 n6 s6 hT3 => ?_
      have ss := s3.trans (s4.trans (s5.trans s6))
      refine ⟨t3, _, _, _, rfl, (s1.trans s2).free (((s3.trans s4).trans s5).free n6), ss, ?_⟩
      rw [wsum_take he, wsum_take he, wsum_take he, wsum_take he]
      have cm : ∀ z : Int, e.2.2 * z = z * e.2.2 := fun z => Int.mul_comm _ _
      rw [cm, cm, cm, cm]
      exact hT3
    · rintro σ H3 ⟨t, y2, y3, y4, rfl, nt, s3, hT⟩
      rw [List.length_map, hR.len, List.take_length] at hT
      exact ⟨_, rfl, q t H3 nt ((s1.trans s2).trans s3) hT⟩
theorem dV {x y : Int} : decide (V.int x = V.int y) = decide (x = y) := by
  by_cases h : x = y
  · rw [decide_eq_true h, h, decide_eq_true rfl]
  · rw [decide_eq_false h, decide_eq_false fun z => h (V.int.inj z)]
end
/-! ### the order of the pairs -/
/-- the pair stands for a positive value -/
def Po (d a b : Int) : Prop := (d * b * b < a * a ∧ 0 < a) ∨ (a * a < d * b * b ∧ 0 < b)
theorem norm_ne {d : Int} (hd : IsRoot d) {a b : Int} (h : a * a = d * b * b) : a = 0 ∧ b = 0 := by
  obtain ⟨d0, d1, k, hk, h1, h2⟩ := hd
  have hb : b = 0 := by
    rcases Int.lt_trichotomy b 0 with z | z | z
    · rcases Int.le_total 0 a with y | y
      · exact absurd (show a * a = d * -b * -b by grind) (no_square hk h1 h2 (-b).toNat (-b) a (by omega) y (Nat.le_refl _))
      · exact absurd (show -a * -a = d * -b * -b by grind) (no_square hk h1 h2 (-b).toNat (-b) (-a) (by omega) (by omega) (Nat.le_refl _))
    · exact z
    · rcases Int.le_total 0 a with y | y
      · exact absurd h (no_square hk h1 h2 b.toNat b a z y (Nat.le_refl _))
      · exact absurd (show -a * -a = d * b * b by grind) (no_square hk h1 h2 b.toNat b (-a) z (by omega) (Nat.le_refl _))
  subst hb
  refine ⟨?_, rfl⟩
  rcases Int.lt_trichotomy a 0 with z | z | z
  · have := Int.mul_pos_of_neg_of_neg z z
    omega
  · exact z
  · have := Int.mul_pos z z
    omega
theorem abs_lt_of_sq {x y : Int} (h0 : 0 < y) (h : x * x < y * y) : -y < x ∧ x < y := by
  refine ⟨?_, lt_of_sq (by omega) h⟩
  have := lt_of_sq (x := -x) (y := y) (by omega) (by grind)
  omega
theorem mul_lt4 {a b c e : Int} (a0 : 0 ≤ a) (c0 : 0 ≤ c) (h1 : a < b) (h2 : c < e) : a * c < b * e := by
  have h3 : a * c ≤ a * e := Int.mul_le_mul_of_nonneg_left (by omega) a0
  have h4 : a * e < b * e := Int.mul_lt_mul_of_pos_right h1 (by omega)
  omega
theorem dsq_nn {d b : Int} (h : 0 < d) : 0 ≤ d * b * b := by
  have := Int.mul_nonneg (Int.le_of_lt h) (sq_nn b)
  grind
/-- both greater in their first numbers -/
theorem pp {d a b c e : Int} (hd : 0 < d) (h1 : d * b * b < a * a) (h2 : d * e * e < c * c) (a0 : 0 < a) (c0 : 0 < c) : -(a * c) < d * b * e ∧ d * b * e < a * c := by
  refine abs_lt_of_sq (Int.mul_pos a0 c0) ?_
  have := mul_lt4 (dsq_nn hd) (dsq_nn hd) h1 h2
  grind
theorem qq {d a b c e : Int} (hd : 0 < d) (h1 : a * a < d * b * b) (h2 : c * c < d * e * e) (b0 : 0 < b) (e0 : 0 < e) : -(d * b * e) < a * c ∧ a * c < d * b * e := by
  refine abs_lt_of_sq (Int.mul_pos (Int.mul_pos hd b0) e0) ?_
  have := mul_lt4 (sq_nn a) (sq_nn c) h1 h2
  grind
theorem pq {d a b c e : Int} (hd : 0 < d) (h1 : d * b * b < a * a) (h2 : c * c < d * e * e) (a0 : 0 < a) (e0 : 0 < e) : -(a * e) < b * c ∧ b * c < a * e := by
  refine abs_lt_of_sq (Int.mul_pos a0 e0) ?_
  have h := mul_lt4 (dsq_nn hd) (sq_nn c) h1 h2
  have h' : d * (b * c * (b * c)) < d * (a * e * (a * e)) := by grind
  exact Int.lt_of_mul_lt_mul_left h' (Int.le_of_lt hd)
theorem Po.mul {d a b c e : Int} (hd : 0 < d) (h1 : Po d a b) (h2 : Po d c e) : Po d (a * c + d * b * e) (a * e + b * c) := by
  have key : (a * c + d * b * e) * (a * c + d * b * e) - d * (a * e + b * c) * (a * e + b * c) = (a * a - d * b * b) * (c * c - d * e * e) := by grind
  rcases h1 with ⟨h1, a0⟩ | ⟨h1, b0⟩
  · rcases h2 with ⟨h2, c0⟩ | ⟨h2, e0⟩
    · have p := pp hd h1 h2 a0 c0
      have := Int.mul_pos (show 0 < a * a - d * b * b by omega) (show 0 < c * c - d * e * e by omega)
      exact .inl ⟨by omega, by omega⟩
    · have p := pq hd h1 h2 a0 e0
      have := Int.mul_neg_of_pos_of_neg (show 0 < a * a - d * b * b by omega) (show c * c - d * e * e < 0 by omega)
      exact .inr ⟨by omega, by omega⟩
  · rcases h2 with ⟨h2, c0⟩ | ⟨h2, e0⟩
    · have p := pq hd h2 h1 c0 b0
      have := Int.mul_neg_of_neg_of_pos (show a * a - d * b * b < 0 by omega) (show 0 < c * c - d * e * e by omega)
      refine .inr ⟨by omega, ?_⟩
      have : c * b = b * c := Int.mul_comm _ _
      have : e * a = a * e := Int.mul_comm _ _
      omega
    · have p := qq hd h1 h2 b0 e0
      have := Int.mul_pos_of_neg_of_neg (show a * a - d * b * b < 0 by omega) (show c * c - d * e * e < 0 by omega)
      exact .inl ⟨by omega, by omega⟩
theorem Po.add {d a b c e : Int} (hd : IsRoot d) (h1 : Po d a b) (h2 : Po d c e) : Po d (a + c) (b + e) := by
  have d0 : 0 < d := by have := hd.1; omega
  have key : (a + c) * (a + c) - d * (b + e) * (b + e) = (a * a - d * b * b) + (c * c - d * e * e) + 2 * (a * c - d * b * e) := by grind
  have mixed : ∀ {a b c e : Int}, d * b * b < a * a → 0 < a → c * c < d * e * e → 0 < e → Po d (a + c) (b + e) := by
    intro a b c e h1 a0 h2 e0
    rcases Int.lt_trichotomy ((a + c) * (a + c)) (d * (b + e) * (b + e)) with z | z | z
    · refine .inr ⟨z, ?_⟩
      rcases Int.lt_or_le 0 (b + e) with y | y
      · exact y
      · exfalso
        have z1 : (-(a + c)) * (-(a + c)) < d * (-(b + e)) * (-(b + e)) := by grind
        have y1 : 0 < -(b + e) := by
          rcases Int.lt_or_eq_of_le y with q | q
          · omega
          · rw [q] at z
            have := sq_nn (a + c)
            omega
        have p := qq d0 z1 h2 y1 e0
        have k : (-(a + c) + c) * (-(a + c) + c) - d * (-(b + e) + e) * (-(b + e) + e) = ((-(a + c)) * (-(a + c)) - d * (-(b + e)) * (-(b + e))) + (c * c - d * e * e) + 2 * ((-(a + c)) * c - d * (-(b + e)) * e) := by grind
        have k2 : (-(a + c) + c) * (-(a + c) + c) - d * (-(b + e) + e) * (-(b + e) + e) = a * a - d * b * b := by grind
        omega
    · obtain ⟨u, v⟩ := norm_ne hd z
      have : a * a = c * c := by
        have : a = -c := by omega
        rw [this]
        grind
      have : d * b * b = d * e * e := by
        have : b = -e := by omega
        rw [this]
        grind
      omega
    · refine .inl ⟨z, ?_⟩
      rcases Int.lt_or_le 0 (a + c) with y | y
      · exact y
      · exfalso
        have z1 : d * (-(b + e)) * (-(b + e)) < (-(a + c)) * (-(a + c)) := by grind
        have y1 : 0 < -(a + c) := by
          rcases Int.lt_or_eq_of_le y with q | q
          · omega
          · rw [q] at z
            have := dsq_nn (b := b + e) d0
            omega
        have p := pp d0 z1 h1 y1 a0
        have k : (-(a + c) + a) * (-(a + c) + a) - d * (-(b + e) + b) * (-(b + e) + b) = ((-(a + c)) * (-(a + c)) - d * (-(b + e)) * (-(b + e))) + (a * a - d * b * b) + 2 * ((-(a + c)) * a - d * (-(b + e)) * b) := by grind
        have k2 : (-(a + c) + a) * (-(a + c) + a) - d * (-(b + e) + b) * (-(b + e) + b) = c * c - d * e * e := by grind
        omega
  rcases h1 with ⟨h1, a0⟩ | ⟨h1, b0⟩
  · rcases h2 with ⟨h2, c0⟩ | ⟨h2, e0⟩
    · have p := pp d0 h1 h2 a0 c0
      exact .inl ⟨by omega, by omega⟩
    · exact mixed h1 a0 h2 e0
  · rcases h2 with ⟨h2, c0⟩ | ⟨h2, e0⟩
    · have := mixed h2 c0 h1 b0
      rw [Int.add_comm c a, Int.add_comm e b] at this
      exact this
    · have p := qq d0 h1 h2 b0 e0
      exact .inr ⟨by omega, by omega⟩
/-- the sign by squares tells it -/
theorem po_iff {d a b : Int} (hd : IsRoot d) : Po d a b ↔ 0 < vl a b d := by
  have d0 : 0 < d := by have := hd.1; omega
  unfold Po vl
  have hb := dsq_nn (b := b) d0
  have ha := sq_nn a
  have hd2 : b < 0 → 0 < d * b * b := fun z => by
    have := Int.mul_pos d0 (Int.mul_pos_of_neg_of_neg z z)
    grind
  have hd3 : 0 < b → 0 < d * b * b := fun z => by
    have := Int.mul_pos d0 (Int.mul_pos z z)
    grind
  have ha2 : a < 0 → 0 < a * a := fun z => Int.mul_pos_of_neg_of_neg z z
  have ha3 : 0 < a → 0 < a * a := fun z => Int.mul_pos z z
  rcases Int.lt_or_le a 0 with x | x
  · rcases Int.lt_or_le b 0 with y | y
    · rw [ab_neg x, ab_neg y, Int.mul_neg, Int.mul_neg]
      omega
    · rw [ab_neg x, ab_nn y, Int.mul_neg]
      rcases Int.lt_or_eq_of_le y with z | z
      · omega
      · subst z
        simp
        omega
  · rcases Int.lt_or_le b 0 with y | y
    · rw [ab_nn x, ab_neg y, Int.mul_neg]
      rcases Int.lt_or_eq_of_le x with z | z
      · omega
      · subst z
        simp
        omega
    · rw [ab_nn x, ab_nn y]
      rcases Int.lt_or_eq_of_le x with z | z
      · rcases Int.lt_or_eq_of_le y with u | u
        · have := ha3 z
          have := hd3 u
          have : a * a ≠ d * b * b := fun q => by
            have := (norm_ne hd q).1
            omega
          omega
        · subst u
          have := ha3 z
          simp
          omega
      · subst z
        rcases Int.lt_or_eq_of_le y with u | u
        · have := hd3 u
          simp
          omega
        · subst u
          simp
theorem vl_neg (a b d : Int) : vl (-a) (-b) d = -vl a b d := by
  have h : ∀ i : Int, ab (-i) = ab i := fun i => by
    unfold ab
    split <;> split <;> omega
  unfold vl
  rw [h, h]
  grind
theorem vl_zero {d a b : Int} (hd : IsRoot d) (h : vl a b d = 0) : a = 0 ∧ b = 0 := by
  have d0 : 0 < d := by have := hd.1; omega
  have n1 : ¬ Po d a b := fun z => by
    have := (po_iff hd).mp z
    omega
  have n2 : ¬ Po d (-a) (-b) := fun z => by
    have := (po_iff hd).mp z
    rw [vl_neg] at this
    omega
  rcases Int.lt_trichotomy (a * a) (d * b * b) with z | z | z
  · rcases Int.lt_trichotomy b 0 with y | y | y
    · exact absurd (.inr ⟨by grind, by omega⟩) n2
    · rw [y] at z
      have := sq_nn a
      omega
    · exact absurd (.inr ⟨z, y⟩) n1
  · exact norm_ne hd z
  · rcases Int.lt_trichotomy a 0 with y | y | y
    · exact absurd (.inl ⟨by grind, by omega⟩) n2
    · rw [y] at z
      have := dsq_nn (b := b) d0
      omega
    · exact absurd (.inl ⟨z, y⟩) n1
theorem tri {d : Int} (hd : IsRoot d) (a b : Int) : Po d a b ∨ (a = 0 ∧ b = 0) ∨ Po d (-a) (-b) := by
  rcases Int.lt_trichotomy (vl a b d) 0 with z | z | z
  · exact .inr (.inr ((po_iff hd).mpr (by rw [vl_neg]; omega)))
  · exact .inr (.inl (vl_zero hd z))
  · exact .inl ((po_iff hd).mpr z)
def sg (d a b : Int) : Int := sgnI (vl a b d)
theorem sg_pos {d a b : Int} (hd : IsRoot d) (h : Po d a b) : sg d a b = 1 := sgnI_pos ((po_iff hd).mp h)
theorem sg_neg {d a b : Int} (hd : IsRoot d) (h : Po d (-a) (-b)) : sg d a b = -1 := by
  have := (po_iff hd).mp h
  rw [vl_neg] at this
  exact sgnI_neg (by omega)
theorem sg_zero (d : Int) : sg d 0 0 = 0 := by
  unfold sg vl ab
  simp
  exact sgnI_zero
theorem sg_opp {d : Int} (hd : IsRoot d) (a b : Int) : sg d (-a) (-b) = -sg d a b := by
  rcases tri hd a b with h | ⟨rfl, rfl⟩ | h
  · rw [sg_pos hd h, sg_neg hd (by rw [Int.neg_neg, Int.neg_neg]; exact h)]
  · rw [show (-0 : Int) = 0 from rfl, sg_zero]
    rfl
  · rw [sg_neg hd h, sg_pos hd h]
    rfl
theorem sg_mul {d : Int} (hd : IsRoot d) (a b c e : Int) : sg d (a * c + d * b * e) (a * e + b * c) = sg d a b * sg d c e := by
  have d0 : 0 < d := by have := hd.1; omega
  have pos : ∀ {a b c e : Int}, Po d a b → sg d (a * c + d * b * e) (a * e + b * c) = sg d c e := by
    intro a b c e h
    rcases tri hd c e with h' | ⟨rfl, rfl⟩ | h'
    · rw [sg_pos hd h', sg_pos hd (h.mul d0 h')]
    · simp
    · rw [sg_neg hd h']
      refine sg_neg hd ?_
      have z := h.mul d0 h'
      rw [show a * -c + d * b * -e = -(a * c + d * b * e) by grind, show a * -e + b * -c = -(a * e + b * c) by grind] at z
      exact z
  rcases tri hd a b with h | ⟨rfl, rfl⟩ | h
  · rw [pos h, sg_pos hd h]
    omega
  · rw [sg_zero]
    simp
    exact sg_zero d
  · have z := pos (c := c) (e := e) h
    rw [show -a * c + d * -b * e = -(a * c + d * b * e) by grind, show -a * e + -b * c = -(a * e + b * c) by grind, sg_opp hd] at z
    rw [sg_neg hd h]
    omega
theorem sg_po {d : Int} (hd : IsRoot d) {a b : Int} (h : 0 < sg d a b) : Po d a b := by
  rcases tri hd a b with z | ⟨rfl, rfl⟩ | z
  · exact z
  · rw [sg_zero] at h
    omega
  · rw [sg_neg hd z] at h
    omega
theorem sg_nn {d : Int} (hd : IsRoot d) {a b : Int} (h : 0 ≤ sg d a b) : Po d a b ∨ (a = 0 ∧ b = 0) := by
  rcases tri hd a b with z | z | z
  · exact .inl z
  · exact .inr z
  · rw [sg_neg hd z] at h
    omega
theorem sg_trans {d : Int} (hd : IsRoot d) {a b c e : Int} (h1 : 0 ≤ sg d a b) (h2 : 0 ≤ sg d c e) : 0 ≤ sg d (a + c) (b + e) := by
  rcases sg_nn hd h1 with h1 | ⟨rfl, rfl⟩
  · rcases sg_nn hd h2 with h2 | ⟨rfl, rfl⟩
    · rw [sg_pos hd (h1.add hd h2)]
      decide
    · rw [Int.add_zero, Int.add_zero, sg_pos hd h1]
      decide
  · rw [Int.zero_add, Int.zero_add]
    exact h2
theorem sg_eq0 {d : Int} (hd : IsRoot d) {a b : Int} (h : sg d a b = 0) : a = 0 ∧ b = 0 := by
  rcases tri hd a b with z | z | z
  · rw [sg_pos hd z] at h
    omega
  · exact z
  · rw [sg_neg hd z] at h
    omega
theorem sg_bd (d a b : Int) : -1 ≤ sg d a b ∧ sg d a b ≤ 1 := by
  unfold sg sgnI
  constructor <;> split <;> split <;> omega
/-! ### sizes -/
/-! ### divisors, forms of two and of three marks, their factors -/
def gcd2 (a b : Int) : Int := ((Nat.gcd a.natAbs b.natAbs : Nat) : Int)
def gcdL (ns : List Int) : Int := ns.foldl gcd2 0
theorem gcd2_nn (a b : Int) : 0 ≤ gcd2 a b := Int.natCast_nonneg _
theorem gcd2_l (a b : Int) : gcd2 a b ∣ a := Int.dvd_natAbs.mp (Int.natCast_dvd_natCast.mpr (Nat.gcd_dvd_left _ _))
theorem gcd2_r (a b : Int) : gcd2 a b ∣ b := Int.dvd_natAbs.mp (Int.natCast_dvd_natCast.mpr (Nat.gcd_dvd_right _ _))
/-- the divisor as a sum of multiples -/
theorem nat_lin (m n : Nat) : ∃ x y : Int, ((Nat.gcd m n : Nat) : Int) = x * m + y * n := by
  induction m, n using Nat.gcd.induction with
  | H0 n => exact ⟨0, 1, by rw [Nat.gcd_zero_left]; omega⟩
  | H1 m n hm ih =>
    obtain ⟨x, y, h⟩ := ih
    rw [Nat.gcd_rec]
    refine ⟨y - x * ((n / m : Nat) : Int), x, ?_⟩
    have e : ((n % m : Nat) : Int) = n - m * ((n / m : Nat) : Int) := by
      have := Nat.mod_add_div n m
      have z : ((n % m + m * (n / m) : Nat) : Int) = (n : Int) := by rw [this]
      rw [Int.natCast_add, Int.natCast_mul] at z
      omega
    rw [h, e]
    grind
theorem abs_lin (a : Int) : ∃ e : Int, (a.natAbs : Int) = e * a := by
  rcases Int.le_total 0 a with h | h
  · exact ⟨1, by omega⟩
  · exact ⟨-1, by omega⟩
theorem gcd2_lin (a b : Int) : ∃ x y : Int, gcd2 a b = x * a + y * b := by
  obtain ⟨x, y, h⟩ := nat_lin a.natAbs b.natAbs
  obtain ⟨e, he⟩ := abs_lin a
  obtain ⟨f, hf⟩ := abs_lin b
  refine ⟨x * e, y * f, ?_⟩
  rw [gcd2, h, he, hf, Int.mul_assoc, Int.mul_assoc]
theorem fold_nn : ∀ (ns : List Int) (d : Int), 0 ≤ d → 0 ≤ ns.foldl gcd2 d
  | [], _, h => h
  | n :: ns, d, _ => fold_nn ns _ (gcd2_nn d n)
theorem gcdL_nn (ns : List Int) : 0 ≤ gcdL ns := fold_nn ns 0 (Int.le_refl _)
theorem fold_dvd : ∀ (ns : List Int) (d : Int), ns.foldl gcd2 d ∣ d ∧ ∀ n ∈ ns, ns.foldl gcd2 d ∣ n
  | [], d => ⟨Int.dvd_refl d, fun n h => by cases h⟩
  | m :: ns, d => by
    obtain ⟨h1, h2⟩ := fold_dvd ns (gcd2 d m)
    refine ⟨Int.dvd_trans h1 (gcd2_l d m), fun n hn => ?_⟩
    rcases List.mem_cons.mp hn with rfl | hn
    · exact Int.dvd_trans h1 (gcd2_r d n)
    · exact h2 n hn
theorem gcdL_dvd {ns : List Int} {n : Int} (h : n ∈ ns) : gcdL ns ∣ n := (fold_dvd ns 0).2 n h
theorem fold_great {e : Int} : ∀ (ns : List Int) (d : Int), e ∣ d → (∀ n ∈ ns, e ∣ n) → e ∣ ns.foldl gcd2 d
  | [], _, h, _ => h
  | m :: ns, d, h, k => by
    refine fold_great ns _ ?_ fun n hn => k n (List.mem_cons_of_mem _ hn)
    obtain ⟨x, y, z⟩ := gcd2_lin d m
    rw [z]
    exact Int.dvd_add (Int.dvd_mul_of_dvd_right h) (Int.dvd_mul_of_dvd_right (k m List.mem_cons_self))
theorem gcdL_great {ns : List Int} {e : Int} (h : ∀ n ∈ ns, e ∣ n) : e ∣ gcdL ns := fold_great ns 0 (Int.dvd_zero e) h
theorem gcdL_pos {ns : List Int} {n : Int} (h : n ∈ ns) (n0 : n ≠ 0) : 0 < gcdL ns := by
  rcases Int.lt_or_eq_of_le (gcdL_nn ns) with z | z
  · exact z
  · obtain ⟨k, e⟩ := gcdL_dvd h
    rw [← z, Int.zero_mul] at e
    exact absurd e n0
theorem gcdL_le {ns : List Int} {n : Int} (h : n ∈ ns) (n0 : n ≠ 0) : (gcdL ns).natAbs ≤ n.natAbs := Nat.le_of_dvd (Int.natAbs_pos.mpr n0) (Int.natAbs_dvd_natAbs.mpr (gcdL_dvd h))
/-- a pair that has no divisor but 1 -/
def Prim (a b : Int) : Prop := ∃ x y : Int, x * a + y * b = 1
theorem prim_of {a b : Int} (h : gcdL [a, b] = 1) : Prim a b := by
  obtain ⟨x, y, e⟩ := gcd2_lin (gcd2 0 a) b
  obtain ⟨z, t, f⟩ := gcd2_lin 0 a
  refine ⟨x * t, y, ?_⟩
  have h' : gcd2 (gcd2 0 a) b = 1 := h
  rw [h', f] at e
  grind
/-- what is parallel to such a pair is a multiple of it -/
theorem par {u0 u1 a b : Int} (p : Prim u0 u1) (h : a * u1 = b * u0) : ∃ e, a = e * u0 ∧ b = e * u1 := by
  obtain ⟨x, y, q⟩ := p
  refine ⟨x * a + y * b, ?_, ?_⟩ <;> grind
theorem prim_dvd {u0 u1 c g : Int} (p : Prim u0 u1) (h0 : g ∣ c * u0) (h1 : g ∣ c * u1) : g ∣ c := by
  obtain ⟨x, y, q⟩ := p
  have e : c = x * (c * u0) + y * (c * u1) := by grind
  rw [e]
  exact Int.dvd_add (Int.dvd_mul_of_dvd_right h0) (Int.dvd_mul_of_dvd_right h1)
theorem prim_sq {u0 u1 c g : Int} (p : Prim u0 u1) (h0 : g ∣ c * (u0 * u0)) (h1 : g ∣ c * (u1 * u1)) : g ∣ c := by
  obtain ⟨x, y, q⟩ := p
  have e : c = (x * x * x * u0 + 3 * x * x * y * u1) * (c * (u0 * u0)) + (3 * x * y * y * u0 + y * y * y * u1) * (c * (u1 * u1)) := by
    have : (x * u0 + y * u1) * (x * u0 + y * u1) * (x * u0 + y * u1) = 1 := by rw [q]; decide
    grind
  rw [e]
  exact Int.dvd_add (Int.dvd_mul_of_dvd_right h0) (Int.dvd_mul_of_dvd_right h1)
/-- the product of two such pairs, as a form of three marks, has no divisor but 1 -/
theorem gauss {u0 u1 v0 v1 c g : Int} (pu : Prim u0 u1) (pv : Prim v0 v1) (h0 : g ∣ c * (u0 * v0)) (h1 : g ∣ c * (u0 * v1 + u1 * v0)) (h2 : g ∣ c * (u1 * v1)) : g ∣ c := by
  have a : g ∣ c * ((u0 * v1) * (u0 * v1)) := by
    have e : c * ((u0 * v1) * (u0 * v1)) = u0 * v1 * (c * (u0 * v1 + u1 * v0)) - u1 * v1 * (c * (u0 * v0)) := by grind
    rw [e]
    exact Int.dvd_sub (Int.dvd_mul_of_dvd_right h1) (Int.dvd_mul_of_dvd_right h0)
  have b : g ∣ c * ((u1 * v0) * (u1 * v0)) := by
    have e : c * ((u1 * v0) * (u1 * v0)) = u1 * v0 * (c * (u0 * v1 + u1 * v0)) - u1 * v1 * (c * (u0 * v0)) := by grind
    rw [e]
    exact Int.dvd_sub (Int.dvd_mul_of_dvd_right h1) (Int.dvd_mul_of_dvd_right h0)
  refine prim_sq pu (prim_sq pv ?_ ?_) (prim_sq pv ?_ ?_)
  · have e : c * (u0 * u0) * (v0 * v0) = u0 * v0 * (c * (u0 * v0)) := by grind
    rw [e]; exact Int.dvd_mul_of_dvd_right h0
  · have e : c * (u0 * u0) * (v1 * v1) = c * ((u0 * v1) * (u0 * v1)) := by grind
    rw [e]; exact a
  · have e : c * (u1 * u1) * (v0 * v0) = c * ((u1 * v0) * (u1 * v0)) := by grind
    rw [e]; exact b
  · have e : c * (u1 * u1) * (v1 * v1) = u1 * v1 * (c * (u1 * v1)) := by grind
    rw [e]; exact Int.dvd_mul_of_dvd_right h2
/-- the product of two such pairs, as a form of four marks -/
theorem gauss4 {u0 u1 v0 v1 c g : Int} (pu : Prim u0 u1) (pv : Prim v0 v1) (h0 : g ∣ c * (u0 * v0)) (h1 : g ∣ c * (u0 * v1)) (h2 : g ∣ c * (u1 * v0)) (h3 : g ∣ c * (u1 * v1)) : g ∣ c := by
  refine prim_dvd pu (prim_dvd pv ?_ ?_) (prim_dvd pv ?_ ?_)
  · rw [Int.mul_assoc]; exact h0
  · rw [Int.mul_assoc]; exact h1
  · rw [Int.mul_assoc]; exact h2
  · rw [Int.mul_assoc]; exact h3
/-! ### the sides of a single sheet -/
theorem sg_scale {r : Int} (hd : IsRoot r) (k a b : Int) : sg r (k * a) (k * b) = sgnI k * sg r a b := by
  have h := sg_mul hd k 0 a b
  have e : sg r k 0 = sgnI k := by
    unfold sg vl
    rcases Int.lt_trichotomy k 0 with z | z | z
    · rw [ab_neg z, sgnI_neg z]
      exact sgnI_neg (by have := Int.mul_pos_of_neg_of_neg z z; grind)
    · subst z
      rw [sgnI_zero, Int.zero_mul, Int.mul_zero, Int.zero_mul]
      exact sgnI_zero
    · rw [ab_nn (Int.le_of_lt z), sgnI_pos z]
      exact sgnI_pos (by have := Int.mul_pos z z; grind)
  rw [← e, ← h]
  congr 1 <;> grind
theorem up1 {g q a a' : Int} (h : a = g * a') (sq : q * q = 1) : a = g * q * (q * a') := by grind
theorem up2 {g x y a b a' b' : Int} (h : g = x * a + y * b) (ha : a = g * a') (hb : b = g * b') : g * (x * a' + y * b') = g * 1 := by grind
theorem up3 {x y q a' b' : Int} (h : x * a' + y * b' = 1) (sq : q * q = 1) : x * q * (q * a') + y * q * (q * b') = 1 := by grind
/-- by what a pair is divided to stand upright -/
def updiv (r a b : Int) : Int := gcdL [a, b] * sg r a b
theorem upr_ok {r : Int} (hd : IsRoot r) {a b : Int} (n : ¬ (a = 0 ∧ b = 0)) : updiv r a b ≠ 0 ∧ ∃ u0 u1, a = updiv r a b * u0 ∧ b = updiv r a b * u1 ∧ Prim u0 u1 ∧ sg r u0 u1 = 1 := by
  have g0 : 0 < gcdL [a, b] := by
    by_cases h : a = 0
    · exact gcdL_pos (n := b) (by simp) fun z => n ⟨h, z⟩
    · exact gcdL_pos (n := a) (by simp) h
  obtain ⟨a', ha⟩ := gcdL_dvd (ns := [a, b]) (n := a) (by simp)
  obtain ⟨b', hb⟩ := gcdL_dvd (ns := [a, b]) (n := b) (by simp)
  have hs : sg r a b = 1 ∨ sg r a b = -1 := by
    have b1 := sg_bd r a b
    have : sg r a b ≠ 0 := fun z => n (sg_eq0 hd z)
    omega
  have sq : sg r a b * sg r a b = 1 := by rcases hs with e | e <;> rw [e] <;> decide
  obtain ⟨x, y, hp⟩ : Prim a' b' := by
    obtain ⟨x, y, e⟩ := gcd2_lin (gcd2 0 a) b
    obtain ⟨z, t, f⟩ := gcd2_lin 0 a
    have e' : gcdL [a, b] = x * gcd2 0 a + y * b := e
    have e2 : gcdL [a, b] = x * t * a + y * b := by rw [e', f]; grind
    exact ⟨x * t, y, Int.eq_of_mul_eq_mul_left (Int.ne_of_gt g0) (up2 e2 ha hb)⟩
  have up : updiv r a b = gcdL [a, b] * sg r a b := rfl
  refine ⟨?_, sg r a b * a', sg r a b * b', ?_, ?_, ⟨x * sg r a b, y * sg r a b, ?_⟩, ?_⟩
  · rw [up]
    exact Int.mul_ne_zero (Int.ne_of_gt g0) (by omega)
  · rw [up]; exact up1 ha sq
  · rw [up]; exact up1 hb sq
  · exact up3 hp sq
  · have e1 := sg_scale hd (gcdL [a, b]) a' b'
    rw [← ha, ← hb] at e1
    rw [sgnI_pos g0, Int.one_mul] at e1
    rw [sg_scale hd, ← e1]
    rcases hs with e | e <;> rw [e] <;> decide
abbrev P2 := Int × Int
abbrev P4 := Int × Int × Int × Int
def nz (p q : P2) : P2 := if p = (0, 0) then q else p
def plainF (t : P4) : Option (P2 × P2) := if t.1 * t.2.2.2 - t.2.1 * t.2.2.1 ≠ 0 then none else some (nz (t.1, t.2.2.1) (t.2.1, t.2.2.2), nz (t.1, t.2.1) (t.2.2.1, t.2.2.2))
/-- the factors of a form of three marks -/
def TurnF (a b c : Int) (o : Option (P2 × P2)) : Prop :=
  (o = none ∧ ∀ s : Int, s * s ≠ b * b - 4 * a * c) ∨ ∃ s : Int, s * s = b * b - 4 * a * c ∧ o = some (if a = 0 then ((0, 1), (b, c)) else ((2 * a, b + s), (2 * a, b - s)))
def FacOf (turn : Bool) (t : P4) (o : Option (P2 × P2)) : Prop := if turn = true then TurnF t.1 (t.2.1 + t.2.2.1) t.2.2.2 o else o = plainF t
def marksT (turn : Bool) (t : P4) : List Int := if turn = true then [t.1, t.2.1 + t.2.2.1, t.2.2.2] else [t.1, t.2.1, t.2.2.1, t.2.2.2]
def prod4 (x : Int × Int × Int × Int) : P4 := (x.1 * x.2.2.1, x.1 * x.2.2.2, x.2.1 * x.2.2.1, x.2.1 * x.2.2.2)
/-- the value of a table -/
def Pos4 (r : Int) (t : P4) : Prop := sg r (t.1 + r * t.2.2.2) (t.2.1 + t.2.2.1) = 1
/-- t is c times the sheet of the upright sides u, v -/
structure Sides (turn : Bool) (r : Int) (t : P4) (u v : P2) : Prop where
  pu : Prim u.1 u.2
  pv : Prim v.1 v.2
  su : sg r u.1 u.2 = 1
  sv : sg r v.1 v.2 = 1
  cp : 0 < gcdL (marksT turn t)
  eq : marksT turn t = (marksT turn (prod4 (u.1, u.2, v.1, v.2))).map (gcdL (marksT turn t) * ·)
theorem sg_one {r : Int} (hd : IsRoot r) {a b : Int} (h : sg r a b = 1) : ¬ (a = 0 ∧ b = 0) := fun ⟨e, f⟩ => by
  rw [e, f, sg_zero] at h
  cases h
/-- what c times such a sheet is: c is the divisor of the marks -/
theorem c_is {r : Int} (hd : IsRoot r) {turn : Bool} {t : P4} {u v : P2} {c : Int} (pos : Pos4 r t) (pu : Prim u.1 u.2) (pv : Prim v.1 v.2) (su : sg r u.1 u.2 = 1) (sv : sg r v.1 v.2 = 1)
    (eq : marksT turn t = (marksT turn (prod4 (u.1, u.2, v.1, v.2))).map (c * ·)) : Sides turn r t u v := by
  obtain ⟨u0, u1⟩ := u
  obtain ⟨v0, v1⟩ := v
  obtain ⟨a, b, d, e⟩ := t
  simp only at pu pv su sv
  have val : sg r (a + r * e) (b + d) = sgnI c := by
    have m := sg_mul hd u0 u1 v0 v1
    have k := sg_scale hd c (u0 * v0 + r * u1 * v1) (u0 * v1 + u1 * v0)
    rw [m, su, sv, Int.one_mul, Int.mul_one] at k
    rw [← k]
    cases turn with
    | true =>
      simp only [marksT, prod4, if_true, List.map_cons, List.map_nil, List.cons.injEq, and_true] at eq
      obtain ⟨h1, h2, h3⟩ := eq
      rw [h2, h1, h3]
      congr 1; grind
    | false =>
      simp only [marksT, prod4, Bool.false_eq_true, if_false, List.map_cons, List.map_nil, List.cons.injEq, and_true] at eq
      obtain ⟨h1, h2, h3, h4⟩ := eq
      rw [h2, h1, h3, h4]
      congr 1 <;> grind
  have c0 : 0 < c := by
    have p : sgnI c = 1 := val.symm.trans pos
    rcases Int.lt_trichotomy c 0 with z | z | z
    · rw [sgnI_neg z] at p; cases p
    · rw [z, sgnI_zero] at p; cases p
    · exact z
  have g1 : c ∣ gcdL (marksT turn (a, b, d, e)) := gcdL_great fun n hn => by
    rw [eq] at hn
    obtain ⟨m, _, rfl⟩ := List.mem_map.mp hn
    exact Int.dvd_mul_right c m
  have g2 : gcdL (marksT turn (a, b, d, e)) ∣ c := by
    have all : ∀ m ∈ marksT turn (prod4 (u0, u1, v0, v1)), gcdL (marksT turn (a, b, d, e)) ∣ c * m := fun m hm => gcdL_dvd (by rw [eq]; exact List.mem_map.mpr ⟨m, hm, rfl⟩)
    generalize gcdL (marksT turn (a, b, d, e)) = g at all ⊢
    cases turn with
    | true => exact gauss pu pv (all _ (by simp [marksT, prod4])) (all _ (by simp [marksT, prod4])) (all _ (by simp [marksT, prod4]))
    | false => exact gauss4 pu pv (all _ (by simp [marksT, prod4])) (all _ (by simp [marksT, prod4])) (all _ (by simp [marksT, prod4])) (all _ (by simp [marksT, prod4]))
  have ec : gcdL (marksT turn (a, b, d, e)) = c := Int.dvd_antisymm (gcdL_nn _) (Int.le_of_lt c0) g2 g1
  exact ⟨pu, pv, su, sv, by rw [ec]; exact c0, by rw [ec]; exact eq⟩
/-! ### the sides, found by the factors -/
def Upr (r : Int) (p u : P2) : Prop := Prim u.1 u.2 ∧ sg r u.1 u.2 = 1 ∧ ∃ d, d ≠ 0 ∧ p.1 = d * u.1 ∧ p.2 = d * u.2
theorem cancel {k x y : Int} (h : k ≠ 0) (e : k * x = k * y) : x = y := Int.eq_of_mul_eq_mul_left h e
theorem plain_cols {t0 t1 s0 s1 u0 u1 d : Int} (d0 : d ≠ 0) (h0 : t0 = d * u0) (h1 : t1 = d * u1) (det : t0 * s1 = s0 * t1) : s0 * u1 = s1 * u0 := by
  refine cancel d0 ?_
  subst h0 h1
  grind
theorem row_par {x e0 e1 v0 v1 d : Int} (x0 : x ≠ 0) (h0 : x * e0 = d * v0) (h1 : x * e1 = d * v1) : e0 * v1 = e1 * v0 := by
  refine cancel x0 ?_
  have a : x * e0 * v1 = d * v0 * v1 := by rw [h0]
  have b : x * e1 * v0 = d * v1 * v0 := by rw [h1]
  grind
theorem nz_cases (p q : P2) (h : ¬ (p = (0, 0) ∧ q = (0, 0))) : (nz p q = p ∨ nz p q = q) ∧ ¬ nz p q = (0, 0) := by
  unfold nz
  by_cases e : p = (0, 0)
  · rw [if_pos e]
    exact ⟨.inr rfl, fun z => h ⟨e, z⟩⟩
  · rw [if_neg e]
    exact ⟨.inl rfl, e⟩
theorem pos_not0 {r : Int} (hd : IsRoot r) {a b c d : Int} (pos : Pos4 r (a, b, c, d)) : ¬ (a = 0 ∧ b = 0 ∧ c = 0 ∧ d = 0) := fun ⟨ea, eb, ec, ed⟩ => by
  refine sg_one hd pos ⟨?_, ?_⟩ <;> simp [ea, eb, ec, ed]
theorem plain_sides {r : Int} (hd : IsRoot r) {t : P4} {p q u v : P2} (pos : Pos4 r t) (h : plainF t = some (p, q)) (up : Upr r p u) (uq : Upr r q v) : Sides false r t u v := by
  obtain ⟨a, b, c, d⟩ := t
  obtain ⟨u0, u1⟩ := u
  obtain ⟨v0, v1⟩ := v
  obtain ⟨pu, su, k, k0, p1, p2⟩ := up
  obtain ⟨pv, sv, l, l0, q1, q2⟩ := uq
  unfold plainF at h
  simp only at h pu pv su sv p1 p2 q1 q2
  by_cases det : a * d - b * c = 0
  · rw [if_neg (fun z => z det), Option.some.injEq, Prod.mk.injEq] at h
    obtain ⟨hp, hq⟩ := h
    have n0 := pos_not0 hd pos
    obtain ⟨np, _⟩ := nz_cases (a, c) (b, d) fun z => n0 ⟨congrArg Prod.fst z.1, congrArg Prod.fst z.2, congrArg Prod.snd z.1, congrArg Prod.snd z.2⟩
    obtain ⟨nq, _⟩ := nz_cases (a, b) (c, d) fun z => n0 ⟨congrArg Prod.fst z.1, congrArg Prod.snd z.1, congrArg Prod.fst z.2, congrArg Prod.snd z.2⟩
    rw [hp] at np
    rw [hq] at nq
    -- both columns are multiples of u
    have cols : a * u1 = c * u0 ∧ b * u1 = d * u0 := by
      rcases np with e | e
      · have e1 := congrArg Prod.fst e
        have e2 := congrArg Prod.snd e
        simp only at e1 e2
        rw [p1] at e1
        rw [p2] at e2
        exact ⟨by rw [← e1, ← e2]; grind, plain_cols k0 e1.symm e2.symm (by omega)⟩
      · have e1 := congrArg Prod.fst e
        have e2 := congrArg Prod.snd e
        simp only at e1 e2
        rw [p1] at e1
        rw [p2] at e2
        exact ⟨plain_cols k0 e1.symm e2.symm (by omega), by rw [← e1, ← e2]; grind⟩
    obtain ⟨e0, ha, hc⟩ := par pu cols.1
    obtain ⟨e1, hb, hdd⟩ := par pu cols.2
    have rows : e0 * v1 = e1 * v0 := by
      have nu : ∀ x : Int, x * e0 = l * v0 → x * e1 = l * v1 → e0 * v1 = e1 * v0 := fun x x1 x2 => by
        by_cases x0 : x = 0
        · subst x0
          rw [Int.zero_mul] at x1 x2
          have z1 := (Int.mul_eq_zero.mp x1.symm).resolve_left l0
          have z2 := (Int.mul_eq_zero.mp x2.symm).resolve_left l0
          rw [z1, z2, Int.mul_zero, Int.mul_zero]
        · exact row_par x0 x1 x2
      rcases nq with e | e
      · have f1 := congrArg Prod.fst e
        have f2 := congrArg Prod.snd e
        simp only at f1 f2
        exact nu u0 (by rw [← q1, f1, ha]; exact Int.mul_comm _ _) (by rw [← q2, f2, hb]; exact Int.mul_comm _ _)
      · have f1 := congrArg Prod.fst e
        have f2 := congrArg Prod.snd e
        simp only at f1 f2
        exact nu u1 (by rw [← q1, f1, hc]; exact Int.mul_comm _ _) (by rw [← q2, f2, hdd]; exact Int.mul_comm _ _)
    obtain ⟨m, h0, h1⟩ := par pv rows
    refine c_is hd (c := m) pos pu pv su sv ?_
    simp only [marksT, prod4, Bool.false_eq_true, if_false, List.map_cons, List.map_nil, List.cons.injEq, and_true]
    subst h0 h1
    exact ⟨by rw [ha]; grind, by rw [hb]; grind, by rw [hc]; grind, by rw [hdd]; grind⟩
  · rw [if_pos det] at h
    cases h
theorem turn_sides {r : Int} (hd : IsRoot r) {t : P4} {p q u v : P2} (pos : Pos4 r t) (h : TurnF t.1 (t.2.1 + t.2.2.1) t.2.2.2 (some (p, q))) (up : Upr r p u) (uq : Upr r q v) : Sides true r t u v := by
  obtain ⟨a, b1, b2, c⟩ := t
  obtain ⟨u0, u1⟩ := u
  obtain ⟨v0, v1⟩ := v
  obtain ⟨p0, p1⟩ := p
  obtain ⟨q0, q1⟩ := q
  obtain ⟨pu, su, k, k0, hp0, hp1⟩ := up
  obtain ⟨pv, sv, l, l0, hq0, hq1⟩ := uq
  simp only at h pu pv su sv hp0 hp1 hq0 hq1
  generalize hB : b1 + b2 = b at h
  have goal : ∀ m : Int, a = m * (u0 * v0) → b = m * (u0 * v1 + u1 * v0) → c = m * (u1 * v1) → Sides true r (a, b1, b2, c) (u0, u1) (v0, v1) := fun m h1 h2 h3 => by
    refine c_is hd (c := m) pos pu pv su sv ?_
    simp only [marksT, prod4, if_true, List.map_cons, List.map_nil, List.cons.injEq, and_true]
    exact ⟨h1, hB.trans h2, h3⟩
  rcases h with ⟨e, _⟩ | ⟨s, sq, e⟩
  · cases e
  · rw [Option.some.injEq] at e
    by_cases a0 : a = 0
    · rw [if_pos a0, Prod.mk.injEq, Prod.mk.injEq, Prod.mk.injEq] at e
      obtain ⟨⟨e1, e2⟩, e3, e4⟩ := e
      rw [e1] at hp0
      rw [e2] at hp1
      rw [e3] at hq0
      rw [e4] at hq1
      refine goal (k * l) ?_ ?_ ?_ <;> grind
    · rw [if_neg a0, Prod.mk.injEq, Prod.mk.injEq, Prod.mk.injEq] at e
      obtain ⟨⟨e1, e2⟩, e3, e4⟩ := e
      rw [e1] at hp0
      rw [e2] at hp1
      rw [e3] at hq0
      rw [e4] at hq1
      have f0 : k * l * (u0 * v0) = 4 * a * a := by
        have : (k * u0) * (l * v0) = 2 * a * (2 * a) := by rw [← hp0, ← hq0]
        grind
      have f1 : k * l * (u0 * v1 + u1 * v0) = 4 * a * b := by
        have : (k * u0) * (l * v1) + (k * u1) * (l * v0) = 2 * a * (b - s) + (b + s) * (2 * a) := by rw [← hp0, ← hq0, ← hp1, ← hq1]
        grind
      have f2 : k * l * (u1 * v1) = 4 * a * c := by
        have : (k * u1) * (l * v1) = (b + s) * (b - s) := by rw [← hp1, ← hq1]
        grind
      have dv : 4 * a ∣ k * l := gauss pu pv ⟨a, by rw [f0]⟩ ⟨b, by rw [f1]⟩ ⟨c, by rw [f2]⟩
      obtain ⟨m, hm⟩ := dv
      have n0 : 4 * a ≠ 0 := by omega
      refine goal m (cancel n0 ?_) (cancel n0 ?_) (cancel n0 ?_)
      · rw [← f0, hm, Int.mul_assoc]
      · rw [← f1, hm, Int.mul_assoc]
      · rw [← f2, hm, Int.mul_assoc]
/-! ### all sheets of such a form -/
/-- w and o as sides give the marks: o is told by w where w is parallel to u -/
theorem other_is {u0 u1 v0 v1 c e w0 w1 o0 o1 : Int} (pu : Prim u0 u1) (pv : Prim v0 v1) (hw0 : w0 = e * u0) (hw1 : w1 = e * u1) (e0 : e ≠ 0)
    (h0 : w0 * o0 = c * (u0 * v0)) (h1 : w0 * o1 + w1 * o0 = c * (u0 * v1 + u1 * v0)) (h2 : w1 * o1 = c * (u1 * v1)) : ∃ f, e * f = c ∧ o0 = f * v0 ∧ o1 = f * v1 := by
  have z : e * o0 = c * v0 ∧ e * o1 = c * v1 := by
    by_cases n : u0 = 0
    · have u10 : u1 ≠ 0 := fun q => by
        obtain ⟨x, y, p⟩ := pu
        rw [n, q, Int.mul_zero, Int.mul_zero] at p
        cases p
      refine ⟨cancel u10 ?_, cancel u10 ?_⟩
      · have : w0 = 0 := by rw [hw0, n, Int.mul_zero]
        rw [this, n] at h1
        grind
      · rw [hw1] at h2
        grind
    · have a : e * o0 = c * v0 := cancel n (by rw [hw0] at h0; grind)
      refine ⟨a, cancel n ?_⟩
      have : u1 * (e * o0) = u1 * (c * v0) := by rw [a]
      rw [hw0, hw1] at h1
      grind
  obtain ⟨x, y, q⟩ := pv
  refine ⟨x * o0 + y * o1, ?_, ?_, ?_⟩
  · have : c * (x * v0 + y * v1) = c * 1 := by rw [q]
    grind
  · refine cancel e0 ?_
    have : e * (x * o0 + y * o1) = c := by
      have : c * (x * v0 + y * v1) = c * 1 := by rw [q]
      grind
    grind
  · refine cancel e0 ?_
    have : e * (x * o0 + y * o1) = c := by
      have : c * (x * v0 + y * v1) = c * 1 := by rw [q]
      grind
    grind
theorem prod_sum {w0 w1 u0 u1 v0 v1 c o0 o1 : Int} (c0 : c ≠ 0) (h0 : w0 * o0 = c * (u0 * v0)) (h1 : w0 * o1 + w1 * o0 = c * (u0 * v1 + u1 * v0)) (h2 : w1 * o1 = c * (u1 * v1)) : (w0 * u1 = w1 * u0) ∨ (w0 * v1 = w1 * v0) := by
  have z : c * ((w0 * u1 - w1 * u0) * (w0 * v1 - w1 * v0)) = c * 0 := by
    have e : c * ((w0 * u1 - w1 * u0) * (w0 * v1 - w1 * v0)) = w0 * w0 * (c * (u1 * v1)) - w0 * w1 * (c * (u0 * v1 + u1 * v0)) + w1 * w1 * (c * (u0 * v0)) := by grind
    rw [e, ← h0, ← h1, ← h2]
    grind
  rcases Int.mul_eq_zero.mp (cancel c0 z) with q | q
  · exact .inl (by omega)
  · exact .inr (by omega)
/-- the sheets that the sides give, by a divisor e and its other f -/
def Made (turn : Bool) (u v : P2) (c : Int) (x : Int × Int × Int × Int) : Prop :=
  ∃ e f, 0 < e ∧ 0 < f ∧ e * f = c ∧ (x = (e * u.1, e * u.2, f * v.1, f * v.2) ∨ (turn = true ∧ x = (e * v.1, e * v.2, f * u.1, f * u.2)))
theorem pos_of_sg {r : Int} (hd : IsRoot r) {e a b : Int} (h1 : sg r a b = 1) (h : sg r (e * a) (e * b) = 1) : 0 < e := by
  rw [sg_scale hd, h1, Int.mul_one] at h
  rcases Int.lt_trichotomy e 0 with z | z | z
  · rw [sgnI_neg z] at h; cases h
  · rw [z, sgnI_zero] at h; cases h
  · exact z
theorem sheets_are {r : Int} (hd : IsRoot r) {turn : Bool} {t : P4} {u v : P2} (S : Sides turn r t u v) {x : Int × Int × Int × Int} (sw : sg r x.1 x.2.1 = 1) (so : sg r x.2.2.1 x.2.2.2 = 1) :
    marksT turn (prod4 x) = marksT turn t ↔ Made turn u v (gcdL (marksT turn t)) x := by
  obtain ⟨w0, w1, o0, o1⟩ := x
  obtain ⟨u0, u1⟩ := u
  obtain ⟨v0, v1⟩ := v
  obtain ⟨pu, pv, su, sv, cp, eq⟩ := S
  simp only at sw so pu pv su sv
  generalize gcdL (marksT turn t) = c at cp eq ⊢
  rw [eq]
  have c0 : c ≠ 0 := Int.ne_of_gt cp
  have fin : ∀ {a0 a1 b0 b1 : Int}, Prim a0 a1 → Prim b0 b1 → sg r a0 a1 = 1 → sg r b0 b1 = 1 → w0 * a1 = w1 * a0 → w0 * o0 = c * (a0 * b0) → w0 * o1 + w1 * o0 = c * (a0 * b1 + a1 * b0) → w1 * o1 = c * (a1 * b1) →
      ∃ e f, 0 < e ∧ 0 < f ∧ e * f = c ∧ (w0, w1, o0, o1) = (e * a0, e * a1, f * b0, f * b1) := fun pa pb sa sb pr h0 h1 h2 => by
    obtain ⟨e, hw0, hw1⟩ := par pa pr
    have e1 : 0 < e := pos_of_sg hd sa (by rw [← hw0, ← hw1]; exact sw)
    obtain ⟨f, ef, ho0, ho1⟩ := other_is pa pb hw0 hw1 (Int.ne_of_gt e1) h0 h1 h2
    have f1 : 0 < f := pos_of_sg hd sb (by rw [← ho0, ← ho1]; exact so)
    exact ⟨e, f, e1, f1, ef, by rw [hw0, hw1, ho0, ho1]⟩
  constructor
  · intro h
    cases turn with
    | true =>
      simp only [marksT, prod4, if_true, List.map_cons, List.map_nil, List.cons.injEq, and_true] at h
      obtain ⟨h0, h1, h2⟩ := h
      rcases prod_sum c0 h0 h1 h2 with pr | pr
      · obtain ⟨e, f, e1, f1, ef, q⟩ := fin pu pv su sv pr h0 h1 h2
        exact ⟨e, f, e1, f1, ef, .inl q⟩
      · obtain ⟨e, f, e1, f1, ef, q⟩ := fin pv pu sv su pr (by rw [h0, Int.mul_comm u0]) (by rw [h1]; grind) (by rw [h2, Int.mul_comm u1])
        exact ⟨e, f, e1, f1, ef, .inr ⟨rfl, q⟩⟩
    | false =>
      simp only [marksT, prod4, Bool.false_eq_true, if_false, List.map_cons, List.map_nil, List.cons.injEq, and_true] at h
      obtain ⟨h0, h1, h2, h3⟩ := h
      have pr : w0 * u1 = w1 * u0 := by
        by_cases o00 : o0 = 0
        · have o10 : o1 ≠ 0 := fun z => sg_one hd so ⟨o00, z⟩
          refine cancel o10 ?_
          have a : o1 * w0 = c * (u0 * v1) := by rw [← h1]; exact Int.mul_comm _ _
          have b : o1 * w1 = c * (u1 * v1) := by rw [← h3]; exact Int.mul_comm _ _
          grind
        · refine cancel o00 ?_
          have a : o0 * w0 = c * (u0 * v0) := by rw [← h0]; exact Int.mul_comm _ _
          have b : o0 * w1 = c * (u1 * v0) := by rw [← h2]; exact Int.mul_comm _ _
          grind
      obtain ⟨e, f, e1, f1, ef, q⟩ := fin pu pv su sv pr h0 (by rw [h1, h2]; grind) h3
      exact ⟨e, f, e1, f1, ef, .inl q⟩
  · rintro ⟨e, f, e1, f1, ef, q⟩
    rcases q with q | ⟨ht, q⟩
    · simp only [Prod.mk.injEq] at q
      obtain ⟨rfl, rfl, rfl, rfl⟩ := q
      subst ef
      cases turn with
      | true =>
        simp only [marksT, prod4, if_true, List.map_cons, List.map_nil, List.cons.injEq, and_true]
        exact ⟨by grind, by grind, by grind⟩
      | false =>
        simp only [marksT, prod4, Bool.false_eq_true, if_false, List.map_cons, List.map_nil, List.cons.injEq, and_true]
        exact ⟨by grind, by grind, by grind, by grind⟩
    · simp only [Prod.mk.injEq] at q
      obtain ⟨rfl, rfl, rfl, rfl⟩ := q
      subst ef ht
      simp only [marksT, prod4, if_true, List.map_cons, List.map_nil, List.cons.injEq, and_true]
      exact ⟨by grind, by grind, by grind⟩
/-- where there are no factors there is no sheet -/
theorem no_sheets {turn : Bool} {t : P4} (h : FacOf turn t none) (x : Int × Int × Int × Int) : marksT turn (prod4 x) ≠ marksT turn t := by
  intro e
  obtain ⟨w0, w1, o0, o1⟩ := x
  obtain ⟨a, b, c, d⟩ := t
  cases turn with
  | true =>
    simp only [marksT, prod4, if_true, List.cons.injEq, and_true] at e
    obtain ⟨h0, h1, h2⟩ := e
    simp only [FacOf, if_true] at h
    rcases h with ⟨_, h⟩ | ⟨s, _, h⟩
    · refine h (w0 * o1 - w1 * o0) ?_
      rw [← h0, ← h1, ← h2]
      grind
    · cases h
  | false =>
    simp only [marksT, prod4, Bool.false_eq_true, if_false, List.cons.injEq, and_true] at e
    obtain ⟨h0, h1, h2, h3⟩ := e
    simp only [FacOf, Bool.false_eq_true, if_false, plainF] at h
    by_cases z : a * d - b * c ≠ 0
    · refine z ?_
      rw [← h0, ← h1, ← h2, ← h3]
      grind
    · rw [if_neg z] at h
      cases h
/-! ### sheets as members of a set: what is asked of them beside hash and == -/
section
variable {P : Program} {w : World} {A : Around} {E : Value → Shared → Prop} {s : Shared}
/-- a question that is answered b, with nothing changed -/
def Says (P : Program) (w : World) (s : Shared) (m : Sem Bool) (b : Bool) : Prop := ∀ (A : Around) (E : Value → Shared → Prop) (Q : Bool → Shared → Prop), Q b s → wpAny (model P w) A m Q E s
/-- a loop each of whose turns leaves its state -/
theorem each_stays {α β : Type} {f : α → β → Sem (ForInStep β)} {b : β} {Q : β → Shared → Prop} (q : Q b s) : ∀ {l : List α}, (∀ x ∈ l, ∀ R : ForInStep β → Shared → Prop, R (.yield b) s → wpAny (model P w) A (f x b) R E s) → wpAny (model P w) A (forIn l b f) Q E s := by
  intro l
  induction l with
  | nil => intro _; rw [List.forIn_nil]; exact wpAny_pure q
  | cons x l ih =>
    intro h
    rw [List.forIn_cons]
    exact wpAny_bind (h x List.mem_cons_self _ (ih fun y hy => h y (List.mem_cons_of_mem _ hy)))
/-- the tuple at a -/
def TupHas (h : Heap) (a : Addr) (vs : Array Value) : Prop := ∃ o n, h.get? a = some o ∧ o.cls = .type "tuple" ∧ o.data = .seq vs n
theorem hbv_tup {a : Addr} {vs : Array Value} {n : Nat} (t : TupHas s.heap a vs) (each : ∀ v ∈ vs.toList, Says P w s (hashByValue n v) true) : Says P w s (hashByValue (n + 1) (.ref a)) true := by
  intro A E Q q
  obtain ⟨o, m, ho, hc, hd⟩ := t
  unfold hashByValue
  refine wpAny_bind (wpAny_specialOf ⟨o, ho, hc⟩ F.slot_tuple_hash.lookup ?_)
  dsimp only
  refine wpAny_bind (wpAny_seqItems ho hd ?_)
  rw [Option.getD_some]
  refine wpAny_bind ?_
  rw [← Array.forIn_toList]
  exact each_stays (by exact wpAny_pure q) fun v hv R r => wpAny_bind (each v hv _ _ _ (by exact wpAny_pure r))
theorem oac_tup {a : Addr} {vs : Array Value} {n : Nat} (t : TupHas s.heap a vs) (each : ∀ v ∈ vs.toList, Says P w s (ofAClassStatement n v) false) : Says P w s (ofAClassStatement (n + 1) (.ref a)) false := by
  intro A E Q q
  obtain ⟨o, m, ho, hc, hd⟩ := t
  unfold ofAClassStatement
  refine wpAny_bind (wpAny_typeOf ⟨o, ho, hc⟩ ?_)
  dsimp only
  rw [if_pos (by decide)]
  refine wpAny_bind (wpAny_pure ?_)
  rw [if_neg (by decide)]
  refine wpAny_bind (wpAny_seqItems ho hd ?_)
  dsimp only
  refine wpAny_bind ?_
  rw [← Array.forIn_toList]
  exact each_stays (by exact wpAny_pure q) fun v hv R r => wpAny_bind (each v hv _ _ _ (by exact wpAny_pure r))
/-- a number as a key has no part in these questions -/
theorem hbv_num {i : Int} {v : Value} {n : Nat} (x : NestedIs s.heap (.num i) v) : Says P w s (hashByValue n v) true := by
  intro A E Q q
  cases x <;> cases n <;> exact wpAny_pure q
theorem oac_num {i : Int} {v : Value} {n : Nat} (x : NestedIs s.heap (.num i) v) : Says P w s (ofAClassStatement n v) false := by
  intro A E Q q
  cases x <;> cases n <;> exact wpAny_pure q
/-- a tuple of two keys, taken apart -/
theorem two_keys {h : Heap} {k1 k2 : NestedKey} {v : Value} (x : NestedIs h (.tup [k1, k2]) v) : ∃ a vs u1 u2, v = .ref a ∧ TupHas h a vs ∧ vs.toList = [u1, u2] ∧ NestedIs h k1 u1 ∧ NestedIs h k2 u2 := by
  cases x with
  | @tup a o vs n ks g1 g2 g3 g4 =>
    obtain ⟨l⟩ := vs
    cases g4 with
    | cons z1 z2 =>
      cases z2 with
      | cons z2 z3 =>
        cases z3
        exact ⟨a, _, _, _, rfl, ⟨o, n, g1, g2, g3⟩, rfl, z1, z2⟩
theorem hbv_two {k1 k2 : NestedKey} {v : Value} {n : Nat} (x : NestedIs s.heap (.tup [k1, k2]) v) (h1 : ∀ u, NestedIs s.heap k1 u → Says P w s (hashByValue n u) true) (h2 : ∀ u, NestedIs s.heap k2 u → Says P w s (hashByValue n u) true) : Says P w s (hashByValue (n + 1) v) true := by
  obtain ⟨a, vs, u1, u2, rfl, t, e, x1, x2⟩ := two_keys x
  refine hbv_tup t fun v hv => ?_
  rw [e] at hv
  rcases List.mem_cons.mp hv with rfl | hv
  · exact h1 _ x1
  · rw [List.mem_singleton.mp hv]
    exact h2 _ x2
theorem oac_two {k1 k2 : NestedKey} {v : Value} {n : Nat} (x : NestedIs s.heap (.tup [k1, k2]) v) (h1 : ∀ u, NestedIs s.heap k1 u → Says P w s (ofAClassStatement n u) false) (h2 : ∀ u, NestedIs s.heap k2 u → Says P w s (ofAClassStatement n u) false) : Says P w s (ofAClassStatement (n + 1) v) false := by
  obtain ⟨a, vs, u1, u2, rfl, t, e, x1, x2⟩ := two_keys x
  refine oac_tup t fun v hv => ?_
  rw [e] at hv
  rcases List.mem_cons.mp hv with rfl | hv
  · exact h1 _ x1
  · rw [List.mem_singleton.mp hv]
    exact h2 _ x2
/-- the sheet x stands at p -/
abbrev ShOn (P : Program) (w : World) (h : Heap) (x : Sh) (p : Addr) : Prop := (nestedKind P w).is h (shK x) p
theorem sh_hbv {x : Sh} {p : Addr} (h : ShOn P w s.heap x p) : Says P w s (hashByValue 8 (.ref p)) true :=
  hbv_two h.1 (fun _ y => hbv_two y (fun _ z => hbv_num z) fun _ z => hbv_num z) fun _ y => hbv_two y (fun _ z => hbv_num z) fun _ z => hbv_num z
theorem sh_oac {x : Sh} {p : Addr} (h : ShOn P w s.heap x p) : Says P w s (ofAClassStatement 8 (.ref p)) false :=
  oac_two h.1 (fun _ y => oac_two y (fun _ z => oac_num z) fun _ z => oac_num z) fun _ y => oac_two y (fun _ z => oac_num z) fun _ z => oac_num z
/-- the search among sheets shows the table to nobody -/
theorem sh_unseen {x : Sh} {p : Addr} (h : ShOn P w s.heap x p) {ys : List Value} (hy : ∀ v ∈ ys, ∃ y q, v = .ref q ∧ ShOn P w s.heap y q) : Says P w s (searchCouldBeSeen (.ref p) ys) false := by
  intro A E Q q
  unfold searchCouldBeSeen
  refine wpAny_bind (each_stays (by exact wpAny_pure q) fun v hv R r => ?_)
  obtain ⟨y, c, rfl, hc⟩ := hy v hv
  dsimp only
  by_cases e : p = c
  · rw [e, beq_self_eq_true, Bool.true_or, if_pos rfl]
    exact wpAny_pure r
  · rw [show (p == c) = false from beq_eq_false_iff_ne.mpr e]
    refine wp_if_neg (by simp [carriedByValue]) ?_
    refine wpAny_bind ((nestedKind P w).quiet h ?_)
    refine wp_if_neg (by decide) ?_
    refine wpAny_bind ((nestedKind P w).quiet hc ?_)
    refine wp_if_neg (by decide) ?_
    refine wpAny_bind (sh_oac h _ _ _ ?_)
    refine wp_if_neg (by decide) ?_
    refine wpAny_bind (sh_oac hc _ _ _ ?_)
    exact wp_if_neg (by decide) (by exact wpAny_pure r)
end
/-! ### a set of sheets: its table, and the search in it -/
section
variable {P : Program} {w : World} {A : Around} {E : Value → Shared → Prop} {s : Shared}
abbrev shHash (w : World) (x : Sh) : Int := (shK x).hash w
def entSh (w : World) (y : Sh × Addr) : Int × Value := (shHash w y.1, .ref y.2)
/-- the table t over the rows L -/
structure TabS (w : World) (t : SetTable) (L : List (Sh × Addr)) : Prop where
  tab : TabOk t (L.map fun y => shHash w y.1)
  pl : t.plain = true
  byt : w.params.followText "set-order" = true ∨ t.led = true
  thin : L.length * 5 < t.mask * 3
  small : L.length < 64
/-- the set at a: its rows in the table's order, no sheet twice -/
structure SetS (P : Program) (w : World) (h : Heap) (a : Addr) (L : List (Sh × Addr)) (es : Array (Int × Value)) (ep : Nat) (t : SetTable) : Prop where
  obj : ∃ o, h.get? a = some o ∧ o.ExactSet ∧ o.data = .set es ep t
  rows : es.toList = L.map (entSh w)
  tb : TabS w t L
  once : (L.map Prod.fst).Nodup
  mem : ∀ y ∈ L, ShOn P w h y.1 y.2
variable {a : Addr} {L : List (Sh × Addr)} {es : Array (Int × Value)} {ep : Nat} {t : SetTable}
theorem SetS.count {h : Heap} (S : SetS P w h a L es ep t) : es.size = L.length := by
  rw [← Array.length_toList, S.rows, List.length_map]
theorem SetS.places {h : Heap} (S : SetS P w h a L es ep t) : t.place.size = L.length := by
  rw [S.tb.tab.sz, List.length_map]
theorem tab_fits {n : Nat} (d : t.dummies = #[]) (p : t.place.size = n) (m : n ≤ t.mask) : t.fits n = true := by
  simp only [SetTable.fits, SetTable.fill, d, Array.size_empty, Nat.add_zero, p, beq_self_eq_true, Bool.true_and, decide_eq_true_eq]
  exact m
theorem SetS.sits {h : Heap} (S : SetS P w h a L es ep t) : t.fits es.size = true := by
  refine tab_fits S.tb.tab.dm (S.places.trans S.count.symm) ?_
  have := S.tb.thin
  rw [S.count]
  omega
theorem SetS.row {h : Heap} (S : SetS P w h a L es ep t) (i : Nat) : es[i]? = (L[i]?).map (entSh w) := by
  rw [← Array.getElem?_toList, S.rows, List.getElem?_map]
theorem SetS.hashOf {h : Heap} (S : SetS P w h a L es ep t) {i : Nat} {y : Sh × Addr} (hy : L[i]? = some y) : (es[i]?.map (·.1)).getD 0 = shHash w y.1 := by
  rw [S.row, hy, Option.map_some, Option.map_some, Option.getD_some, entSh]
theorem ris_one {l : List Nat} (r : Ris l) {i k x : Nat} (h1 : l[i]? = some x) (h2 : l[k]? = some x) : i = k := by
  rcases Nat.lt_trichotomy i k with c | c | c
  · exact absurd (ris_lt r h1 h2 c) (Nat.lt_irrefl _)
  · exact c
  · exact absurd (ris_lt r h2 h1 c) (Nat.lt_irrefl _)
/-- where the way of a hash starts -/
abbrev startOf (m : Nat) (h : Int) : SetTable.Probe := runAt m (SetTable.bits h % (m + 1)) (SetTable.bits h)
theorem nth_dummy (m : Nat) (p : SetTable.Probe) : ∀ c, (nth m p c).dummy = p.dummy
  | 0 => rfl
  | c + 1 => by
    rw [nth_succ, ← nth_dummy m p c]
    unfold adv
    split <;> rfl
/-- the search for x from the c-th step of its way on -/
theorem seek (S : SetS P w s.heap a L es ep t) {x : Sh} {p : Addr} (hx : ShOn P w s.heap x p) (hu : A.units + 8 < cLine) {K : Nat} (kb : K < 10 * SetTable.turns t.mask) (k0 : way t.mask (shHash w x) K ∉ t.place.toList)
    (k1 : ∀ c, c < K → way t.mask (shHash w x) c ∈ t.place.toList) {Q : SetFound → Shared → Prop} (yes : x ∈ L.map Prod.fst → Q (.there none) s) (no : x ∉ L.map Prod.fst → Q (.free (way t.mask (shHash w x) K) false) s) :
    ∀ (f c : Nat) (st : Option SetTable.Probe), st.getD (t.probeStart (shHash w x)) = nth t.mask (startOf t.mask (shHash w x)) c → c ≤ K → K < f + c →
      (∀ (i : Nat) (y : Sh × Addr), L[i]? = some y → y.1 = x → ∃ d : Nat, t.place.toList[i]? = some (way t.mask (shHash w x) d) ∧ c ≤ d ∧ d < K) → wpAny (model P w) A (setSearchFrom a (.ref p) (shHash w x) true f st) Q E s := by
  intro f
  induction f with
  | zero => intro c st _ h1 h2; omega
  | succ f ih =>
    intro c st hst h1 h2 on
    obtain ⟨o, ho, -, hd⟩ := S.obj
    rw [setSearchFrom_succ]
    refine wpAny_bind (wpAny_setState_of ho hd S.sits ?_)
    have odd : t.gaveWay = false := by simp only [SetTable.gaveWay, mask_odd S.tb.tab.mok]; rfl
    dsimp only
    rw [odd]
    refine wp_if_neg Bool.false_ne_true ?_
    rw [hst]
    have met := go_spec t S.tb.tab.ris S.tb.tab.dm (fun i => (es[i]?.map (·.1)).getD 0) (shHash w x) (10 * SetTable.turns t.mask) (K - c) (nth t.mask (startOf t.mask (shHash w x)) c) (nth_dummy _ _ _) (by omega)
    simp only [← nth_add] at met
    rw [show c + (K - c) = K by omega] at met
    rcases met (fun k hk => k1 _ (by omega)) k0 with ⟨k, i, m1, m2, m3, m4, m5⟩ | ⟨m4, m5⟩
    · rw [SetTable.probe, m5]
      have at' := S.row i
      have hi : i < L.length := by
        have q := (List.getElem?_eq_some_iff.mp m2).1
        rw [Array.length_toList, S.places] at q
        exact q
      obtain ⟨y, hy⟩ : ∃ y, L[i]? = some y := ⟨_, List.getElem?_eq_getElem hi⟩
      rw [hy] at at'
      have on' := S.mem y (List.mem_of_getElem? hy)
      have tail : wpAny (model P w) A (searchRest a (.ref p) (shHash w x) true f es t (nth t.mask (startOf t.mask (shHash w x)) (c + k)).j i (nth t.mask (startOf t.mask (shHash w x)) (c + (k + 1)))) Q E s := by
        unfold searchRest
        rw [at']
        dsimp only [Option.map_some, entSh]
        refine wpAny_bind (wpAny_holding ((nestedKind P w).eqBool hu on' hx ?_))
        refine wpAny_bind (wpAny_setState_of ho hd S.sits ?_)
        by_cases e : y.1 = x
        · rw [show decide (shK y.1 = shK x) = true from decide_eq_true (congrArg shK e)]
          exact wp_if_pos rfl (wpAny_pure (yes (List.mem_map.mpr ⟨y, List.mem_of_getElem? hy, e⟩)))
        · rw [show decide (shK y.1 = shK x) = false from decide_eq_false fun z => e (shK_inj z)]
          refine wp_if_neg (by decide) ?_
          rw [sameMem]
          dsimp only
          rw [if_pos rfl, slot_live S.tb.tab.ris m2]
          dsimp only
          rw [at']
          dsimp only [Option.map_some, entSh]
          refine wpAny_bind (wpAny_isSame_ref_self (wpAny_bind (wpAny_pure ?_)))
          rw [if_pos rfl]
          dsimp only
          refine wp_if_neg Bool.false_ne_true ?_
          refine ih (c + (k + 1)) _ rfl (by omega) (by omega) fun i' y' hy' e' => ?_
          obtain ⟨d, d1, d2, d3⟩ := on i' y' hy' e'
          refine ⟨d, d1, ?_, d3⟩
          rcases Nat.lt_or_ge d (c + (k + 1)) with lt | ge
          · exfalso
            obtain ⟨r, rfl⟩ : ∃ r, d = c + r := ⟨d - c, by omega⟩
            rcases Nat.lt_or_ge r k with lt' | ge'
            · refine m4 r i' lt' d1 ?_
              rw [S.hashOf hy', e']
            · obtain rfl : r = k := by omega
              obtain rfl := ris_one S.tb.tab.ris d1 m2
              rw [hy] at hy'
              cases hy'
              exact e e'
          · exact ge
      dsimp only
      cases led : t.led with
      | true => exact wp_if_neg (by decide) tail
      | false =>
        refine wp_if_pos rfl (wpAny_bind (sh_unseen hx (fun v hv => ?_) _ _ _ (wp_if_neg Bool.false_ne_true tail)))
        obtain ⟨r, hr, rfl⟩ := List.mem_map.mp hv
        have hr := (Array.mem_filter.mp (Array.mem_toList_iff.mp hr)).1
        rw [← Array.mem_toList_iff, S.rows] at hr
        obtain ⟨y, hy, rfl⟩ := List.mem_map.mp hr
        exact ⟨y.1, y.2, rfl, S.mem y hy⟩
    · rw [SetTable.probe, m5]
      dsimp only
      exact wpAny_pure (no fun hin => by
        obtain ⟨y, hy, e⟩ := List.mem_map.mp hin
        obtain ⟨i, hi⟩ := List.getElem?_of_mem hy
        obtain ⟨d, d1, d2, d3⟩ := on i y hi e
        obtain ⟨r, rfl⟩ : ∃ r, d = c + r := ⟨d - c, by omega⟩
        refine m4 r i (by omega) d1 ?_
        rw [S.hashOf hi, e])
end
/-! ### a set of sheets: one more -/
section
variable {P : Program} {w : World} {A : Around} {E : Value → Shared → Prop} {s : Shared} {a : Addr} {L : List (Sh × Addr)} {es : Array (Int × Value)} {ep : Nat} {t : SetTable}
/-- a sheet stays where only the set is changed -/
theorem ShOn.beside {h h' : Heap} {x : Sh} {p : Addr} {o : Obj} (z : ShOn P w h x p) (ho : h.get? a = some o) (hd : o.data = .set es ep t) (sb : Heap.SameBut a h h') : ShOn P w h' x p := by
  refine ⟨NestedIs.at (fun b ob vs n hb hs => ?_) _ _ z.1, z.2⟩
  by_cases e : b = a
  · rw [e, ho] at hb
    cases hb
    rw [hd] at hs
    cases hs
  · rw [sb.2 b e, hb]
theorem put_obj {h : Heap} {o : Obj} (ho : h.get? a = some o) (ex : o.ExactSet) (hd : o.data = .set es ep t) (es' : Array (Int × Value)) (t' : SetTable) :
    ∃ o', (h.update a (Obj.putSet es' t')).get? a = some o' ∧ o'.ExactSet ∧ o'.data = .set es' (ep + 1) t' := ⟨_, store_at ho hd, ex, rfl⟩
/-- the rows of L that are numbered in ns -/
def byNum {α : Type} (L : List α) (ns : List Nat) : List α := ns.filterMap fun i => L[i]?
theorem byNum_all {α : Type} : ∀ L : List α, byNum L (List.range L.length) = L
  | [] => rfl
  | x :: L => by
    have h := byNum_all L
    unfold byNum at h ⊢
    rw [List.length_cons, List.range_succ_eq_map, List.filterMap_cons, List.filterMap_map]
    exact congrArg (x :: ·) h
theorem byNum_map {α β : Type} (f : α → β) (d : β) (L : List α) : ∀ ns : List Nat, (∀ i ∈ ns, i < L.length) → (byNum L ns).map f = ns.map fun i => (L.map f).getD i d
  | [], _ => rfl
  | i :: ns, h => by
    have hi := h i List.mem_cons_self
    have ih := byNum_map f d L ns fun j hj => h j (List.mem_cons_of_mem _ hj)
    unfold byNum at ih ⊢
    rw [List.filterMap_cons, List.getElem?_eq_getElem hi, List.map_cons, List.map_cons, ih]
    simp [List.getD, hi]
theorem rows_byNum {order : Array Nat} (rows : es.toList = L.map (entSh w)) : (order.filterMap (es[·]?)).toList = (byNum L order.toList).map (entSh w) := by
  unfold byNum
  rw [Array.toList_filterMap, List.map_filterMap]
  refine congrArg (List.filterMap · order.toList) (funext fun i => ?_)
  rw [← Array.getElem?_toList, rows, List.getElem?_map]
theorem perm_byNum {order : Array Nat} (p : order.toList.Perm (List.range L.length)) : (byNum L order.toList).Perm L := by
  have q : (byNum L order.toList).Perm (byNum L (List.range L.length)) := p.filterMap _
  rwa [byNum_all] at q
/-- when a table must grow, and to what -/
theorem grows {m n : Nat} (mk : MaskOk m) (h1 : n * 5 < m * 3) (h2 : m * 3 ≤ (n + 1) * 5) (h3 : n + 1 < 64) : ∃ M, SetTable.sizeAbove (SetTable.grown (n + 1)) - 1 = M ∧ MaskOk M ∧ (n + 1) * 5 < M * 3 ∧ SetTable.sizeAbove (SetTable.grown (n + 1)) ≤ sizeLine := by
  have line : 128 ≤ sizeLine := by rw [sizeLine_eq]; decide
  rcases mk with rfl | rfl | rfl
  · obtain rfl : n = 4 := by omega
    exact ⟨31, by rw [size_20], .inr (.inl rfl), by decide, by rw [size_20]; omega⟩
  · obtain rfl : n = 18 := by omega
    exact ⟨127, by rw [size_76], .inr (.inr rfl), by decide, by rw [size_76]; omega⟩
  · omega
/-- the set laid anew -/
theorem relays {o : Obj} (ho : s.heap.get? a = some o) (ex : o.ExactSet) (hd : o.data = .set es ep t) (rows : es.toList = L.map (entSh w)) (T : TabOk t (L.map fun y => shHash w y.1)) (pl : t.plain = true) (byt : w.params.followText "set-order" = true ∨ t.led = true)
    (small : L.length < 64) (fit : L.length ≤ t.mask) {want M : Nat} (e : SetTable.sizeAbove want - 1 = M) (mk : MaskOk M) (thin : L.length * 5 < M * 3) (line : SetTable.sizeAbove want ≤ sizeLine) {Q : Unit → Shared → Prop}
    (q : ∀ h' L' es' ep' t', Heap.SameBut a s.heap h' → (∃ o', h'.get? a = some o' ∧ o'.ExactSet ∧ o'.data = .set es' ep' t') → es'.toList = L'.map (entSh w) → TabS w t' L' → L'.Perm L → Q () { s with heap := h' }) :
    wpAny (model P w) A (setRelay a want) Q E s := by
  have sz : es.size = L.length := by rw [← Array.length_toList, rows, List.length_map]
  have ps : t.place.size = L.length := by rw [T.sz, List.length_map]
  rw [setRelay_eq]
  refine wpAny_bind (wpAny_setState_of ho hd (tab_fits T.dm (ps.trans sz.symm) (by omega)) ?_)
  dsimp only
  refine wp_if_neg (by omega) ?_
  obtain ⟨t', order, r1, r2, r3, r4, r5, r6, -⟩ := relaid_ok t (hs := es.map (·.1)) e mk (by rw [Array.size_map]; omega)
  rw [Array.size_map, sz] at r2
  rw [r1]
  have rows' := rows_byNum (order := order) rows
  have pm := perm_byNum r2
  have sz' : (order.filterMap (es[·]?)).size = es.size := by rw [← Array.length_toList, rows', List.length_map, pm.length_eq, sz]
  dsimp only
  rw [sz', bne_self_eq_false]
  refine wpAny_bind (wp_if_neg Bool.false_ne_true (wpAny_pure ?_))
  dsimp only
  refine wpAny_storeSet_of ho hd (q _ (byNum L order.toList) _ _ t' (Heap.SameBut.update _ _ _) (put_obj ho ex hd _ _) rows' ⟨?_, r6.trans pl, byt.imp id fun z => r5.trans z, ?_, ?_⟩ pm) ?_
  · rw [byNum_map (fun y => shHash w y.1) 0 L _ fun i hi => List.mem_range.mp (r2.mem_iff.mp hi)]
    refine cast (congrArg (TabOk t') (List.map_congr_left fun i _ => ?_)) r3
    have z : (es.map (·.1)).toList = L.map fun y => shHash w y.1 := by rw [Array.toList_map, rows, List.map_map]; rfl
    rw [← z]
    simp [Array.getD_eq_getD_getElem?, List.getD_eq_getElem?_getD]
  · rw [pm.length_eq, r4]
    exact thin
  · rw [pm.length_eq]
    exact small
  · rw [sz', sz, sizeLine_eq]
    omega
end
section
variable {P : Program} {w : World} {A : Around} {E : Value → Shared → Prop} {s : Shared} {a : Addr} {L : List (Sh × Addr)} {es : Array (Int × Value)} {ep : Nat} {t : SetTable}
theorem start_zero (t : SetTable) (h : Int) : (none : Option SetTable.Probe).getD (t.probeStart h) = nth t.mask (startOf t.mask h) 0 := rfl
/-- L with y at place i -/
def laidIn {α : Type} (L : List α) (i : Nat) (y : α) : List α := L.take i ++ y :: L.drop i
theorem laidIn_perm {α : Type} (L : List α) (i : Nat) (y : α) : (laidIn L i y).Perm (y :: L) := by
  refine List.perm_middle.trans (List.Perm.of_eq ?_)
  rw [List.take_append_drop]
theorem laidIn_map {α β : Type} (f : α → β) (L : List α) (i : Nat) (y : α) : (laidIn L i y).map f = laidIn (L.map f) i (f y) := by
  simp only [laidIn, List.map_append, List.map_cons, List.map_take, List.map_drop]
/-- what the set is behind the adding of x -/
def More (x : Sh) (p : Addr) (L L' : List (Sh × Addr)) : Prop := (x ∈ L.map Prod.fst ∧ L' = L) ∨ (x ∉ L.map Prod.fst ∧ L'.Perm ((x, p) :: L))
theorem more_once {x : Sh} {p : Addr} {L' : List (Sh × Addr)} (once : (L.map Prod.fst).Nodup) (new : x ∉ L.map Prod.fst) (pm : L'.Perm ((x, p) :: L)) : (L'.map Prod.fst).Nodup :=
  (pm.map Prod.fst).nodup_iff.mpr (List.nodup_cons.mpr ⟨new, once⟩)
theorem adds (S : SetS P w s.heap a L es ep t) {x : Sh} {p : Addr} (hx : ShOn P w s.heap x p) (hu : A.units + 8 < cLine) (room : L.length + 1 < 64) {Q : Bool → Shared → Prop}
    (q : ∀ b h' L' es' ep' t', Heap.SameBut a s.heap h' → SetS P w h' a L' es' ep' t' → More x p L L' → Q b { s with heap := h' }) : wpAny (model P w) A (setAddHashed a (.ref p) (shHash w x)) Q E s := by
  obtain ⟨o, ho, ex, hd⟩ := S.obj
  have thin := S.tb.thin
  have ln := S.count
  unfold setAddHashed
  refine wpAny_holding ?_
  rw [show (100000 : Nat) = 99999 + 1 from rfl, setAddHashedIn_succ]
  refine wpAny_bind (wpAny_setState_of ho hd S.sits ?_)
  dsimp only
  refine wp_if_neg (by simp [byScan, Value.scannable]) ?_
  obtain ⟨K, kb, k0, k1⟩ := S.tb.tab.first (by rw [List.length_map]; omega) (shHash w x)
  unfold setSearch
  refine wpAny_bind (seek S hx hu kb k0 k1 (fun old => ?_) (fun new => ?_) 100000 0 none (start_zero _ _) (Nat.zero_le _) ?_ fun i y hy e => ?_)
  · exact wpAny_pure (q false s.heap L es ep t (.refl _ _) S (.inl ⟨old, rfl⟩))
  · dsimp only
    refine wpAny_bind (wpAny_setState_of ho hd S.sits ?_)
    obtain ⟨p1, p2, p3, p4, p5, p6, -, -, p9⟩ := S.tb.tab.put k0 k1
    dsimp only
    rw [p6, S.tb.pl]
    refine wpAny_bind (sh_hbv hx _ _ _ ?_)
    rw [if_pos rfl, p1]
    generalize SetTable.below t.place (way t.mask (shHash w x) K) = at' at p2 p3 ⊢
    generalize (t.put (way t.mask (shHash w x) K)).1 = t2 at p3 p4 p5 p6 p9 ⊢
    rw [List.length_map] at p2 p9
    have rows2 : (SetTable.insertAt es at' (shHash w x, .ref p)).toList = (laidIn L at' (x, p)).map (entSh w) := by
      rw [SetTable.toList_insertAt, S.rows, laidIn_map]
      rfl
    have tab2 : TabOk t2 ((laidIn L at' (x, p)).map fun y => shHash w y.1) := by
      rw [laidIn_map]
      exact p3
    have pm := laidIn_perm L at' (x, p)
    have ln2 : (laidIn L at' (x, p)).length = L.length + 1 := pm.length_eq
    have sb := Heap.SameBut.update s.heap a (Obj.putSet (SetTable.insertAt es at' (shHash w x, .ref p)) t2)
    have ob2 := put_obj ho ex hd (SetTable.insertAt es at' (shHash w x, .ref p)) t2
    have pl2 := p6.trans S.tb.pl
    have byt2 := S.tb.byt.imp id fun z => p5.trans z
    refine wpAny_bind (wpAny_storeSet_of ho hd ?_ (by rw [← Array.length_toList, rows2, List.length_map, ln2, sizeLine_eq]; omega))
    have mem2 : ∀ {h' : Heap} {L' : List (Sh × Addr)}, Heap.SameBut a s.heap h' → L'.Perm ((x, p) :: L) → ∀ y ∈ L', ShOn P w h' y.1 y.2 := fun sb pm y hy => by
      rcases List.mem_cons.mp (pm.mem_iff.mp hy) with rfl | hy
      · exact hx.beside ho hd sb
      · exact (S.mem y hy).beside ho hd sb
    have full : t2.tooFull = decide (t.mask * 3 ≤ (L.length + 1) * 5) := by rw [SetTable.tooFull, p9, p4]
    rw [full, Bool.not_false, Bool.true_and]
    by_cases c : t.mask * 3 ≤ (L.length + 1) * 5
    · rw [decide_eq_true c]
      refine wp_if_pos rfl (wpAny_bind ?_)
      obtain ⟨M, m1, m2, m3, m4⟩ := grows S.tb.tab.mok thin c room
      obtain ⟨o', ho', ex', hd'⟩ := ob2
      rw [ln]
      refine relays ho' ex' hd' rows2 tab2 pl2 byt2 (by omega) (by omega) m1 m2 (by omega) m4 fun h' L' es' ep' t' sb' ob' rows' tb' pm' => ?_
      have pm3 := pm'.trans pm
      exact wpAny_pure (q true h' L' es' ep' t' (sb.trans sb') ⟨ob', rows', tb', more_once S.once new pm3, mem2 (sb.trans sb') pm3⟩ (.inr ⟨new, pm3⟩))
    · rw [decide_eq_false c]
      refine wp_if_neg Bool.false_ne_true ?_
      exact wpAny_pure ((q true _ _ _ _ _ sb ⟨ob2, rows2, ⟨tab2, pl2, byt2, by omega, by omega⟩, more_once S.once new pm, mem2 sb pm⟩ (.inr ⟨new, pm⟩)))
  · have mk := S.tb.tab.mok
    have tn : SetTable.turns t.mask = t.mask + 15 := rfl
    have : t.mask ≤ 127 := by rcases mk with e | e | e <;> omega
    omega
  · obtain ⟨j, hj⟩ : ∃ j, t.place.toList[i]? = some j := ⟨_, List.getElem?_eq_getElem (by
      have := (List.getElem?_eq_some_iff.mp hy).1
      rw [Array.length_toList, S.places]
      exact this)⟩
    obtain ⟨d, d1, d2⟩ := S.tb.tab.before k0 (i := i) (by rw [List.getElem?_map, hy, Option.map_some, e]) hj
    exact ⟨d, by rw [hj, d2], Nat.zero_le _, d1⟩
end
/-! ### a set of sheets: the sheets of a walk, one after another -/
section
variable {P : Program} {w : World} {A : Around} {E : Value → Shared → Prop}
/-- the set behind i of the sheets -/
structure Taken (ks : List (Sh × Addr)) (i : Nat) (L : List (Sh × Addr)) : Prop where
  out : ∀ y ∈ L, y ∈ ks.take i
  all : ∀ y ∈ ks.take i, y.1 ∈ L.map Prod.fst
  len : L.length ≤ i
theorem Taken.next {ks L L' : List (Sh × Addr)} {i : Nat} {y : Sh × Addr} (T : Taken ks i L) (hy : ks[i]? = some y) (m : More y.1 y.2 L L') : Taken ks (i + 1) L' := by
  have e : ks.take (i + 1) = ks.take i ++ [y] := by rw [List.take_succ, hy]; rfl
  rcases m with ⟨old, rfl⟩ | ⟨-, pm⟩
  · refine ⟨fun z hz => ?_, fun z hz => ?_, Nat.le_succ_of_le T.len⟩
    · rw [e]; exact List.mem_append_left _ (T.out z hz)
    · rw [e] at hz
      rcases List.mem_append.mp hz with hz | hz
      · exact T.all z hz
      · rw [List.mem_singleton.mp hz]; exact old
  · refine ⟨fun z hz => ?_, fun z hz => ?_, ?_⟩
    · rw [e]
      rcases List.mem_cons.mp (pm.mem_iff.mp hz) with rfl | hz
      · exact List.mem_append_right _ (List.mem_singleton.mpr rfl)
      · exact List.mem_append_left _ (T.out z hz)
    · rw [e] at hz
      refine (pm.map Prod.fst).mem_iff.mpr ?_
      rcases List.mem_append.mp hz with hz | hz
      · exact List.mem_cons_of_mem _ (T.all z hz)
      · rw [List.mem_singleton.mp hz]; exact List.mem_cons_self
    · rw [pm.length_eq]
      exact Nat.succ_le_succ T.len
theorem ShOn.kept {h h' : Heap} {x : Sh} {p : Addr} (z : ShOn P w h x p) (k : ∀ b o, h.get? b = some o → h'.get? b = some o) : ShOn P w h' x p :=
  ⟨NestedIs.at (fun b o vs n hb _ => k b o hb) _ _ z.1, z.2⟩
theorem SetS.kept {h h' : Heap} {a : Addr} {L : List (Sh × Addr)} {es : Array (Int × Value)} {ep : Nat} {t : SetTable} (S : SetS P w h a L es ep t) (k : ∀ o, h.get? a = some o → h'.get? a = some o) (m : ∀ y ∈ L, ShOn P w h' y.1 y.2) : SetS P w h' a L es ep t := by
  obtain ⟨o, ho, r⟩ := S.obj
  exact ⟨⟨o, k o ho, r⟩, S.rows, S.tb, S.once, m⟩
variable {I S : Addr} {fp wr : List Addr} {G : Array GenState → Array GenState → Prop} {Pv : Nat → Value → Prop} {St : Nat → Shared → Prop} {R : Result → Shared → Prop} {ks : List (Sh × Addr)} {s0 : Shared}
theorem loopS (W : WalksS P w A.in1 I fp wr G ks.length Pv St) (hu : A.in1.units + 8 < cLine) (nS : S ∉ fp) (few : ks.length < 64) (val : ∀ i v, Pv i v → ∃ y, ks[i]? = some y ∧ v = .ref y.2) (new : ∀ b ∈ S :: wr, s0.heap.get? b = none) (mem : ∀ y ∈ ks, ShOn P w s0.heap y.1 y.2)
    (fin : ∀ s' L es ep t, Moved (S :: wr) G s0 s' → SetS P w s'.heap S L es ep t → Taken ks ks.length L → R (.ok (.ret .none)) s') :
    ∀ (j i : Nat) (s : Shared), i + j = ks.length → St i s → Moved (S :: wr) G s0 s → (∃ L es ep t, SetS P w s.heap S L es ep t ∧ Taken ks i L) → codeAny (model P w) A (.builtin "set.update.loop" ⟨[.ref S, .ref I], []⟩) R s := by
  have nw : S ∉ wr := fun z => nS (W.sub _ z)
  have keeps : ∀ {s : Shared}, Moved (S :: wr) G s0 s → ∀ b o, s0.heap.get? b = some o → s.heap.get? b = some o := fun mv b o hb => mv.heap b o (fun z => by rw [new b z] at hb; cases hb) hb
  have step : ∀ {s s' : Shared}, Moved (S :: wr) G s0 s → Moved wr G s s' → Moved (S :: wr) G s0 s' := fun m1 m2 => m1.trans W.gtrans (m2.mono fun b hb => List.mem_cons_of_mem _ hb)
  intro j
  induction j with
  | zero =>
    intro i s e st mv ⟨L, es, ep, t, z, T⟩
    obtain rfl : i = ks.length := by omega
    refine codeAny_builtin F.entry_set_update_loop ?_
    rw [Around.under_plainId F.plain_set_update_loop]
    unfold Builtin.«set.update.loop»
    refine wpAny_bind (W.done s _ _ st fun s' m2 => ?_)
    have mv' := step mv m2
    exact wpAny_pure (fin s' L es ep t mv' (z.kept (fun o ho => m2.heap S o nw ho) fun y hy => (mem y (List.mem_of_mem_take (T.out y hy))).kept (keeps mv')) T)
  | succ j ih =>
    intro i s e st mv ⟨L, es, ep, t, z, T⟩
    refine codeAny_builtin F.entry_set_update_loop ?_
    rw [Around.under_plainId F.plain_set_update_loop]
    unfold Builtin.«set.update.loop»
    refine wpAny_bind (W.item i s _ _ (by omega) st fun v s' pv st' m2 => ?_)
    obtain ⟨y, hy, rfl⟩ := val i v pv
    have mv' := step mv m2
    have hy' := (mem y (List.mem_of_getElem? hy)).kept (keeps mv')
    have z' : SetS P w s'.heap S L es ep t := z.kept (fun o ho => m2.heap S o nw ho) fun y hy => (mem y (List.mem_of_mem_take (T.out y hy))).kept (keeps mv')
    dsimp only
    refine wpAny_bind (wpAny_holding ?_)
    unfold setAdd
    refine wpAny_holding (wpAny_bind ((nestedKind P w).pyHash hu hy' ?_))
    have small : L.length + 1 < 64 := by
      have := T.len
      omega
    refine adds (s := { s' with toks := s'.toks + (nestedKind P w).draws (shK y.1) }) z' hy' hu small fun b h' L' es' ep' t' sb z2 mo => ?_
    refine wpAny_pure ⟨plainId_quiet F.plain_set_update_loop _, ih (i + 1) _ (by omega) (W.frame _ s' _ (s'.toks + _) st' (Nat.le_add_right _ _) fun b hb o ho => ?_) ?_ ⟨L', es', ep', t', z2, T.next hy mo⟩⟩
    · show h'.get? b = some o
      rw [sb.2 b fun q => nS (q ▸ hb)]
      exact ho
    · refine mv'.then_heap (Nat.le_add_right _ _) fun b o hb ho => ?_
      rw [sb.2 b fun q => hb (q ▸ List.mem_cons_self)]
      exact ho
end
/-! ### set(xs), xs a list of sheets -/
section
variable {P : Program} {w : World} {A : Around} {E : Value → Shared → Prop} {s : Shared}
/-- a type is called: what its __new__ gives, and what its __init__ does with it -/
theorem made_by {T nw ini : String} {args : List Value} {Q Q1 : Value → Shared → Prop} (ft : TypeCalled T nw ini) (ok : checkTypeCall T ⟨args, []⟩ = pure ()) (new : codeAny (model P w) A.in1 (.call (.builtin nw) ⟨.type T :: args, []⟩) (wants Q1 E) s)
    (next : ∀ obj s1, Q1 obj s1 → s1.TypeIs obj T ∧ wpAny (model P w) A.in1 (call (.builtin ini) (obj :: args)) (fun v s2 => v = .none ∧ Q obj s2) E s1) : wpAny (model P w) A (call (.type T) args) Q E s := by
  obtain ⟨c, tl, top⟩ := ft.mro
  refine wpAny_call (codeAny_of_tree ?_)
  show wpAny _ _ (callAny (.type T) _) _ _ _
  refine wpAny_pure ⟨Code.quiet_builtin _ (by decide +kernel), codeAny_builtin F.entry_type_call ?_⟩
  rw [Around.under_plain (weight_type_call_type T args []) rfl]
  unfold Builtin.«type.__call__»
  dsimp only
  refine wp_if_neg (by rw [ft.notType]; exact Bool.false_ne_true) ?_
  refine wp_if_neg (by rw [ft.canCreate]; exact Bool.false_ne_true) ?_
  refine wpAny_bind (wpAny_of_eq ok (wpAny_bind (wpAny_of_eq top (wp_if_neg Bool.false_ne_true (wpAny_bind (wpAny_of_eq ft.made ?_))))))
  refine wpAny_bind (wpAny_pure (wpAny_bind (wpAny_holding (wpAny_call ?_))))
  refine codeAny_mono new fun r s1 h => ?_
  match r, h with
  | .error e, h => exact h
  | .ok (.ret obj), h =>
    obtain ⟨ty, h⟩ := next obj s1 h
    refine wpAny_bind (wpAny_isInstance ty ft.sub ?_)
    refine wp_if_neg (by decide) (wpAny_bind (wpAny_holding (wpAny_callSpecial?_slot ty ft.init (wpAny_mono h (fun v s2 h2 => ?_) fun _ _ h => h))))
    obtain ⟨rfl, h2⟩ := h2
    exact wp_if_neg (by decide) (wpAny_pure h2)
end
section
variable {P : Program} {w : World} {A : Around} {E : Value → Shared → Prop} {s : Shared}
theorem init_set {l a : Addr} {items : Array Value} {t : SetTable} {ep : Nat} {o : Obj} {Q : Value → Shared → Prop} (ho : s.heap.get? a = some o) (ex : o.ExactSet) (hd : o.data = .set #[] ep t) (hf : t.fits 0 = true) (h0 : t.fill = 0) (hl : s.heap.IsList l items)
    (h : codeAny (model P w) A.in1 (.builtin "set.update.loop" ⟨[.ref a, .ref s.heap.objs.size], []⟩) (fun r s1 => match r with | .ok (.ret _) => Q .none s1 | .ok _ => False | .error e => E e s1)
      { s with heap := s.heap.push { cls := .type "list_iterator", data := .fields #[.ref l, .int 0 0] } }) : wpAny (model P w) A (call (.builtin "set.__init__") [.ref a, .ref l]) Q E s := by
  have ty : s.TypeIs (.ref a) "set" := ⟨o, ho, ex.1⟩
  refine wpAny_call (codeAny_of_tree ?_)
  show wpAny _ _ (do checkBuiltinCall "set.__init__" _; again (.builtin "set.__init__" _)) _ _ _
  refine wpAny_bind (check_set_init_1 ty (wpAny_pure ⟨plainId_quiet (by decide +kernel) _, codeAny_builtin F.entry_set_init ?_⟩))
  rw [Around.under_plainId (by decide +kernel)]
  unfold Builtin.«set.__init__»
  dsimp only
  refine wpAny_bind (m := noKeywords "set" _) (wpAny_pure ?_)
  refine wpAny_bind (m := typeNameOfCut 200 _) ?_
  unfold typeNameOfCut shownTypeOf
  refine wpAny_bind (wpAny_bind (wpAny_typeOf ty ?_))
  refine wp_if_neg (by decide) (wpAny_pure (wpAny_pure ?_))
  refine wpAny_bind (m := checkCount _ 0 1 1) (wpAny_pure (wpAny_bind (m := Builtin.Frozenset.addrOf (.ref a)) (wpAny_pure ?_)))
  unfold setUsed
  refine wpAny_bind (wpAny_bind (wpAny_setState_of ho hd hf ?_))
  dsimp only
  rw [h0]
  refine wpAny_pure (wp_if_neg (by decide) (wpAny_bind ?_))
  unfold Builtin.Frozenset.updateFrom Builtin.Frozenset.isAnySet
  refine wpAny_bind (wpAny_bind (wpAny_isInstance hl.typeIs F.sub_list_set (wpAny_isInstance hl.typeIs F.sub_list_frozenset ?_)))
  refine wp_if_neg (by decide) (wpAny_bind (wpAny_typeOf hl.typeIs (wp_if_neg (by decide) ?_)))
  refine wpAny_bind (wpAny_pyIter_list hl (wpAny_bind (wpAny_runValue (codeAny_mono h fun r s1 z => ?_))))
  match r, z with
  | .error e, z => exact z
  | .ok (.ret v), z => exact wpAny_pure (wpAny_pure z)
end
section
variable {P : Program} {w : World} {A : Around} {E : Value → Shared → Prop} {s : Shared}
/-- the set as it is made -/
def setObj (w : World) : Obj := { cls := .type "set", dict := none, data := .set #[] 0 (.fresh 0 0 (!w.params.followText "set-order")) }
theorem set_empty (h : Heap) : SetS P w (h.push (setObj w)) h.objs.size [] #[] 0 (.fresh 0 0 (!w.params.followText "set-order")) where
  obj := ⟨setObj w, Heap.get?_push_size h rfl, ⟨rfl, rfl, rfl⟩, rfl⟩
  rows := rfl
  tb := ⟨⟨List.Pairwise.nil, rfl, rfl, .inl rfl, fun x hx => (by cases hx), fun i h j hi => (by cases hi)⟩, rfl, (by
    show _ ∨ (!w.params.followText "set-order") = true
    cases w.params.followText "set-order" <;> simp), (by show 0 * 5 < 7 * 3; decide), (by show 0 < 64; decide)⟩
  once := List.nodup_nil
  mem := fun y hy => by cases hy
theorem call_set_sh {l : Addr} {items : Array Value} (ks : List (Sh × Addr)) {Q : Value → Shared → Prop} (hh : A.handled = none) (hl : s.heap.IsList l items) (hit : items.toList = ks.map fun y => Value.ref y.2)
    (mem : ∀ y ∈ ks, ShOn P w s.heap y.1 y.2) (few : ks.length < 64) (hu : A.units + 16 < cLine)
    (q : ∀ (h' : Heap) (tk : Nat) L es ep t, SetS P w h' s.heap.objs.size L es ep t → Taken ks ks.length L → (∀ b o, s.heap.get? b = some o → h'.get? b = some o) → Q (.ref s.heap.objs.size) { s with heap := h', toks := tk }) : wpAny (model P w) A (call (.type "set") [.ref l]) Q E s := by
  have sz : items.size = ks.length := by rw [← Array.length_toList, hit, List.length_map]
  have lt : l < s.heap.objs.size := by
    obtain ⟨o, ho, -⟩ := hl
    exact (Array.getElem?_eq_some_iff.mp (Heap.get?_some_iff.mp ho).1).1
  refine made_by F.called_set (F.typeCall_set_1 _) (code_set_led1 (w := w) (Q₁ := fun obj s1 => obj = .ref s.heap.objs.size ∧ s1 = { s with heap := s.heap.push (setObj w) }) _ ⟨rfl, rfl⟩) fun obj s1 e => ?_
  obtain ⟨rfl, rfl⟩ := e
  have z := set_empty (P := P) (w := w) s.heap
  obtain ⟨o, ho, ex, hd⟩ := z.obj
  refine ⟨⟨o, ho, ex.1⟩, ?_⟩
  have hl1 : (s.heap.push (setObj w)).IsList l items := hl.push _
  have sz1 : (s.heap.push (setObj w)).objs.size = s.heap.objs.size + 1 := by rw [Heap.objs_push, Array.size_push]
  refine init_set ho ex hd (by cases w.params.followText "set-order" <;> rfl) rfl hl1 ?_
  dsimp only
  rw [sz1]
  generalize hI : ({ cls := .type "list_iterator", data := .fields #[.ref l, .int 0 0] } : Obj) = itO
  have k1 : ∀ b o, s.heap.get? b = some o → ((s.heap.push (setObj w)).push itO).get? b = some o := fun b o hb => Heap.get?_push_of_some _ (Heap.get?_push_of_some _ hb)
  have none_at : ∀ b, s.heap.objs.size ≤ b → s.heap.get? b = none := fun b hb => by
    cases e : s.heap.get? b with
    | none => rfl
    | some o => exact absurd (Array.getElem?_eq_some_iff.mp (Heap.get?_some_iff.mp e).1).1 (Nat.not_lt.mpr hb)
  have W := (Walks.list (prog := P) (w := w) (A := A.in1.in1.in1) hh (s.heap.objs.size + 1) l (Nat.ne_of_lt (Nat.lt_succ_of_lt lt)) items).toS
  rw [sz] at W
  have itok : ((s.heap.push (setObj w)).push itO).IsListIter (s.heap.objs.size + 1) l 0 := ⟨itO, by rw [← sz1]; exact Heap.get?_push_size _ (by rw [← hI]; rfl), by rw [← hI], by rw [← hI]; rfl⟩
  refine loopS (s0 := s) W (by simp only [Around.in1_units]; omega) (fun z => ?_) few (fun i v pv => ?_) (fun b hb => none_at b ?_) mem (fun s' L es ep t mv z' T => ?_) ks.length 0 _ (Nat.zero_add _) ⟨itok, hl1.push _⟩ ⟨fun b o _ hb => k1 b o hb, rfl, rfl, rfl, Nat.le_refl _⟩
    ⟨[], _, _, _, z.kept (fun o ho => Heap.get?_push_of_some _ ho) (fun y hy => by cases hy), fun y hy => (by cases hy), fun y hy => (by cases hy), Nat.le_refl _⟩
  · rcases List.mem_cons.mp z with e | z
    · exact absurd e (Nat.ne_of_lt (Nat.lt_succ_self _))
    · exact absurd (List.mem_singleton.mp z) (Nat.ne_of_gt lt)
  · rw [← Array.getElem?_toList, hit, List.getElem?_map] at pv
    obtain ⟨y, hy, rfl⟩ := Option.map_eq_some_iff.mp pv
    exact ⟨y, hy, rfl⟩
  · rcases List.mem_cons.mp hb with rfl | hb
    · exact Nat.le_refl _
    · rw [List.mem_singleton.mp hb]
      exact Nat.le_succ _
  · refine ⟨rfl, ?_⟩
    have e : s' = { s with heap := s'.heap, toks := s'.toks } := by
      have a1 := mv.gens
      have a2 := mv.drawn
      have a3 := mv.os
      cases s'
      cases s
      simp only at a1 a2 a3
      subst a1 a2 a3
      rfl
    rw [e]
    refine q _ _ L es ep t z' T fun b o hb => mv.heap b o (fun z => ?_) hb
    have le : s.heap.objs.size ≤ b := by
      rcases List.mem_cons.mp z with rfl | z
      · exact Nat.le_refl _
      · rw [List.mem_singleton.mp z]
        exact Nat.le_succ _
    rw [none_at b le] at hb
    cases hb
end
/-! ### set(xs) and sorted(set), as rules -/
section
variable {X : Cx}
def SsH (w : World) (a : Addr) (L : List (Sh × Addr)) (h : Heap) : Prop := ∃ es ep t, (∃ o, h.get? a = some o ∧ o.ExactSet ∧ o.data = .set es ep t) ∧ es.toList = L.map (entSh w) ∧ TabS w t L
def SSet (w : World) (a : Addr) (L : List (Sh × Addr)) : HO := .ext (SsH w a L)
theorem ss_obj {P : Program} {w : World} {H : Hp} {h : Heap} {a : Addr} {L : List (Sh × Addr)} (z : SsH w a L h) : ObjOk P w H h a (SSet w a L) := by
  refine ⟨z, ?_, fun h1 h2 y k => ?_⟩
  · obtain ⟨_, _, _, ⟨o, ho, _⟩, _⟩ := z
    exact ⟨o, ho⟩
  · obtain ⟨es, ep, t, ⟨o, ho, r⟩, z⟩ := y
    exact ⟨es, ep, t, ⟨o, k o ho, r⟩, z⟩
/-- how much was drawn is no part of what stands -/
theorem drawn_inv {pins : List (Addr × Obj)} {σ : L2.St} {H : Hp} {s s' : Shared} (I : Inv X pins σ H s) (eh : s'.heap = s.heap) (eg : s'.gens = s.gens) (eo : s'.os = s.os) : Inv X pins σ H s' := by
  obtain ⟨h', g', d', t', o'⟩ := s'
  simp only at eh eg eo
  subst eh eg eo
  exact ⟨I.ok, I.os, I.bare, I.base, I.loc, I.cell, I.free, I.freeC, I.pin, I.hok, I.len⟩
theorem refs_shs {ks : List (Sh × Addr)} {its : List Value} (r : Vals (ks.map fun y : Sh × Addr => V.ref y.2) its) : its = ks.map fun y => Value.ref y.2 := by
  have e : ks.map (fun y : Sh × Addr => V.ref y.2) = (ks.map Prod.snd).map V.ref := by rw [List.map_map]; rfl
  rw [e] at r
  rw [refs_at r, List.map_map]
  rfl
def rSetSh (w : World) : List V → Hp → VK → Prop := fun vs H Q => ∃ (l : Addr) (ks : List (Sh × Addr)), vs = [.ref l] ∧ H l = some (.lst (ks.map fun y : Sh × Addr => V.ref y.2)) ∧ (∀ y ∈ ks, ShAt H y.2 y.1) ∧ ks.length < 64 ∧
  ∀ a L, H a = none → (∀ y ∈ L, y ∈ ks) → (∀ y ∈ ks, y.1 ∈ L.map Prod.fst) → (L.map Prod.fst).Nodup → L.length ≤ ks.length → Q (.ref a) (upd H a (SSet w a L))
theorem cr_setSh (hc : X.calm = true) (hu : X.A.units + 64 < cLine) : CallR X (.type "set") (rSetSh X.w) := by
  intro pins s σ H vs us Q I r q
  obtain ⟨l, ks, rfl, hl, hk, few, q⟩ := q
  obtain ⟨u, rfl, rx⟩ := r.one
  cases rx
  obtain ⟨hz, its, e0, rv, ho⟩ := I.hok l _ hl
  have ei := refs_shs rv
  subst ei
  have hn : H s.heap.objs.size = none := I.hok.fresh (Nat.le_refl _)
  refine call_set_sh ks (I.ok.hd hc) (PySem.IsL.isList ho) rfl (fun y hy => sh_key I.hok (hk y hy)) few (by omega) fun h' tk L es ep t S T k => ?_
  refine ⟨.ref s.heap.objs.size, _, I.laid (t' := tk) (o := SSet X.w s.heap.objs.size L) k (Nat.le_refl _) (ss_obj ⟨es, ep, t, S.obj, S.rows, S.tb⟩), rfl, q _ L hn (fun y hy => List.mem_of_mem_take (T.out y hy)) (fun y hy => T.all y ?_) S.once T.len⟩
  rw [List.take_length]
  exact hy
/-- the rows of such a set, drawn out -/
def rSortedSet (w : World) : List V → Hp → VK → Prop := fun vs H Q => ∃ (a : Addr) (L : List (Sh × Addr)), vs = [.ref a] ∧ H a = some (SSet w a L) ∧ (∀ y ∈ L, ShAt H y.2 y.1) ∧
  ∀ (L2 : List (Sh × Addr)) p, L2.Perm L → H p = none → Q (.ref p) (upd H p (.lst ((L2.mergeSort fun a b => leS a.1 b.1).map fun y => V.ref y.2)))
theorem perm_lift {α β : Type} {f : α → β} {a b : List β} (p : a.Perm b) : ∀ L : List α, b = L.map f → ∃ M : List α, M.Perm L ∧ a = M.map f := by
  induction p with
  | nil => exact fun L h => ⟨L, .refl _, h⟩
  | cons x _ ih =>
    intro L h
    cases L with
    | nil => cases h
    | cons y L =>
      obtain ⟨h1, h2⟩ := List.cons.inj h
      obtain ⟨M, m1, m2⟩ := ih L h2
      exact ⟨y :: M, m1.cons y, by rw [List.map_cons, ← h1, m2]⟩
  | swap x y l =>
    intro L h
    match L, h with
    | u :: v :: L, h =>
      simp only [List.map_cons, List.cons.injEq] at h
      exact ⟨v :: u :: L, .swap _ _ _, by simp only [List.map_cons, h]⟩
  | trans _ _ i1 i2 =>
    intro L h
    obtain ⟨M, m1, m2⟩ := i2 L h
    obtain ⟨N, n1, n2⟩ := i1 M m2
    exact ⟨N, n1.trans m1, n2⟩
theorem perm_refs {es : List (Int × Value)} {w : World} {L : List (Sh × Addr)} {out : List Value} (rows : es = L.map (entSh w)) (p : out.Perm (es.map (·.2))) : ∃ L2 : List (Sh × Addr), L2.Perm L ∧ out = L2.map fun y => Value.ref y.2 := by
  rw [rows, List.map_map] at p
  exact perm_lift p L rfl
theorem cr_sortedSet (hc : X.calm = true) (hu : X.A.units + 64 < cLine) : CallR X (.builtin "sorted") (rSortedSet X.w) := by
  intro pins s σ H vs us Q I r q
  obtain ⟨a, L, rfl, ha, hk, q⟩ := q
  obtain ⟨u, rfl, rx⟩ := r.one
  cases rx
  obtain ⟨es, ep, t, ⟨o, ho, ex, hd⟩, rows, T⟩ := (I.hok a _ ha).1
  have sz : es.size = L.length := by rw [← Array.length_toList, rows, List.length_map]
  have ps : t.place.size = L.length := by rw [T.tab.sz, List.length_map]
  have thin := T.thin
  have small := T.small
  refine Calls.call_function_entry PyProof.Rows.kind_sorted PyProof.Rows.plain_sorted PyProof.Rows.entry_sorted (PyProof.Rows.args_sorted1 _) ?_
  unfold Builtin.«sorted»
  refine wpAny_bind (m := checkCount "sorted" 1 1 _) (wpAny_pure ?_)
  refine wpAny_bind (collect_set (A := X.A.in1) (I.ok.hd hc) ⟨o, ho, ex.1, hd⟩ (tab_fits T.tab.dm (ps.trans sz.symm) (by omega)) (by rw [sz]; exact Nat.lt_trans small (by decide)) T.tab.ris T.byt fun s' out kp _ eg eo pm => ?_)
  obtain ⟨L2, p2, rfl⟩ := perm_refs rows pm
  have I1 : Inv X pins σ H { s with drawn := s'.drawn } := drawn_inv I rfl rfl rfl
  have e : s' = { ({ s with drawn := s'.drawn } : Shared) with heap := s'.heap, toks := s'.toks } := by
    obtain ⟨h', g', d', t', o'⟩ := s'
    simp only at eg eo
    subst eg eo
    rfl
  refine wpAny_bind (wpAny_newList ?_ (by rw [List.length_map, p2.length_eq, sizeLine_eq]; omega))
  refine wpAny_bind (wpAny_holding ?_)
  have tail := sort_tail hu I1 (bs := L2) (by rw [p2.length_eq, sizeLine_eq]; omega) (fun b hb => hk b (p2.mem_iff.mp hb)) (fun p hp => q L2 p p2 hp) (h' := s'.heap) (tk := s'.toks) kp
  rw [e]
  exact wpAny_mono tail (fun v s2 z => wpAny_pure ⟨_, rfl, z⟩) fun _ _ z => z
end
/-! ### common_divisor -/
theorem gcd2_abs (a b : Int) : gcd2 a (if b < 0 then -b else b) = gcd2 a b := by
  unfold gcd2
  rw [show (if b < 0 then -b else b).natAbs = b.natAbs by split <;> omega]
theorem gcd2_zero {a : Int} (h : 0 ≤ a) : gcd2 a 0 = a := by
  unfold gcd2
  rw [Int.natAbs_zero, Nat.gcd_zero_right]
  omega
theorem gcd2_step {a b : Int} (ha : 0 ≤ a) (hb : 0 < b) : gcd2 b (a % b) = gcd2 a b := by
  unfold gcd2
  obtain ⟨m, rfl⟩ := Int.eq_ofNat_of_zero_le ha
  obtain ⟨n, rfl⟩ := Int.eq_ofNat_of_zero_le (Int.le_of_lt hb)
  rw [← Int.natCast_emod, Int.natAbs_natCast, Int.natAbs_natCast, Int.natAbs_natCast, Nat.gcd_comm m n, Nat.gcd_rec n m, Nat.gcd_comm]
section
variable {base : Heap} {K : PySem.W.Frag} {mg : Str → Option Value} {P : Program} {w : World}
def spCD (K : PySem.W.Frag) : Sp := fun vs H Q _ => ∃ (t : Addr) (ns : List Int), vs = [.ref t] ∧ SqT K H t (ns.map V.int) ∧ Q (.int (gcdL ns)) H
def Euc (t : Addr) (n g : Int) (H : Hp) (m : Nat) (σ : L2.St) (H' : Hp) : Prop := ∃ f r : Int, σ = [some (.ref t), some (.int f), some (.int n), some (.int r)] ∧ H' = H ∧ 0 ≤ f ∧ 0 ≤ r ∧ gcd2 f r = g ∧ m = r.toNat
theorem ok_common_divisor (T : Txt K mg) : FnOk P w K mg base CX0 1 T.f_common_divisor T.d_common_divisor ["numbers"] (spCD K) := by
  refine T.F_common_divisor.ok sc_common_divisor (fun vs H Q E h => ?_) (fun cdv A outer s H vs Q E hr h => ?_)
  · obtain ⟨t, ns, rfl, _⟩ := h
    rfl
  · obtain ⟨t, ns, rfl, ht, q⟩ := h
    refine ⟨_, (pss_cons (ps_set (i := 1) sc_common_divisor.nd rfl (Or.inl rfl) pe_int)
      (pss_cons (ps_for PassesOwn.never rfl (pi_tup (pv 0)) (pg_name (i := 2) sc_common_divisor.nd rfl (Or.inl rfl)) (pss_cons (ps_set (i := 3) sc_common_divisor.nd rfl (Or.inl rfl) (pe_callB call_abs (by rfl) T.n_abs (by decide +kernel) (pa_cons (pv 2) pa_nil)))
      (pss_one (ps_while PassesOwn.never (pt_truth (pv 3) (fun _ => rfl)) (pss_one (ps_par (i := 1) (j := 3) (by rfl) sc_common_divisor.nd rfl rfl (by decide) rfl rfl (pa_cons (pv 3) (pa_cons (pe_op op_mod (pv 1) (pv 3)) pa_nil)) (by rfl)))))))
      (pss_one (ps_ret (pv 1))))), ?_⟩
    refine ⟨_, rfl, _, rfl, ⟨_, ht⟩, for_tup (K := K) (a := t) (xs := ns.map V.int) (fun i σ H' => ∃ y2 y3, σ = [some (.ref t), some (.int (gcdL (ns.take i))), y2, y3] ∧ H' = H) ⟨_, _, rfl, rfl⟩ ?_ ?_ ?_⟩
    · rintro i σ H' _ ⟨_, _, _, rfl⟩
      exact ht
    · rintro i x σ H' hx ⟨y2, y3, rfl, rfl⟩
      rw [List.getElem?_map] at hx
      obtain ⟨n, hn, rfl⟩ := Option.map_eq_some_iff.mp hx
      have g0 := gcdL_nn (ns.take i)
      have e : gcdL (ns.take (i + 1)) = gcd2 (gcdL (ns.take i)) n := by
        rw [List.take_succ, hn]
        unfold gcdL
        rw [List.foldl_append]
        rfl
      refine ⟨_, rfl, n, rfl, ?_⟩
      refine ⟨Euc t n (gcd2 (gcdL (ns.take i)) n) H', ⟨_, gcdL (ns.take i), _, rfl, rfl, g0, (by split <;> omega), gcd2_abs _ _, rfl⟩, ?_⟩
      rintro m σ G ⟨f, r, rfl, rfl, f0, r0, fr, rfl⟩
      refine ⟨_, rfl, r != 0, rfl, ?_⟩
      by_cases z : r = 0
      · subst z
        rw [gcd2_zero f0] at fr
        exact iteF ⟨_, _, by rw [e, fr], rfl⟩
      · have rp : 0 < r := by omega
        rw [show (r != 0) = true by simpa using z]
        refine iteT ⟨fun σ' G' => ∃ m', m' < r.toNat ∧ Euc t n (gcd2 (gcdL (ns.take i)) n) G m' σ' G', fun _ _ z => z, ?_⟩
        refine ⟨_, rfl, _, rfl, _, rfl, f, r, rfl, rfl, rp, _, _, rfl, ?_⟩
        have lt := Int.emod_lt_of_pos f rp
        have nn := Int.emod_nonneg f z
        exact ⟨(f % r).toNat, by omega, r, f % r, rfl, rfl, r0, nn, by rw [gcd2_step f0 rp, fr], rfl⟩
    · rintro σ H' ⟨y2, y3, rfl, rfl⟩
      rw [List.length_map, List.take_length]
      exact ⟨_, rfl, q⟩
end
/-! ### upright -/
section
variable {base : Heap} {K : PySem.W.Frag} {mg : Str → Option Value} {P : Program} {w : World}
def spUpr (K : PySem.W.Frag) : Sp := fun vs H Q _ => ∃ (v : V) (d a b : Int), vs = [v, .int d] ∧ PairAt K H v a b ∧ IsRoot d ∧ a.natAbs < 2 ^ 20 ∧ b.natAbs < 2 ^ 20 ∧ ¬ (a = 0 ∧ b = 0) ∧
  ∀ u0 u1, Upr d (a, b) (u0, u1) → u0.natAbs < 2 ^ 20 → u1.natAbs < 2 ^ 20 → NewPair H u0 u1 Q
theorem le_mul_nat {d x : Int} (h : d ≠ 0) : x.natAbs ≤ (d * x).natAbs := by
  rw [Int.natAbs_mul]
  exact Nat.le_mul_of_pos_left _ (Int.natAbs_pos.mpr h)
theorem root64 {d : Int} (h : IsRoot d) : d.natAbs < 2 ^ 64 := by
  have h1 := h.1
  have h2 := h.2.1
  exact Nat.lt_of_le_of_lt (show d.natAbs ≤ 99 by omega) (by decide)
theorem fdiv_eq {k u a : Int} (e : a = k * u) (h : k ≠ 0) : a.fdiv k = u := by
  rw [e]
  exact Int.mul_fdiv_cancel_left u h
theorem ok_upright (T : Txt K mg) : FnOk P w K mg base CX0 2 T.f_upright T.d_upright ["pair", "root"] (spUpr K) := by
  refine T.F_upright.ok sc_upright (fun vs H Q E h => ?_) (fun cdv A outer s H vs Q E hr h => ?_)
  · obtain ⟨v, d, a, b, rfl, _⟩ := h
    rfl
  · obtain ⟨v, d, a, b, rfl, ⟨t, rfl, ht⟩, hd, a1, b1, n0, q⟩ := h
    refine ⟨_, (pss_cons (ps_asg (pv 0) (pg_tup (by rfl) (pgs_cons (pg_name (i := 3) sc_upright.nd rfl (Or.inl rfl)) (pgs_cons (pg_name (i := 4) sc_upright.nd rfl (Or.inl rfl)) pgs_nil))))
      (pss_cons (ps_set (i := 2) sc_upright.nd rfl (Or.inl rfl) (pe_op op_mulW (pe_call (ok_common_divisor T) (hr.mono (by decide)) (by rfl) T.g_common_divisor T.F_common_divisor.kp T.b_common_divisor .nil pass0 (pa_cons (pv 0) pa_nil)) (pe_call (ok_sign T) (hr.mono (by decide)) (by rfl) T.g_sign T.F_sign.kp T.b_sign .nil pass0 (pa_cons (pv 0) (pa_cons (pv 1) pa_nil)))))
      (pss_one (ps_ret (pe_tup (pa_cons (pe_op op_fdivN (pv 3) (pv 2)) (pa_cons (pe_op op_fdivN (pv 4) (pv 2)) pa_nil))))))), ?_⟩
    obtain ⟨d0, u0, u1, ea, eb, pu, su⟩ := upr_ok hd n0
    have gb : (gcdL [a, b]).natAbs < 2 ^ 20 := by
      by_cases z : a = 0
      · exact Nat.lt_of_le_of_lt (gcdL_le (ns := [a, b]) (n := b) (by simp) fun y => n0 ⟨z, y⟩) b1
      · exact Nat.lt_of_le_of_lt (gcdL_le (ns := [a, b]) (n := a) (by simp) z) a1
    have sb : (sg d a b).natAbs < 2 ^ 1 := by
      have := sg_bd d a b
      show _ < 2
      omega
    have db : (updiv d a b).natAbs < 1073741824 := by
      have q : updiv d a b = gcdL [a, b] * sg d a b := rfl
      rw [q, Int.natAbs_mul]
      have : (sg d a b).natAbs ≤ 1 := Nat.le_of_lt_succ sb
      have := Nat.mul_le_mul_left (gcdL [a, b]).natAbs this
      have : (2 : Nat) ^ 20 = 1048576 := by decide
      omega
    have fa := fdiv_eq ea d0
    have fb := fdiv_eq eb d0
    have ua : u0.natAbs ≤ a.natAbs := by
      conv => rhs; rw [ea]
      exact le_mul_nat d0
    have ub : u1.natAbs ≤ b.natAbs := by
      conv => rhs; rw [eb]
      exact le_mul_nat d0
    refine ⟨_, rfl, t, _, rfl, ht, rfl, .int a, [.int b], rfl, .int b, [], rfl, rfl, ?_⟩
    refine ⟨_, rfl, t, [a, b], rfl, ht, _, rfl, _, rfl, .ref t, d, a, b, rfl, ⟨t, rfl, ht⟩, root64 hd, Nat.lt_of_lt_of_le a1 (Nat.pow_le_pow_right (by decide) (by decide)), Nat.lt_of_lt_of_le b1 (Nat.pow_le_pow_right (by decide) (by decide)), _, _, rfl, rfl, wide_mul gb sb (by decide) (by decide) (by decide), ?_⟩
    refine ⟨_, rfl, _, rfl, a, updiv d a b, rfl, rfl, ⟨d0, db⟩, _, rfl, _, rfl, b, updiv d a b, rfl, rfl, ⟨d0, db⟩, (by show 2 ≤ sizeLine; decide), fun p hp => ?_⟩
    dsimp only
    rw [fa, fb]
    exact q u0 u1 ⟨pu, su, updiv d a b, d0, ea, eb⟩ (Nat.lt_of_le_of_lt ua a1) (Nat.lt_of_le_of_lt ub b1) p _ hp (same_new hp) upd_same
end
/-! ### the factors -/
section
variable {base : Heap} {K : PySem.W.Frag} {mg : Str → Option Value} {P : Program} {w : World}
def spFnz (K : PySem.W.Frag) : Sp := fun vs H Q _ => ∃ (p q : V) (a b c d : Int), vs = [p, q] ∧ PairAt K H p a b ∧ PairAt K H q c d ∧ ∀ H' z, Same H H' → PairAt K H' z (nz (a, b) (c, d)).1 (nz (a, b) (c, d)).2 → Q z H'
theorem ok_first_not_zero (T : Txt K mg) : FnOk P w K mg base CX0 1 T.f_first_not_zero T.d_first_not_zero ["one", "other"] (spFnz K) := by
  refine T.F_first_not_zero.ok sc_first_not_zero (fun vs H Q E h => ?_) (fun cdv A outer s H vs Q E hr h => ?_)
  · obtain ⟨p, q, a, b, c, d, rfl, _⟩ := h
    rfl
  · obtain ⟨p, q, a, b, c, d, rfl, hp, hq, k⟩ := h
    refine ⟨_, (pss_one (ps_ret (pe_ifExp (pt_cmpR (op_eqD hr.units) (pv 0) (pe_tup (pa_cons pe_int (pa_cons pe_int pa_nil))) (nomark _)) (pv 1) (pv 0)))), ?_⟩
    refine ⟨_, rfl, (by show 2 ≤ sizeLine; decide), fun t ht => ?_⟩
    have s1 := same_new (o := .tup [.int 0, .int 0]) ht
    obtain ⟨tp, rfl, hp'⟩ := id (hp.same s1)
    refine ⟨.tuple [.int a, .int b], .tuple [.int 0, .int 0], .tup hp' (.cons (.int a) (.cons (.int b) .nil)), .tup (SqT.of upd_same) (.cons (.int 0) (.cons (.int 0) .nil)), rfl, rfl, _, rfl, ?_⟩
    rw [eqv2]
    by_cases z : (a, b) = ((0, 0) : P2)
    · have e : nz (a, b) (c, d) = (c, d) := if_pos z
      rw [decide_eq_true (congrArg Prod.fst z), decide_eq_true (congrArg Prod.snd z)]
      exact iteT ⟨_, rfl, k _ _ s1 (by rw [e]; exact hq.same s1)⟩
    · have e : nz (a, b) (c, d) = (a, b) := if_neg z
      rw [show (decide (a = 0) && decide (b = 0)) = false by
        rw [Bool.and_eq_false_iff]
        by_cases y : a = 0
        · exact .inr (decide_eq_false fun y2 => z (by rw [y, y2]))
        · exact .inl (decide_eq_false y)]
      exact iteF ⟨_, rfl, k _ _ s1 (by rw [e]; exact ⟨tp, rfl, hp'⟩)⟩
def spPlain (K : PySem.W.Frag) (C : Addr) : Sp := fun vs H Q _ => ∃ (p : Addr) (a b c d : Int), vs = [.ref p] ∧ TabAt C H p a b c d ∧ Bd 20 [a, b, c, d] ∧
  (plainF (a, b, c, d) = none → ∀ H', Same H H' → Q .non H') ∧
  ∀ x y, plainF (a, b, c, d) = some (x, y) → ∀ (t : Addr) u v H', Same H H' → H' t = some (.tup [u, v]) → PairAt K H' u x.1 x.2 → PairAt K H' v y.1 y.2 → Q (.ref t) H'
theorem ok_plain_factors (T : Txt K mg) : FnOk P w K mg base CX0 2 T.f_plain_factors T.d_plain_factors ["table"] (spPlain K T.C_Table) := by
  refine T.F_plain_factors.ok sc_plain_factors (fun vs H Q E h => ?_) (fun cdv A outer s H vs Q E hr h => ?_)
  · obtain ⟨p, a, b, c, d, rfl, _⟩ := h
    rfl
  · obtain ⟨p, a, b, c, d, rfl, hT, bd, q0, q1⟩ := h
    refine ⟨_, (pss_cons (ps_if (pt_cmpR op_ne (pe_meth0 (pv 0) T.cl_Table T.m_Table_determinant (ok_Table_determinant T) (hr.mono (by decide)) T.b_Table_determinant .nil pass0) pe_int (nomark _)) (pss_one (ps_ret pe_non)) pss_nil)
      (pss_cons (ps_asg (pe_meth0 (pv 0) T.cl_Table T.m_Table_rows (ok_Table_rows T) (hr.mono (by decide)) T.b_Table_rows .nil pass0) (pg_tup (by rfl) (pgs_cons (pg_tup (by rfl) (pgs_cons (pg_name (i := 1) sc_plain_factors.nd rfl (Or.inl rfl)) (pgs_cons (pg_name (i := 2) sc_plain_factors.nd rfl (Or.inl rfl)) pgs_nil))) (pgs_cons (pg_tup (by rfl) (pgs_cons (pg_name (i := 3) sc_plain_factors.nd rfl (Or.inl rfl)) (pgs_cons (pg_name (i := 4) sc_plain_factors.nd rfl (Or.inl rfl)) pgs_nil))) pgs_nil))))
      (pss_one (ps_ret (pe_tup (pa_cons (pe_call (ok_first_not_zero T) (hr.mono (by decide)) (by rfl) T.g_first_not_zero T.F_first_not_zero.kp T.b_first_not_zero .nil pass0 (pa_cons (pe_tup (pa_cons (pv 1) (pa_cons (pv 3) pa_nil))) (pa_cons (pe_tup (pa_cons (pv 2) (pa_cons (pv 4) pa_nil))) pa_nil))) (pa_cons (pe_call (ok_first_not_zero T) (hr.mono (by decide)) (by rfl) T.g_first_not_zero T.F_first_not_zero.kp T.b_first_not_zero .nil pass0 (pa_cons (pe_tup (pa_cons (pv 1) (pa_cons (pv 2) pa_nil))) (pa_cons (pe_tup (pa_cons (pv 3) (pa_cons (pv 4) pa_nil))) pa_nil))) pa_nil))))))), ?_⟩
    have bw : Bd 9000 [a, b, c, d] := fun z hz => Nat.lt_of_lt_of_le (bd z hz) (Nat.pow_le_pow_right (by decide) (by decide))
    obtain ⟨dx, tt, hp, hcells⟩ := id hT
    refine ⟨_, rfl, p, dx, _, rfl, hp, nc (by decide +kernel), p, a, b, c, d, rfl, hT, bw, rfl, _, rfl, ?_⟩
    by_cases z : a * d - b * c ≠ 0
    · have e : plainF (a, b, c, d) = none := if_pos z
      rw [show decide (V.int (a * d - b * c) = V.int 0) = false from decide_eq_false fun y => z (V.int.inj y)]
      exact iteT (q0 e H (Same.refl _))
    · have e : plainF (a, b, c, d) = some (nz (a, c) (b, d), nz (a, b) (c, d)) := if_neg z
      rw [show decide (V.int (a * d - b * c) = V.int 0) = true from decide_eq_true (congrArg V.int (Classical.not_not.mp z))]
      refine iteF ?_
      refine ⟨_, rfl, p, dx, _, rfl, hp, nc (by decide +kernel), p, a, b, c, d, rfl, hT, fun t hC => ?_⟩
      obtain ⟨u, v, h1, h2, h3⟩ := hC
      refine ⟨t, _, rfl, SqT.of h1, rfl, .ref u, _, rfl, u, _, rfl, SqT.of h2, rfl, .int a, _, rfl, .int b, _, rfl, rfl, .ref v, _, rfl, v, _, rfl, SqT.of h3, rfl, .int c, _, rfl, .int d, _, rfl, rfl, rfl, ?_⟩
      have l2 : 2 ≤ sizeLine := by rw [sizeLine_eq]; decide
      refine ⟨_, rfl, _, rfl, l2, fun t1 h1 => ⟨_, rfl, _, rfl, l2, fun t2 h2 => ?_⟩⟩
      have s1 := same_new (o := .tup [.int a, .int c]) h1
      have s2 := same_new (o := .tup [.int b, .int d]) h2
      refine ⟨.ref t1, .ref t2, a, c, b, d, rfl, ⟨t1, rfl, SqT.of (s2 _ _ upd_same)⟩, ⟨t2, rfl, SqT.of upd_same⟩, fun H1 z1 e1 p1 => ?_⟩
      refine ⟨_, rfl, _, rfl, l2, fun t3 h3 => ⟨_, rfl, _, rfl, l2, fun t4 h4 => ?_⟩⟩
      have s3 := same_new (o := .tup [.int a, .int b]) h3
      have s4 := same_new (o := .tup [.int c, .int d]) h4
      refine ⟨.ref t3, .ref t4, a, b, c, d, rfl, ⟨t3, rfl, SqT.of (s4 _ _ upd_same)⟩, ⟨t4, rfl, SqT.of upd_same⟩, fun H2 z2 e2 p2 => ?_⟩
      refine ⟨l2, fun t5 h5 => ?_⟩
      have s5 := same_new (o := .tup [z1, z2]) h5
      exact q1 _ _ e t5 z1 z2 _ (((((s1.trans s2).trans e1).trans s3).trans s4).trans (e2.trans s5)) upd_same (((p1.same s3).same s4).same (e2.trans s5)) (p2.same s5)
end
/-! ### the formulas of a table -/
section
variable {base : Heap} {K : PySem.W.Frag} {mg : Str → Option Value} {P : Program} {w : World}
def spMarks (C : Addr) : Sp := fun vs H Q _ => ∃ (p : Addr) (a b c e : Int) (k : Bool), vs = [.ref p, .bl k] ∧ TabAt C H p a b c e ∧
  ∀ p H', H p = none → Same H H' → H' p = some (.tup (if k then [.int a, .int (b + c), .int e] else [.int a, .int b, .int c, .int e])) → Q (.ref p) H'
theorem ok_Table_marks (T : Txt K mg) : FnOk P w K mg base CX0 1 T.f_Table_marks T.d_Table_marks ["self", "turning"] (spMarks T.C_Table) := by
  refine T.F_Table_marks.ok sc_Table_marks (fun vs H Q E h => ?_) (fun cdv A outer s H vs Q E hr h => ?_)
  · obtain ⟨p, a, b, c, e, k, rfl, _⟩ := h
    rfl
  · obtain ⟨p, a, b, c, e, k, rfl, ⟨dx, t, hp, u, v, ht, hu, hv⟩, q⟩ := h
    refine ⟨_, (pss_cons (ps_asg (pe_fld (pv 0) rfl) (pg_tup (by rfl) (pgs_cons (pg_tup (by rfl) (pgs_cons (pg_name (i := 2) sc_Table_marks.nd rfl (Or.inl rfl)) (pgs_cons (pg_name (i := 3) sc_Table_marks.nd rfl (Or.inl rfl)) pgs_nil))) (pgs_cons (pg_tup (by rfl) (pgs_cons (pg_name (i := 4) sc_Table_marks.nd rfl (Or.inl rfl)) (pgs_cons (pg_name (i := 5) sc_Table_marks.nd rfl (Or.inl rfl)) pgs_nil))) pgs_nil))))
      (pss_cons (ps_if (pt_val (pv 1)) (pss_one (ps_ret (pe_tup (pa_cons (pv 2) (pa_cons (pe_op op_add (pv 3) (pv 4)) (pa_cons (pv 5) pa_nil)))))) pss_nil)
      (pss_one (ps_ret (pe_tup (pa_cons (pv 2) (pa_cons (pv 3) (pa_cons (pv 4) (pa_cons (pv 5) pa_nil))))))))), ?_⟩
    refine ⟨_, rfl, p, T.C_Table, dx, _, _, rfl, hp, T.cl_Table, T.n_Table_cells, rfl, t, _, rfl, SqT.of ht, rfl, .ref u, _, rfl, u, _, rfl, SqT.of hu, rfl, .int a, _, rfl, .int b, _, rfl, rfl, .ref v, _, rfl, v, _, rfl, SqT.of hv, rfl, .int c, _, rfl, .int e, _, rfl, rfl, rfl, ?_⟩
    refine ⟨_, rfl, k, rfl, ?_⟩
    cases k with
    | true => exact iteT ⟨_, rfl, _, rfl, _, rfl, b, c, rfl, rfl, _, rfl, by show 3 ≤ sizeLine; decide, fun p hp => q p _ hp (same_new hp) upd_same⟩
    | false => exact iteF ⟨_, rfl, _, rfl, _, rfl, _, rfl, by show 4 ≤ sizeLine; decide, fun p hp => q p _ hp (same_new hp) upd_same⟩
end
/-! ### the factors of three marks -/
section
variable {base : Heap} {K : PySem.W.Frag} {mg : Str → Option Value} {P : Program} {w : World}
/-- how factors are given back -/
def GiveF (K : PySem.W.Frag) (H : Hp) (Q : VK) (o : Option (P2 × P2)) : Prop := (o = none → ∀ H', Same H H' → Q .non H') ∧
  ∀ x y, o = some (x, y) → ∀ (t : Addr) u v H', Same H H' → H' t = some (.tup [u, v]) → PairAt K H' u x.1 x.2 → PairAt K H' v y.1 y.2 → Q (.ref t) H'
def spTurn (K : PySem.W.Frag) (C : Addr) : Sp := fun vs H Q _ => ∃ (p : Addr) (a b c d : Int), vs = [.ref p] ∧ TabAt C H p a b c d ∧ Bd 10 [a, b, c, d] ∧ ∀ o, TurnF a (b + c) d o → GiveF K H Q o
theorem root_one {s g n : Int} (g0 : 0 ≤ g) (h1 : g * g ≤ n) (h2 : n < (g + 1) * (g + 1)) (e : s * s = n) : g * g = n := by
  have a : ((s.natAbs : Int)) * (s.natAbs : Int) = n := by rw [← e]; exact Int.natAbs_mul_self' s
  have b : g ≤ (s.natAbs : Int) := le_of_sq (by omega) (by omega)
  have c : (s.natAbs : Int) < g + 1 := lt_of_sq (by omega) (by omega)
  have : (s.natAbs : Int) = g := by omega
  rw [← this]
  exact a
theorem ok_turning_factors (T : Txt K mg) : FnOk P w K mg base CX0 2 T.f_turning_factors T.d_turning_factors ["table"] (spTurn K T.C_Table) := by
  refine T.F_turning_factors.ok sc_turning_factors (fun vs H Q E h => ?_) (fun cdv A outer s H vs Q E hr h => ?_)
  · obtain ⟨p, a, b, c, d, rfl, _⟩ := h
    rfl
  · obtain ⟨p, a, b1, b2, c, rfl, hT, bd, q⟩ := h
    refine ⟨_, (pss_cons (ps_asg (pe_methK0 (pv 0) T.cl_Table T.m_Table_marks (ok_Table_marks T) (hr.mono (by decide)) T.kb_Table_marks_turning pass0 (pk_cons pe_bl pk_nil)) (pg_tup (by rfl) (pgs_cons (pg_name (i := 3) sc_turning_factors.nd rfl (Or.inl rfl)) (pgs_cons (pg_name (i := 4) sc_turning_factors.nd rfl (Or.inl rfl)) (pgs_cons (pg_name (i := 5) sc_turning_factors.nd rfl (Or.inl rfl)) pgs_nil)))))
      (pss_cons (ps_set (i := 1) sc_turning_factors.nd rfl (Or.inl rfl) (pe_op op_sub (pe_op op_mulW (pv 4) (pv 4)) (pe_op op_mulW (pe_op op_mulW pe_int (pv 3)) (pv 5))))
      (pss_cons (ps_if (pt_cmpR op_lt (pv 1) pe_int (nomark _)) (pss_one (ps_ret pe_non)) pss_nil)
      (pss_cons (ps_set (i := 2) sc_turning_factors.nd rfl (Or.inl rfl) (pe_call (ok_whole_root T) (hr.mono (by decide)) (by rfl) T.g_whole_root T.F_whole_root.kp T.b_whole_root .nil pass0 (pa_cons (pv 1) pa_nil)))
      (pss_cons (ps_if (pt_cmpR op_ne (pe_op op_mulW (pv 2) (pv 2)) (pv 1) (nomark _)) (pss_one (ps_ret pe_non)) pss_nil)
      (pss_cons (ps_if (pt_cmpR op_eq (pv 3) pe_int (nomark _)) (pss_one (ps_ret (pe_tup (pa_cons (pe_tup (pa_cons pe_int (pa_cons pe_int pa_nil))) (pa_cons (pe_tup (pa_cons (pv 4) (pa_cons (pv 5) pa_nil))) pa_nil))))) pss_nil)
      (pss_one (ps_ret (pe_tup (pa_cons (pe_tup (pa_cons (pe_op op_mulW pe_int (pv 3)) (pa_cons (pe_op op_add (pv 4) (pv 2)) pa_nil))) (pa_cons (pe_tup (pa_cons (pe_op op_mulW pe_int (pv 3)) (pa_cons (pe_op op_sub (pv 4) (pv 2)) pa_nil))) pa_nil))))))))))), ?_⟩
    have l2 : 2 ≤ sizeLine := by rw [sizeLine_eq]; decide
    obtain ⟨dx, tt, hp, hcells⟩ := id hT
    have ba : a.natAbs < 2 ^ 11 := Nat.lt_of_lt_of_le (bd a (by simp)) (by decide)
    have bc : c.natAbs < 2 ^ 11 := Nat.lt_of_lt_of_le (bd c (by simp)) (by decide)
    have bb : (b1 + b2).natAbs < 2 ^ 11 := by
      have h1 := bd b1 (by simp)
      have h2 := bd b2 (by simp)
      show _ < 2048
      have : (2 : Nat) ^ 10 = 1024 := rfl
      omega
    refine ⟨_, rfl, p, dx, _, rfl, hp, nc (by decide +kernel), rfl, p, a, b1, b2, c, true, rfl, hT, fun m H1 n1 s1 hm => ?_⟩
    simp only [if_true] at hm
    generalize b1 + b2 = b at bb hm q
    refine ⟨m, _, rfl, SqT.of hm, rfl, .int a, _, rfl, .int b, _, rfl, .int c, _, rfl, rfl, ?_⟩
    have b4 : (4 : Int).natAbs < 2 ^ 3 := by decide
    have b4a : (4 * a).natAbs < 2 ^ 14 := by
      show _ < 16384
      have : (2 : Nat) ^ 11 = 2048 := rfl
      omega
    have sqb : (b * b - 4 * a * c).natAbs < 2 ^ 26 := by
      have x1 := wide_lt bb bb
      have x2 := wide_lt b4a bc
      have y1 : (2 : Nat) ^ (11 + 11) = 4194304 := rfl
      have y2 : (2 : Nat) ^ (14 + 11) = 33554432 := rfl
      show _ < 67108864
      omega
    refine ⟨_, rfl, _, rfl, b, b, rfl, rfl, wide_mul bb bb (by decide) (by decide) (by decide), _, rfl, 4, a, rfl, rfl, wide_mul b4 ba (by decide) (by decide) (by decide), _, rfl, 4 * a, c, rfl, rfl, wide_mul b4a bc (by decide) (by decide) (by decide), _, _, rfl, rfl, ?_⟩
    dsimp only
    generalize hsq : b * b - 4 * a * c = sq at sqb
    refine ⟨_, rfl, sq, 0, rfl, rfl, _, rfl, ite2 (fun e => ?_) (fun e => ?_)⟩
    · have neg : sq < 0 := of_decide_eq_true e
      refine (q none (.inl ⟨rfl, fun s0 h => ?_⟩)).1 rfl _ s1
      have := sq_nn s0
      omega
    have nn : 0 ≤ sq := by
      have : ¬ sq < 0 := fun z => e (decide_eq_true z)
      omega
    refine ⟨_, rfl, sq, rfl, nn, Nat.lt_of_lt_of_le sqb (Nat.pow_le_pow_right (by decide) (by decide)), fun g g0 g1 g2 => ?_⟩
    have gb : g.natAbs < 2 ^ 13 := by
      have : g < 8192 := lt_of_sq (by decide) (by
        have z : (2 : Nat) ^ 26 = 67108864 := rfl
        omega)
      show _ < 8192
      omega
    refine ⟨_, rfl, _, rfl, g, g, rfl, rfl, wide_mul gb gb (by decide) (by decide) (by decide), _, rfl, rfl, _, rfl, ?_⟩
    by_cases sqr : g * g = sq
    · rw [show decide (V.int (g * g) = V.int sq) = true from decide_eq_true (congrArg V.int sqr)]
      refine iteF ⟨_, rfl, rfl, _, rfl, ?_⟩
      by_cases a0 : a = 0
      · rw [show decide (V.int a = V.int 0) = true from decide_eq_true (congrArg V.int a0)]
        refine iteT ⟨l2, fun t1 h1 => ⟨_, rfl, _, rfl, l2, fun t2 h2 => ⟨l2, fun t3 h3 => ?_⟩⟩⟩
        have e1 := same_new (o := .tup [.int 0, .int 1]) h1
        have e2 := same_new (o := .tup [.int b, .int c]) h2
        have e3 := same_new (o := .tup [.ref t1, .ref t2]) h3
        exact (q (some ((0, 1), (b, c))) (.inr ⟨g, by rw [sqr, hsq], by rw [if_pos a0]⟩)).2 _ _ rfl t3 (.ref t1) (.ref t2) _ (((s1.trans e1).trans e2).trans e3) upd_same ⟨t1, rfl, SqT.of (e3 _ _ (e2 _ _ upd_same))⟩ ⟨t2, rfl, SqT.of (e3 _ _ upd_same)⟩
      · rw [show decide (V.int a = V.int 0) = false from decide_eq_false fun z => a0 (V.int.inj z)]
        have b2 : (2 : Int).natAbs < 2 ^ 2 := by decide
        refine iteF ⟨_, rfl, 2, a, rfl, rfl, wide_mul b2 ba (by decide) (by decide) (by decide), _, rfl, _, rfl, b, g, rfl, rfl, l2, fun t1 h1 => ⟨_, rfl, 2, a, rfl, rfl, wide_mul b2 ba (by decide) (by decide) (by decide), _, rfl, _, rfl, b, g, rfl, rfl, l2, fun t2 h2 => ⟨l2, fun t3 h3 => ?_⟩⟩⟩
        have e1 := same_new (o := .tup [.int (2 * a), .int (b + g)]) h1
        have e2 := same_new (o := .tup [.int (2 * a), .int (b - g)]) h2
        have e3 := same_new (o := .tup [.ref t1, .ref t2]) h3
        exact (q (some ((2 * a, b + g), (2 * a, b - g))) (.inr ⟨g, by rw [sqr, hsq], by rw [if_neg a0]⟩)).2 _ _ rfl t3 (.ref t1) (.ref t2) _ (((s1.trans e1).trans e2).trans e3) upd_same ⟨t1, rfl, SqT.of (e3 _ _ (e2 _ _ upd_same))⟩ ⟨t2, rfl, SqT.of (e3 _ _ upd_same)⟩
    · rw [show decide (V.int (g * g) = V.int sq) = false from decide_eq_false fun z => sqr (V.int.inj z)]
      exact iteT ((q none (.inl ⟨rfl, fun s0 h => sqr (root_one g0 g1 g2 (h.trans hsq))⟩)).1 rfl _ s1)
end
/-! ### the root and the truth of a heap -/
section
variable {base : Heap} {K : PySem.W.Frag} {mg : Str → Option Value} {P : Program} {w : World}
def spRoot (P : Program) (w : World) (C : Addr) : Sp := fun vs H Q _ => ∃ (p : Addr) (d : Int) (es : DEs), vs = [.ref p] ∧ HeapAt P w C H p d es ∧ Q (.int d) H
theorem ok_Heap_root (T : Txt K mg) : FnOk P w K mg base CX0 1 T.f_Heap_root T.d_Heap_root ["self"] (spRoot P w T.C_Heap) := by
  refine T.F_Heap_root.ok sc_Heap_root (fun vs H Q E h => ?_) (fun cdv A outer s H vs Q E hr h => ?_)
  · obtain ⟨p, d, es, rfl, _⟩ := h
    rfl
  · obtain ⟨p, d, es, rfl, ⟨dx, c, hp, _⟩, q⟩ := h
    exact ⟨_, (pss_one (ps_ret (pe_fld (pv 0) rfl))), _, rfl, p, T.C_Heap, dx, _, _, rfl, hp, T.cl_Heap, T.n_Heap_held_root, rfl, q⟩
def spHBool (P : Program) (w : World) (C : Addr) : Sp := fun vs H Q _ => ∃ (p : Addr) (d : Int) (es : DEs), vs = [.ref p] ∧ HeapAt P w C H p d es ∧ Q (.bl (!es.isEmpty)) H
theorem ok_Heap_bool (T : Txt K mg) : FnOk P w K mg base CX0 1 T.f_Heap_bool T.d_Heap_bool ["self"] (spHBool P w T.C_Heap) := by
  refine T.F_Heap_bool.ok sc_Heap_bool (fun vs H Q E h => ?_) (fun cdv A outer s H vs Q E hr h => ?_)
  · obtain ⟨p, d, es, rfl, _⟩ := h
    rfl
  · obtain ⟨p, d, es, rfl, ⟨dx, c, hp, D⟩, q⟩ := h
    exact ⟨_, (pss_one (ps_ret (pe_callTy call_bool_DS (by rfl) T.n_bool (by decide +kernel) (pa_cons (pe_fld (pv 0) rfl) pa_nil)))), _, rfl, p, T.C_Heap, dx, _, _, rfl, hp, T.cl_Heap, T.n_Heap_copies, rfl, c, es, rfl, D.rd, q⟩
end
/-! ### the truth of an object by its own __bool__ -/
section
variable {X : Cx} {CX : CXT} {C g : Addr} {fd : FuncData} {ps : List Str} {sp : Sp} {E : XK} {n : Nat} {a : Expr} {ta : TE}
theorem pt_own (ha : PE X a ta) (m : Meth X.K C "__bool__" g) (F : FnOk X.prog X.w X.K X.mg X.base CX n g fd ps sp) (hr : Room n X.A) (hb : Binds X.K fd ps []) (hx : Passes CX X E) (he : ∀ whole, isTrue a X.env whole = (do let v ← whole; standAt a.pos; holding [v] (truthy v))) :
    PT X a (fun σ H Q => ta σ H fun x G => ∃ p dx fs, x = .ref p ∧ G p = some (.ins C dx fs) ∧ sp [.ref p] G (fun z G' => ∃ k, z = .bl k ∧ Q k G') E) := by
  constructor
  intro pins s σ H Q I h
  refine isTrue_plain (thn (ha.run pins s σ H _ I h) ?_) (he _)
  rintro v s1 ⟨x, G, I1, rx, p, dx, fs, rfl, hp, q⟩
  obtain rfl : v = Value.ref p := rx
  obtain ⟨ox, od, J⟩ := inst_of I1 hp
  show wpAny _ _ (callSpecial? (.ref p) (Str.ofString "__bool__") [] >>= _) _ _ s1
  refine wpAny_bind (PySem.W.special_fn I1.kIn J m.at_ (beq_iff_eq.mp m.fn) (thn (run_in (us := [.ref p]) (ws := [.ref p]) F hr I1.env0 hb hx I1 (.cons rfl .nil) q) ?_))
  rintro y s2 ⟨z, G', I2, ry, k, rfl, qk⟩
  obtain rfl : y = Value.bool k := ry
  exact wpAny_pure ⟨G', I2, qk⟩
end
/-! ### the sides of a heap that is one sheet -/
section
variable {base : Heap} {K : PySem.W.Frag} {mg : Str → Option Value} {P : Program} {w : World}
theorem fac_ok {r : Int} {turn : Bool} {t : P4} {p q : P2} (hd : IsRoot r) (pos : Pos4 r t) (bd : Bd 10 [t.1, t.2.1, t.2.2.1, t.2.2.2]) (h : FacOf turn t (some (p, q))) :
    (¬ (p.1 = 0 ∧ p.2 = 0) ∧ p.1.natAbs < 2 ^ 20 ∧ p.2.natAbs < 2 ^ 20) ∧ (¬ (q.1 = 0 ∧ q.2 = 0) ∧ q.1.natAbs < 2 ^ 20 ∧ q.2.natAbs < 2 ^ 20) := by
  obtain ⟨a, b, c, d⟩ := t
  have n0 := pos_not0 hd pos
  have ba := bd a (by simp)
  have bb := bd b (by simp)
  have bc := bd c (by simp)
  have be := bd d (by simp)
  have z10 : (2 : Nat) ^ 10 = 1024 := rfl
  have z20 : (2 : Nat) ^ 20 = 1048576 := rfl
  rw [z10] at ba bb bc be
  rw [z20]
  cases turn with
  | false =>
    simp only [FacOf, Bool.false_eq_true, if_false] at h
    unfold plainF at h
    by_cases det : a * d - b * c ≠ 0
    · rw [if_pos det] at h
      cases h
    · rw [if_neg det, Option.some.injEq, Prod.mk.injEq] at h
      obtain ⟨rfl, rfl⟩ := h
      simp only
      have np := nz_cases (a, c) (b, d) fun z => n0 ⟨congrArg Prod.fst z.1, congrArg Prod.fst z.2, congrArg Prod.snd z.1, congrArg Prod.snd z.2⟩
      have nq := nz_cases (a, b) (c, d) fun z => n0 ⟨congrArg Prod.fst z.1, congrArg Prod.snd z.1, congrArg Prod.fst z.2, congrArg Prod.snd z.2⟩
      refine ⟨⟨fun z => np.2 (Prod.ext z.1 z.2), ?_⟩, ⟨fun z => nq.2 (Prod.ext z.1 z.2), ?_⟩⟩
      · rcases np.1 with e | e <;> rw [e] <;> constructor <;> simp only <;> omega
      · rcases nq.1 with e | e <;> rw [e] <;> constructor <;> simp only <;> omega
  | true =>
    simp only [FacOf, if_true] at h
    rcases h with ⟨e, _⟩ | ⟨s, sq, e⟩
    · cases e
    · rw [Option.some.injEq] at e
      generalize hB : b + c = m at sq e
      by_cases a0 : a = 0
      · rw [if_pos a0, Prod.mk.injEq] at e
        obtain ⟨rfl, rfl⟩ := e
        refine ⟨⟨by simp, by decide, by decide⟩, ⟨fun z => ?_, by simp only; omega, by simp only; omega⟩⟩
        simp only at z
        refine sg_one hd pos ⟨?_, ?_⟩
        · show a + r * d = 0
          rw [a0, z.2, Int.mul_zero]
          rfl
        · show b + c = 0
          rw [hB]
          exact z.1
      · rw [if_neg a0, Prod.mk.injEq] at e
        obtain ⟨rfl, rfl⟩ := e
        have sb : s.natAbs < 8192 := by
          have e1 : (s.natAbs : Int) * (s.natAbs : Int) = s * s := Int.natAbs_mul_self' s
          have x1 : (m * m).natAbs ≤ 2048 * 2048 := by rw [Int.natAbs_mul]; exact Nat.mul_le_mul (by omega) (by omega)
          have x2 : (4 * a * d).natAbs ≤ 4096 * 1024 := by rw [Int.natAbs_mul]; exact Nat.mul_le_mul (by omega) (by omega)
          have : (s.natAbs : Int) < 8192 := lt_of_sq (by decide) (by rw [e1, sq]; omega)
          omega
        refine ⟨⟨fun z => ?_, ?_, ?_⟩, ⟨fun z => ?_, ?_, ?_⟩⟩ <;> simp only at * <;> omega
/-- the table of a heap -/
def tabH (es : DEs) : P4 := (wsum f00 es, wsum f01 es, wsum f10 es, wsum f11 es)
/-- what is asked of a heap -/
structure OneH (d : Int) (es : DEs) : Prop where
  root : IsRoot d
  small : Small es
  pos : Pos4 d (tabH es)
  bd : Bd 10 [(tabH es).1, (tabH es).2.1, (tabH es).2.2.1, (tabH es).2.2.2]
  le : ∀ turn, gcdL (marksT turn (tabH es)) ≤ 200
theorem OneH.some {d : Int} {es : DEs} (h : OneH d es) : es.isEmpty = false := by
  cases es with
  | nil => exact absurd ⟨rfl, rfl, rfl, rfl⟩ (pos_not0 h.root h.pos)
  | cons e es => rfl
theorem choose_fac {C : Addr} {H : Hp} {σ : L2.St} {tp : Addr} {turn : Bool} {t : P4} {Q : VK} (hs : σ[2]? = some (some (.ref tp))) (hT : TabAt C H tp t.1 t.2.1 t.2.2.1 t.2.2.2) (bd : Bd 10 [t.1, t.2.1, t.2.2.1, t.2.2.2]) (h : ∀ o, FacOf turn t o → GiveF K H Q o) :
    if turn = true then tCall (spTurn K C) [] E0 (tCons (tVar 2) tNil) σ H Q else tCall (spPlain K C) [] E0 (tCons (tVar 2) tNil) σ H Q := by
  cases turn with
  | true => exact iteT ⟨_, hs, tp, _, _, _, _, rfl, hT, bd, fun o ho => h o ho⟩
  | false =>
    have g := h (plainF t) rfl
    exact iteF ⟨_, hs, tp, _, _, _, _, rfl, hT, (fun z hz => Nat.lt_of_lt_of_le (bd z hz) (by decide)), g.1, g.2⟩
def GotSides (H : Hp) (turn : Bool) (d : Int) (es : DEs) (Q : VK) : Prop := (FacOf turn (tabH es) none → ∀ H', Same H H' → Q .non H') ∧
  ∀ u v, Sides turn d (tabH es) u v → u.1.natAbs < 2 ^ 20 → u.2.natAbs < 2 ^ 20 → v.1.natAbs < 2 ^ 20 → v.2.natAbs < 2 ^ 20 → ∀ t p q H', Same H H' → H' t = some (.tup [.ref p, .ref q]) → H' p = some (.tup [.int u.1, .int u.2]) → H' q = some (.tup [.int v.1, .int v.2]) → Q (.ref t) H'
def spSide (P : Program) (w : World) (C : Addr) : Sp := fun vs H Q _ => ∃ (p : Addr) (d : Int) (es : DEs) (turn : Bool), vs = [.ref p, .bl turn] ∧ HeapAt P w C H p d es ∧ OneH d es ∧ GotSides H turn d es Q
theorem ok_single_sides (T : Txt K mg) : FnOk P w K mg base CX0 5 T.f_single_sides T.d_single_sides ["heap", "turning"] (spSide P w T.C_Heap) := by
  refine T.F_single_sides.ok sc_single_sides (fun vs H Q E h => ?_) (fun cdv A outer s H vs Q E hr h => ?_)
  · obtain ⟨p, d, es, turn, rfl, _⟩ := h
    rfl
  · obtain ⟨p, d, es, turn, rfl, hA, one, q0, q1⟩ := h
    refine ⟨_, (pss_cons (ps_if (pt_not (pt_own (pv 0) T.m_Heap_bool (ok_Heap_bool T) (hr.mono (by decide)) T.b_Heap_bool pass0 (fun _ => rfl))) (pss_one (ps_ret pe_non)) pss_nil)
      (pss_cons (ps_set (i := 2) sc_single_sides.nd rfl (Or.inl rfl) (pe_meth0 (pv 0) T.cl_Heap T.m_Heap_table (ok_Heap_table T) (hr.mono (by decide)) T.b_Heap_table .nil pass0))
      (pss_cons (ps_set (i := 3) sc_single_sides.nd rfl (Or.inl rfl) (pe_ifExp (pt_val (pv 1)) (pe_call (ok_turning_factors T) (hr.mono (by decide)) (by rfl) T.g_turning_factors T.F_turning_factors.kp T.b_turning_factors .nil pass0 (pa_cons (pv 2) pa_nil)) (pe_call (ok_plain_factors T) (hr.mono (by decide)) (by rfl) T.g_plain_factors T.F_plain_factors.kp T.b_plain_factors .nil pass0 (pa_cons (pv 2) pa_nil))))
      (pss_cons (ps_if (pt_cmpR op_isN (pv 3) pe_non (nomark _)) (pss_one (ps_ret pe_non)) pss_nil)
      (pss_cons (ps_asg (pv 3) (pg_tup (by rfl) (pgs_cons (pg_name (i := 4) sc_single_sides.nd rfl (Or.inl rfl)) (pgs_cons (pg_name (i := 5) sc_single_sides.nd rfl (Or.inl rfl)) pgs_nil))))
      (pss_one (ps_ret (pe_tup (pa_cons (pe_call (ok_upright T) (hr.mono (by decide)) (by rfl) T.g_upright T.F_upright.kp T.b_upright .nil pass0 (pa_cons (pv 4) (pa_cons (pe_prop (pv 0) T.cl_Heap T.pr_Heap_root (ok_Heap_root T) (hr.mono (by decide)) T.b_Heap_root .nil pass0 rfl) pa_nil))) (pa_cons (pe_call (ok_upright T) (hr.mono (by decide)) (by rfl) T.g_upright T.F_upright.kp T.b_upright .nil pass0 (pa_cons (pv 5) (pa_cons (pe_prop (pv 0) T.cl_Heap T.pr_Heap_root (ok_Heap_root T) (hr.mono (by decide)) T.b_Heap_root .nil pass0 rfl) pa_nil))) pa_nil)))))))))), ?_⟩
    obtain ⟨dx, c, hp, D⟩ := id hA
    have l2 : 2 ≤ sizeLine := by rw [sizeLine_eq]; decide
    refine ⟨_, rfl, p, dx, _, rfl, hp, p, d, es, rfl, hA, _, rfl, ?_⟩
    rw [one.some]
    refine iteF ⟨_, rfl, p, dx, _, rfl, hp, rfl, p, d, es, rfl, hA, one.small, fun t H1 n1 s1 hT => ?_⟩
    refine ⟨_, rfl, turn, rfl, choose_fac (t := tabH es) rfl hT one.bd fun o ho => ⟨fun e H2 s2 => ?_, fun x y e t2 u v H2 s2 ht hu hv => ?_⟩⟩
    · subst e
      exact ⟨_, rfl, rfl, _, rfl, iteT (q0 ho _ (s1.trans s2))⟩
    · subst e
      have s12 := s1.trans s2
      obtain ⟨⟨px, bx1, bx2⟩, ⟨py, by1, by2⟩⟩ := fac_ok one.root one.pos one.bd ho
      obtain ⟨hp2, hA2⟩ := And.intro (s12 _ _ hp) (hA.same s12)
      refine ⟨_, rfl, rfl, _, rfl, iteF ⟨_, rfl, t2, _, rfl, SqT.of ht, rfl, u, _, rfl, v, _, rfl, rfl, ?_⟩⟩
      refine ⟨_, rfl, _, rfl, p, dx, _, rfl, hp2, p, d, es, rfl, hA2, u, d, x.1, x.2, rfl, hu, one.root, bx1, bx2, px, fun u0 u1 up b1 b2 p1 H3 n3 s3 h3 => ?_⟩
      refine ⟨_, rfl, _, rfl, p, dx, _, rfl, s3 _ _ hp2, p, d, es, rfl, hA2.same s3, v, d, y.1, y.2, rfl, hv.same s3, one.root, by1, by2, py, fun v0 v1 vp b3 b4 p2 H4 n4 s4 h4 => ?_⟩
      refine ⟨l2, fun t5 h5 => ?_⟩
      have s5 := same_new (o := .tup [.ref p1, .ref p2]) h5
      have S : Sides turn d (tabH es) (u0, u1) (v0, v1) := by
        cases turn with
        | true => exact turn_sides one.root one.pos ho up vp
        | false => exact plain_sides one.root one.pos (show plainF (tabH es) = some (x, y) from Eq.symm ho) up vp
      exact q1 (u0, u1) (v0, v1) S b1 b2 b3 b4 t5 p1 p2 _ ((s12.trans s3).trans (s4.trans s5)) upd_same (s5 _ _ (s4 _ _ h3)) (s5 _ _ h4)
end
/-! ### the divisor of a heap, the fewest sheets, the divisors of a number -/
section
variable {base : Heap} {K : PySem.W.Frag} {mg : Str → Option Value} {P : Program} {w : World}
def spDivOf (P : Program) (w : World) (C : Addr) : Sp := fun vs H Q _ => ∃ (p : Addr) (d : Int) (es : DEs) (turn : Bool), vs = [.ref p, .bl turn] ∧ HeapAt P w C H p d es ∧ OneH d es ∧ ∀ H', Same H H' → Q (.int (gcdL (marksT turn (tabH es)))) H'
theorem ok_divisor_of (T : Txt K mg) : FnOk P w K mg base CX0 5 T.f_divisor_of T.d_divisor_of ["heap", "turning"] (spDivOf P w T.C_Heap) := by
  refine T.F_divisor_of.ok sc_divisor_of (fun vs H Q E h => ?_) (fun cdv A outer s H vs Q E hr h => ?_)
  · obtain ⟨p, d, es, turn, rfl, _⟩ := h
    rfl
  · obtain ⟨p, d, es, turn, rfl, hA, one, q⟩ := h
    refine ⟨_, (pss_one (ps_ret (pe_call (ok_common_divisor T) (hr.mono (by decide)) (by rfl) T.g_common_divisor T.F_common_divisor.kp T.b_common_divisor .nil pass0 (pa_cons (pe_methK0 (pe_meth0 (pv 0) T.cl_Heap T.m_Heap_table (ok_Heap_table T) (hr.mono (by decide)) T.b_Heap_table .nil pass0) T.cl_Table T.m_Table_marks (ok_Table_marks T) (hr.mono (by decide)) T.kb_Table_marks_turning pass0 (pk_cons (pv 1) pk_nil)) pa_nil)))), ?_⟩
    obtain ⟨dx, c, hp, D⟩ := id hA
    refine ⟨_, rfl, p, dx, _, rfl, hp, rfl, p, d, es, rfl, hA, one.small, fun t H1 n1 s1 hT => ?_⟩
    obtain ⟨dxt, tt, ht, hc⟩ := id hT
    refine ⟨t, dxt, _, rfl, ht, nc (by decide +kernel), _, rfl, rfl, t, _, _, _, _, turn, rfl, hT, fun m H2 n2 s2 hm => ?_⟩
    refine ⟨m, marksT turn (tabH es), rfl, SqT.of ?_, q _ (s1.trans s2)⟩
    rw [hm]
    cases turn <;> rfl
def spFewest (P : Program) (w : World) (C : Addr) : Sp := fun vs H Q _ => ∃ (p : Addr) (d : Int) (es : DEs) (turn : Bool), vs = [.ref p, .bl turn] ∧ HeapAt P w C H p d es ∧ OneH d es ∧
  ((FacOf turn (tabH es) none → ∀ H', Same H H' → Q (.int 2) H') ∧ ∀ u v, Sides turn d (tabH es) u v → ∀ H', Same H H' → Q (.int 1) H')
theorem ok_fewest_sheets (T : Txt K mg) : FnOk P w K mg base CX0 6 T.f_fewest_sheets T.d_fewest_sheets ["heap", "turning"] (spFewest P w T.C_Heap) := by
  refine T.F_fewest_sheets.ok sc_fewest_sheets (fun vs H Q E h => ?_) (fun cdv A outer s H vs Q E hr h => ?_)
  · obtain ⟨p, d, es, turn, rfl, _⟩ := h
    rfl
  · obtain ⟨p, d, es, turn, rfl, hA, one, q0, q1⟩ := h
    refine ⟨_, (pss_cons (ps_if (pt_not (pt_own (pv 0) T.m_Heap_bool (ok_Heap_bool T) (hr.mono (by decide)) T.b_Heap_bool pass0 (fun _ => rfl))) (pss_one (ps_ret pe_int)) pss_nil)
      (pss_one (ps_ret (pe_ifExp (pt_cmpR op_isN (pe_call (ok_single_sides T) (hr.mono (by decide)) (by rfl) T.g_single_sides T.F_single_sides.kp T.b_single_sides .nil pass0 (pa_cons (pv 0) (pa_cons (pv 1) pa_nil))) pe_non (nomark _)) pe_int pe_int)))), ?_⟩
    obtain ⟨dx, c, hp, D⟩ := id hA
    refine ⟨_, rfl, p, dx, _, rfl, hp, p, d, es, rfl, hA, _, rfl, ?_⟩
    rw [one.some]
    refine iteF ⟨_, rfl, _, rfl, p, d, es, turn, rfl, hA, one, fun h H1 s1 => ?_, fun u v S _ _ _ _ t p2 q2 H1 s1 _ _ _ => ?_⟩
    · exact ⟨rfl, _, rfl, iteT (q0 h _ s1)⟩
    · exact ⟨rfl, _, rfl, iteF (q1 u v S _ s1)⟩
/-- what is found of the divisors of n below sm and their others -/
def Found (n sm : Int) (ds : List Int) : Prop := ∀ e, e ∈ ds ↔ ∃ k, 0 < k ∧ k < sm ∧ k ∣ n ∧ (e = k ∨ e = n / k)
theorem found_all {n sm : Int} {ds : List Int} (n0 : 0 < n) (s0 : 0 < sm) (h : Found n sm ds) (out : n < sm * sm) (e : Int) : e ∈ ds ↔ 0 < e ∧ e ∣ n := by
  rw [h e]
  constructor
  · rintro ⟨k, k0, _, ⟨j, hj⟩, rfl | rfl⟩
    · exact ⟨k0, j, hj⟩
    · have ej : n / k = j := by rw [hj]; exact Int.mul_ediv_cancel_left j (Int.ne_of_gt k0)
      rw [ej]
      refine ⟨?_, k, by rw [hj]; exact Int.mul_comm _ _⟩
      rcases Int.lt_or_le 0 j with z | z
      · exact z
      · have := Int.mul_le_mul_of_nonneg_left z (Int.le_of_lt k0)
        omega
  · rintro ⟨e0, j, hj⟩
    by_cases c : e < sm
    · exact ⟨e, e0, c, ⟨j, hj⟩, .inl rfl⟩
    · have j0 : 0 < j := by
        rcases Int.lt_or_le 0 j with z | z
        · exact z
        · have := Int.mul_le_mul_of_nonneg_left z (Int.le_of_lt e0)
          omega
      have js : j < sm := by
        rcases Int.lt_or_le j sm with z | z
        · exact z
        · have := Int.mul_le_mul (show sm ≤ e by omega) z (Int.le_of_lt s0) (Int.le_of_lt e0)
          omega
      exact ⟨j, j0, js, ⟨e, by rw [hj]; exact Int.mul_comm _ _⟩, .inr (by rw [hj]; exact (Int.mul_ediv_cancel e (Int.ne_of_gt j0)).symm)⟩
theorem found_no {n sm : Int} {ds : List Int} (h : Found n sm ds) (no : ¬ sm ∣ n) : Found n (sm + 1) ds := fun e => by
  rw [h e]
  constructor
  · rintro ⟨k, k0, k1, r⟩
    exact ⟨k, k0, by omega, r⟩
  · rintro ⟨k, k0, k1, kd, r⟩
    refine ⟨k, k0, ?_, kd, r⟩
    rcases Int.lt_or_eq_of_le (show k ≤ sm by omega) with z | z
    · exact z
    · exact absurd (z ▸ kd) no
theorem found_yes {n sm : Int} {ds : List Int} (s0 : 0 < sm) (h : Found n sm ds) (yes : sm ∣ n) : Found n (sm + 1) (ds ++ [sm] ++ [n / sm]) := fun e => by
  rw [List.mem_append, List.mem_append, List.mem_singleton, List.mem_singleton, h e]
  constructor
  · rintro ((⟨k, k0, k1, r⟩ | z) | z)
    · exact ⟨k, k0, by omega, r⟩
    · exact ⟨sm, s0, by omega, yes, .inl z⟩
    · exact ⟨sm, s0, by omega, yes, .inr z⟩
  · rintro ⟨k, k0, k1, kd, r⟩
    rcases Int.lt_or_eq_of_le (show k ≤ sm by omega) with z | z
    · exact .inl (.inl ⟨k, k0, z, kd, r⟩)
    · subst z
      rcases r with r | r
      · exact .inl (.inr r)
      · exact .inr r
def DivW (n : Int) (l : Addr) (H : Hp) (m : Nat) (σ : L2.St) (H' : Hp) : Prop := ∃ (sm : Int) (ds : List Int), σ = [some (.int n), some (.ref l), some (.int sm)] ∧ Same H H' ∧ H' l = some (.lst (ds.map V.int)) ∧ 1 ≤ sm ∧ sm ≤ 15 ∧ (ds.length : Int) ≤ 2 * (sm - 1) ∧ Found n sm ds ∧ m = (16 - sm).toNat
theorem app_int (ds : List Int) (k : Int) : ds.map V.int ++ [V.int k] = (ds ++ [k]).map V.int := by rw [List.map_append]; rfl
def spDivs : Sp := fun vs H Q _ => ∃ n : Int, vs = [.int n] ∧ 0 < n ∧ n ≤ 200 ∧ ∀ l H' (ds : List Int), H l = none → Same H H' → H' l = some (.lst (ds.map V.int)) → (∀ e, e ∈ ds ↔ 0 < e ∧ e ∣ n) → ds.length ≤ 28 → Q (.ref l) H'
theorem ok_divisors (T : Txt K mg) : FnOk P w K mg base CX0 1 T.f_divisors T.d_divisors ["number"] spDivs := by
  refine T.F_divisors.ok sc_divisors (fun vs H Q E h => ?_) (fun cdv A outer s H vs Q E hr h => ?_)
  · obtain ⟨n, rfl, _⟩ := h
    rfl
  · obtain ⟨n, rfl, n0, n1, q⟩ := h
    refine ⟨_, (pss_cons (ps_set (i := 1) sc_divisors.nd rfl (Or.inl rfl) (pe_lst pa_nil))
      (pss_cons (ps_set (i := 2) sc_divisors.nd rfl (Or.inl rfl) pe_int)
      (pss_cons (ps_while PassesOwn.never (pt_cmpR op_le (pe_op op_mulW (pv 2) (pv 2)) (pv 0) (nomark _)) (pss_cons (ps_if (pt_cmpR op_eq (pe_op op_mod (pv 0) (pv 2)) pe_int (nomark _)) (pss_cons (ps_expr (pe_bm PySem.F.plainAttrs_list PySem.F.slot_list_append PySem.F.type_list_append mt_append (pv 1) (pa_cons (pv 2) pa_nil)))
      (pss_one (ps_expr (pe_bm PySem.F.plainAttrs_list PySem.F.slot_list_append PySem.F.type_list_append mt_append (pv 1) (pa_cons (pe_op op_fdiv (pv 0) (pv 2)) pa_nil))))) pss_nil)
      (pss_one (ps_aug (i := 2) sc_divisors.nd rfl (Or.inl rfl) pe_int ip_add))))
      (pss_one (ps_ret (pv 1)))))), ?_⟩
    refine ⟨Nat.zero_le _, fun l hl => ?_⟩
    refine ⟨DivW n l H, ⟨_, 1, [], rfl, same_new hl, upd_same, by decide, by decide, by decide, (fun e => ⟨fun z => (by cases z), fun ⟨k, k0, k1, _⟩ => absurd k0 (by omega)⟩), rfl⟩, ?_⟩
    rintro m σ G ⟨sm, ds, rfl, s1, hL, a1, a2, ln, fd, rfl⟩
    have bs : sm.natAbs < 2 ^ 4 := by show _ < 16; omega
    refine ⟨_, rfl, _, rfl, sm, sm, rfl, rfl, wide_mul bs bs (by decide) (by decide) (by decide), _, rfl, _, n, rfl, rfl, _, rfl, ite2 (fun e => ?_) (fun e => ?_)⟩
    · have le : sm * sm ≤ n := of_decide_eq_true e
      have s14 : sm ≤ 14 := by
        rcases Int.lt_or_le 14 sm with z | z
        · have := sq_le (show (0 : Int) ≤ 15 by decide) (show 15 ≤ sm by omega)
          omega
        · exact z
      refine ⟨fun σ' G' => ∃ m', m' < (16 - sm).toNat ∧ DivW n l H m' σ' G', fun _ _ z => z, ?_⟩
      refine ⟨_, rfl, _, rfl, n, sm, rfl, rfl, by omega, rfl, _, rfl, ?_⟩
      have up : ∀ {G' : Hp} (xs : List V), Same H G' → Same H (upd G' l (.lst xs)) := fun xs s a o z => (upd_ne (ne_of_none z hl)).trans (s a o z)
      have small : ∀ k : Nat, k ≤ 100 → k < sizeLine := fun k h => by rw [sizeLine_eq]; omega
      by_cases dv : n % sm = 0
      · rw [show decide (V.int (n % sm) = V.int 0) = true from decide_eq_true (congrArg V.int dv)]
        refine iteT ?_
        refine ⟨_, rfl, .inl ⟨rfl, _, SqL.of hL⟩, _, rfl, l, _, _, rfl, rfl, hL, small _ (by rw [List.length_map]; omega), ?_⟩
        refine ⟨_, rfl, .inl ⟨rfl, _, SqL.of upd_same⟩, _, rfl, _, rfl, n, sm, rfl, rfl, ⟨by omega, by omega⟩, l, _, _, rfl, rfl, upd_same, small _ (by rw [List.length_append, List.length_map]; simp only [List.length_singleton]; omega), ?_⟩
        refine ⟨_, rfl, _, _, rfl, rfl, ?_⟩
        refine ⟨(16 - (sm + 1)).toNat, by omega, sm + 1, ds ++ [sm] ++ [n / sm], rfl, up _ (up _ s1), by rw [upd_same, app_int, app_int], by omega, by omega, ?_, found_yes (by omega) fd (Int.dvd_of_emod_eq_zero dv), rfl⟩
        rw [List.length_append, List.length_append]
        simp only [List.length_singleton]
        omega
      · rw [show decide (V.int (n % sm) = V.int 0) = false from decide_eq_false fun z => dv (V.int.inj z)]
        refine iteF ⟨_, rfl, _, _, rfl, rfl, ?_⟩
        exact ⟨(16 - (sm + 1)).toNat, by omega, sm + 1, ds, rfl, s1, hL, by omega, by omega, by omega, found_no fd (fun z => dv (Int.emod_eq_zero_of_dvd z)), rfl⟩
    · have out : n < sm * sm := by
        have : ¬ sm * sm ≤ n := fun z => e (decide_eq_true z)
        omega
      exact ⟨_, rfl, q l G ds hl s1 hL (found_all (by omega) (by omega) fd out) (by omega)⟩
end
/-! ### the single sheets of a heap -/
section
variable {base : Heap} {K : PySem.W.Frag} {mg : Str → Option Value} {P : Program} {w : World}
def spTurned (K : PySem.W.Frag) : Sp := fun vs H Q _ => ∃ (p : Addr) (x : Sh), vs = [.ref p] ∧ ShAt H p x ∧ ∀ q H', H q = none → Same H H' → ShAt H' q (x.2.2.1, x.2.2.2, x.1, x.2.1) → Q (.ref q) H'
theorem ok_turned (T : Txt K mg) : FnOk P w K mg base CX0 1 T.f_turned T.d_turned ["sheet"] (spTurned K) := by
  refine T.F_turned.ok sc_turned (fun vs H Q E h => ?_) (fun cdv A outer s H vs Q E hr h => ?_)
  · obtain ⟨p, x, rfl, _⟩ := h
    rfl
  · obtain ⟨p, x, rfl, ⟨u, v, h1, h2, h3⟩, q⟩ := h
    refine ⟨_, (pss_cons (ps_asg (pv 0) (pg_tup (by rfl) (pgs_cons (pg_name (i := 1) sc_turned.nd rfl (Or.inl rfl)) (pgs_cons (pg_name (i := 2) sc_turned.nd rfl (Or.inl rfl)) pgs_nil))))
      (pss_one (ps_ret (pe_tup (pa_cons (pv 2) (pa_cons (pv 1) pa_nil)))))), ?_⟩
    refine ⟨_, rfl, p, _, rfl, SqT.of h1, rfl, .ref u, _, rfl, .ref v, _, rfl, rfl, ?_⟩
    refine ⟨_, rfl, _, rfl, by show 2 ≤ sizeLine; decide, fun t ht => ?_⟩
    have s1 := same_new (o := .tup [.ref v, .ref u]) ht
    exact q t _ ht s1 ⟨v, u, upd_same, s1 _ _ h3, s1 _ _ h2⟩
/-- the sheets that a heap's sides give -/
def AllMade (turn : Bool) (u v : P2) (c : Int) (L : List Sh) : Prop := ∀ x, x ∈ L ↔ Made turn u v c x
def ShsL (H : Hp) (l : Addr) (ks : List (Sh × Addr)) : Prop := H l = some (.lst (ks.map fun y : Sh × Addr => V.ref y.2)) ∧ ∀ y ∈ ks, ShAt H y.2 y.1
theorem shs_more {H0 G G' : Hp} {L t : Addr} {ks : List (Sh × Addr)} {x : Sh} (hL : H0 L = none) (s0 : Same H0 G) (R : ShsL G L ks) (g : Same G G') (ht : ShAt G' t x) :
    G' L = some (.lst (ks.map fun y : Sh × Addr => V.ref y.2)) ∧ Same H0 (upd G' L (.lst ((ks.map fun y : Sh × Addr => V.ref y.2) ++ [.ref t]))) ∧ ShsL (upd G' L (.lst ((ks.map fun y : Sh × Addr => V.ref y.2) ++ [.ref t]))) L (ks ++ [(x, t)]) := by
  have e := g _ _ R.1
  have k : ∀ p xs, G' p = some (.tup xs) → upd G' L (.lst ((ks.map fun y : Sh × Addr => V.ref y.2) ++ [.ref t])) p = some (.tup xs) := fun p xs z => by
    refine (upd_ne ?_).trans z
    rintro rfl
    rw [e] at z
    cases z
  refine ⟨e, fun a o z => (upd_ne (ne_of_none z hL)).trans (g _ _ (s0 _ _ z)), by rw [upd_same, List.map_append]; rfl, fun y hy => ?_⟩
  rcases List.mem_append.mp hy with hy | hy
  · exact ((R.2 y hy).same g).mono k
  · rw [List.mem_singleton.mp hy]
    exact ht.mono k
theorem ShsL.same {H H' : Hp} {l : Addr} {ks : List (Sh × Addr)} (R : ShsL H l ks) (s : Same H H') : ShsL H' l ks := ⟨s _ _ R.1, fun y hy => (R.2 y hy).same s⟩
def mkS (u v : P2) (c e : Int) : Sh := (u.1 * e, u.2 * e, v.1 * (c / e), v.2 * (c / e))
def turnS (x : Sh) : Sh := (x.2.2.1, x.2.2.2, x.1, x.2.1)
/-- what is found, by the divisors -/
theorem made_of {turn : Bool} {u v : P2} {c : Int} {ds : List Int} (c0 : 0 < c) (hd : ∀ e, e ∈ ds ↔ 0 < e ∧ e ∣ c) : AllMade turn u v c (ds.map (mkS u v c) ++ if turn = true then (ds.map (mkS u v c)).map turnS else []) := by
  have dv : ∀ e, 0 < e → e ∣ c → 0 < c / e ∧ e * (c / e) = c := fun e e0 ⟨j, hj⟩ => by
    have ej : c / e = j := by rw [hj]; exact Int.mul_ediv_cancel_left j (Int.ne_of_gt e0)
    rw [ej]
    refine ⟨?_, hj.symm⟩
    rcases Int.lt_or_le 0 j with z | z
    · exact z
    · have := Int.mul_le_mul_of_nonneg_left z (Int.le_of_lt e0)
      omega
  intro x
  constructor
  · intro h
    rcases List.mem_append.mp h with h | h
    · obtain ⟨e, he, rfl⟩ := List.mem_map.mp h
      obtain ⟨e0, ed⟩ := (hd e).mp he
      obtain ⟨f0, ef⟩ := dv e e0 ed
      exact ⟨e, c / e, e0, f0, ef, .inl (by simp only [mkS, Int.mul_comm])⟩
    · cases turn with
      | false => cases h
      | true =>
        rw [if_pos rfl] at h
        obtain ⟨y, hy, rfl⟩ := List.mem_map.mp h
        obtain ⟨e, he, rfl⟩ := List.mem_map.mp hy
        obtain ⟨e0, ed⟩ := (hd e).mp he
        obtain ⟨f0, ef⟩ := dv e e0 ed
        exact ⟨c / e, e, f0, e0, by rw [Int.mul_comm]; exact ef, .inr ⟨rfl, by simp only [mkS, turnS, Int.mul_comm]⟩⟩
  · rintro ⟨e, f, e0, f0, ef, h⟩
    have ce : c / e = f := by rw [← ef]; exact Int.mul_ediv_cancel_left f (Int.ne_of_gt e0)
    have cf : c / f = e := by rw [← ef]; exact Int.mul_ediv_cancel e (Int.ne_of_gt f0)
    rcases h with rfl | ⟨rfl, rfl⟩
    · refine List.mem_append_left _ (List.mem_map.mpr ⟨e, (hd e).mpr ⟨e0, f, ef.symm⟩, ?_⟩)
      simp only [mkS, ce, Int.mul_comm]
    · rw [if_pos rfl]
      refine List.mem_append_right _ (List.mem_map.mpr ⟨mkS u v c f, List.mem_map.mpr ⟨f, (hd f).mpr ⟨f0, e, by rw [← ef]; exact Int.mul_comm _ _⟩, rfl⟩, ?_⟩)
      simp only [mkS, turnS, cf, Int.mul_comm]
def GotSheets (H : Hp) (turn : Bool) (d : Int) (es : DEs) (Q : VK) : Prop := (FacOf turn (tabH es) none → ∀ l H', H l = none → Same H H' → ShsL H' l [] → Q (.ref l) H') ∧
  ∀ u v, Sides turn d (tabH es) u v → ∀ l H' (ks : List (Sh × Addr)), H l = none → Same H H' → ShsL H' l ks → AllMade turn u v (gcdL (marksT turn (tabH es))) (ks.map Prod.fst) → (ks.map Prod.fst).Nodup → (ks.Pairwise fun a b => leS a.1 b.1 = true) → ks.length < 64 → Q (.ref l) H'
def spSheets (P : Program) (w : World) (C : Addr) : Sp := fun vs H Q _ => ∃ (p : Addr) (d : Int) (es : DEs) (turn : Bool), vs = [.ref p, .bl turn] ∧ HeapAt P w C H p d es ∧ OneH d es ∧ GotSheets H turn d es Q
theorem ok_single_sheets (T : Txt K mg) : FnOk P w K mg base CX0 6 T.f_single_sheets T.d_single_sheets ["heap", "turning"] (spSheets P w T.C_Heap) := by
  refine T.F_single_sheets.ok sc_single_sheets (fun vs H Q E h => ?_) (fun cdv A outer s H vs Q E hr h => ?_)
  · obtain ⟨p, d, es, turn, rfl, _⟩ := h
    rfl
  · obtain ⟨p, d, es, turn, rfl, hA, one, q0, q1⟩ := h
    refine ⟨_, (pss_cons (ps_set (i := 2) sc_single_sheets.nd rfl (Or.inl rfl) (pe_call (ok_single_sides T) (hr.mono (by decide)) (by rfl) T.g_single_sides T.F_single_sides.kp T.b_single_sides .nil pass0 (pa_cons (pv 0) (pa_cons (pv 1) pa_nil))))
      (pss_cons (ps_if (pt_cmpR op_isN (pv 2) pe_non (nomark _)) (pss_one (ps_ret (pe_lst pa_nil))) pss_nil)
      (pss_cons (ps_set (i := 3) sc_single_sheets.nd rfl (Or.inr rfl) (pe_call (ok_divisor_of T) (hr.mono (by decide)) (by rfl) T.g_divisor_of T.F_divisor_of.kp T.b_divisor_of .nil pass0 (pa_cons (pv 0) (pa_cons (pv 1) pa_nil))))
      (pss_cons (ps_if (pt_cmpR op_gt (pv 3) (pe_glob (v := .int (1000000)) (by rfl) T.g_MOST_DIVISOR T.rv_MOST_DIVISOR) (nomark _)) (pss_one ps_dead) pss_nil)
      (pss_cons (ps_asg (pv 2) (pg_tup (by rfl) (pgs_cons (pg_name (i := 5) sc_single_sheets.nd rfl (Or.inr rfl)) (pgs_cons (pg_name (i := 6) sc_single_sheets.nd rfl (Or.inr rfl)) pgs_nil))))
      (pss_cons (ps_setLc (i := 4) (own := [("part", 7)]) (g := (gName 7)) (tt := tYes) (by rfl) sc_single_sheets.nd rfl rfl (sw_true rfl rfl rfl (by decide +kernel)) (pi_list (pe_call (ok_divisors T) (hr.mono (by decide)) (by rfl) T.g_divisors T.F_divisors.kp T.b_divisors .nil pass0 (pa_cons (pv 3) pa_nil))) (blkOk_by (own := [("part", 7)]) (N := ["heap", "turning", "sides", "whole", "found", "across", "along", "part", "sheet"]) (sc := defScope s_single_sheets) (by decide +kernel)) (fun _ _ _ _ _ => (pg_name (i := 7) sc_single_sheets.nd rfl (Or.inl rfl))) (fun _ _ _ _ _ => pts_nil) (fun _ _ _ _ _ => (pe_tup (pa_cons (pe_call (ok_scaled T) (hr.mono (by decide)) (by rfl) T.g_scaled T.F_scaled.kp T.b_scaled .nil pass0 (pa_cons (pv 5) (pa_cons (pv 7) pa_nil))) (pa_cons (pe_call (ok_scaled T) (hr.mono (by decide)) (by rfl) T.g_scaled T.F_scaled.kp T.b_scaled .nil pass0 (pa_cons (pv 6) (pa_cons (pe_op op_fdiv (pv 3) (pv 7)) pa_nil))) pa_nil)))))
      (pss_cons (ps_if (pt_val (pv 1)) (pss_one (ps_set (i := 4) sc_single_sheets.nd rfl (Or.inl rfl) (pe_op op_cat (pv 4) (pe_lc (own := [("sheet", 8)]) (g := (gName 8)) (tt := tYes) (by rfl) sc_single_sheets.nd (pi_list (pv 4)) (blkOk_by (own := [("sheet", 8)]) (N := ["heap", "turning", "sides", "whole", "found", "across", "along", "part", "sheet"]) (sc := defScope s_single_sheets) (by decide +kernel)) (fun _ _ _ _ _ => (pg_name (i := 8) sc_single_sheets.nd rfl (Or.inl rfl))) (fun _ _ _ _ _ => pts_nil) (fun _ _ _ _ _ => (pe_call (ok_turned T) (hr.mono (by decide)) (by rfl) T.g_turned T.F_turned.kp T.b_turned .nil pass0 (pa_cons (pv 8) pa_nil))))))) pss_nil)
      (pss_one (ps_ret (pe_callB (cr_sortedSet rfl hr.units) (by rfl) T.n_sorted (by decide +kernel) (pa_cons (pe_callTy (cr_setSh rfl hr.units) (by rfl) T.n_set (by decide +kernel) (pa_cons (pv 4) pa_nil)) pa_nil))))))))))), ?_⟩
    refine ⟨_, rfl, _, rfl, p, d, es, turn, rfl, hA, one, fun h H1 s1 => ?_, fun u v S u1 u2 v1 v2 t tp tq H1 s1 ht htp htq => ?_⟩
    · refine ⟨_, rfl, rfl, _, rfl, iteT ⟨Nat.zero_le _, fun l hl => ?_⟩⟩
      exact q0 h l _ (s1.free hl) (s1.trans (same_new hl)) ⟨upd_same, fun y hy => by cases hy⟩
    · refine ⟨_, rfl, rfl, _, rfl, iteF ⟨_, rfl, _, rfl, p, d, es, turn, rfl, hA.same s1, one, fun H2 s2 => ?_⟩⟩
      have cp := S.cp
      have cl := one.le turn
      generalize hc : gcdL (marksT turn (tabH es)) = c at cp cl
      have l2 : 2 ≤ sizeLine := by rw [sizeLine_eq]; decide
      refine ⟨_, rfl, c, 1000000, rfl, rfl, _, rfl, ?_⟩
      rw [decide_eq_false (by omega)]
      refine iteF ⟨_, rfl, t, _, rfl, SqT.of (s2 _ _ ht), rfl, .ref tp, _, rfl, .ref tq, _, rfl, rfl, ?_⟩
      refine ⟨_, rfl, c, rfl, cp, cl, fun l1 H3 ds n3 s3 h3 mem3 len3 => ⟨l1, rfl, ⟨_, SqL.of h3⟩, fun L hL => ?_⟩⟩
      have wb : ∀ {z : Int}, z.natAbs < 2 ^ 20 → z.natAbs < 2 ^ 9000 := fun h => Nat.lt_of_lt_of_le h (Nat.pow_le_pow_right (by decide) (by decide))
      have s13 := s2.trans s3
      refine lc_list (K := K) (a := l1) (xs := ds.map V.int) (fun i G => Same H3 G ∧ ∃ ks : List (Sh × Addr), ks.map Prod.fst = (ds.take i).map (mkS u v c) ∧ ShsL G L ks) ⟨same_new hL, [], rfl, upd_same, fun y hy => by cases hy⟩ (fun i G _ z => SqL.of (z.1 _ _ h3)) ?_ ?_
      · rintro i x G hx ⟨sG, ks, ek, R⟩
        rw [List.getElem?_map] at hx
        obtain ⟨e, he, rfl⟩ := Option.map_eq_some_iff.mp hx
        obtain ⟨e0, ed⟩ := (mem3 e).mp (List.mem_of_getElem? he)
        have ele : e ≤ c := Int.le_of_dvd cp ed
        have be : e.natAbs < 2 ^ 20 := Nat.lt_of_le_of_lt (show e.natAbs ≤ 200 by omega) (by decide)
        have bq : (c / e).natAbs < 2 ^ 20 := by
          have a1 := Int.ediv_le_self e (Int.le_of_lt cp)
          have a2 := Int.ediv_nonneg (Int.le_of_lt cp) (Int.le_of_lt e0)
          exact Nat.lt_of_le_of_lt (show (c / e).natAbs ≤ 200 by omega) (by decide)
        refine ⟨rfl, _, rfl, _, rfl, .ref tp, u.1, u.2, e, rfl, ⟨tp, rfl, SqT.of (sG _ _ (s13 _ _ htp))⟩, wb u1, wb u2, wb be, fun p1 G1 m1 g1 k1 => ?_⟩
        refine ⟨_, rfl, _, rfl, _, rfl, c, e, rfl, rfl, ⟨e0, by omega⟩, .ref tq, v.1, v.2, c / e, rfl, ⟨tq, rfl, SqT.of (g1 _ _ (sG _ _ (s13 _ _ htq)))⟩, wb v1, wb v2, wb bq, fun p2 G2 m2 g2 k2 => ⟨l2, fun t5 m5 => ?_⟩⟩
        have g5 := same_new (o := .tup [.ref p1, .ref p2]) m5
        obtain ⟨r1, r2, r3⟩ := shs_more (x := mkS u v c e) hL sG R (g1.trans (g2.trans g5)) ⟨p1, p2, upd_same, g5 _ _ (g2 _ _ k1), g5 _ _ k2⟩
        refine ⟨_, r1, ?_, r2, _, ?_, r3⟩
        · have := congrArg List.length ek
          rw [List.length_map, List.length_map, List.length_take] at this
          rw [List.length_map, sizeLine_eq]
          omega
        · rw [List.map_append, ek, List.take_succ, he, List.map_append]
          rfl
      · rintro G ⟨sG, ks, ek, R⟩
        rw [List.length_map, List.take_length] at ek
        have kl : ks.length = ds.length := by
          have := congrArg List.length ek
          rw [List.length_map, List.length_map] at this
          exact this
        have s0 : Same H G := (s1.trans s13).trans sG
        have ending : ∀ (G' : Hp) (l : Addr) (fs : List (Sh × Addr)), Same H G' → ShsL G' l fs → fs.map Prod.fst = (ds.map (mkS u v c) ++ if turn = true then (ds.map (mkS u v c)).map turnS else []) → fs.length < 64 →
            ∀ σ : L2.St, σ[4]? = some (some (.ref l)) → tCB (rSortedSet w) (tCons (tCB (rSetSh w) (tCons (tVar 4) tNil)) tNil) σ G' Q := fun G' l fs sg R' ef few σ hσ => by
          refine ⟨_, hσ, l, fs, rfl, R'.1, R'.2, few, fun a L' na sub all nd ll => ?_⟩
          have g1 := same_new (o := SSet w a L') na
          refine ⟨a, L', rfl, upd_same, fun y hy => (R'.2 y (sub y hy)).same g1, fun L2 p2 pm hp2 => ?_⟩
          have g2 := same_new (o := .lst ((L2.mergeSort fun a b => leS a.1 b.1).map fun y => V.ref y.2)) hp2
          have pp : (L2.mergeSort fun a b => leS a.1 b.1).Perm L' := (List.mergeSort_perm _ _).trans pm
          refine q1 u v S p2 _ (L2.mergeSort fun a b => leS a.1 b.1) ((sg.trans g1).free hp2) ((sg.trans g1).trans g2) ⟨upd_same, fun y hy => ((R'.2 y (sub y (pp.mem_iff.mp hy))).same g1).same g2⟩ ?_ ((pp.map Prod.fst).nodup_iff.mpr nd) (List.pairwise_mergeSort (fun a b c => leS_trans a.1 b.1 c.1) (fun a b => leS_total a.1 b.1) L2) (by rw [pp.length_eq]; omega)
          intro x
          rw [hc, ← made_of cp mem3 x, ← ef]
          refine ((pp.map Prod.fst).mem_iff).trans ⟨fun h => ?_, fun h => ?_⟩
          · obtain ⟨y, hy, rfl⟩ := List.mem_map.mp h
            exact List.mem_map.mpr ⟨y, sub y hy, rfl⟩
          · obtain ⟨y, hy, rfl⟩ := List.mem_map.mp h
            exact all y hy
        refine ⟨_, rfl, turn, rfl, ?_⟩
        cases turn with
        | false => 
          refine iteF (ending G L ks s0 R (by rw [ek]; simp) (by omega) _ ?_)
          rfl
        | true =>
          refine iteT ⟨_, rfl, _, rfl, L, rfl, ⟨_, SqL.of R.1⟩, fun L2 hL2 => ?_⟩
          refine lc_list (K := K) (a := L) (xs := ks.map fun y : Sh × Addr => V.ref y.2) (fun i G' => Same G G' ∧ ∃ fs : List (Sh × Addr), fs.map Prod.fst = (((ds.map (mkS u v c)).take i).map turnS) ∧ ShsL G' L2 fs) ⟨same_new hL2, [], rfl, upd_same, fun y hy => by cases hy⟩ (fun i G' _ z => SqL.of (z.1 _ _ R.1)) ?_ ?_
          · rintro i x G' hx ⟨sg, fs, ef, R2⟩
            rw [List.getElem?_map] at hx
            obtain ⟨y, hy, rfl⟩ := Option.map_eq_some_iff.mp hx
            refine ⟨rfl, _, rfl, y.2, y.1, rfl, (R.2 y (List.mem_of_getElem? hy)).same sg, fun q2 G2 m2 g2 k2 => ?_⟩
            obtain ⟨r1, r2, r3⟩ := shs_more (x := turnS y.1) hL2 sg R2 g2 k2
            have ey : (ds.map (mkS u v c))[i]? = some y.1 := by rw [← ek, List.getElem?_map, hy]; rfl
            refine ⟨_, r1, ?_, r2, _, ?_, r3⟩
            · have := congrArg List.length ef
              rw [List.length_map, List.length_map, List.length_take, List.length_map] at this
              rw [List.length_map, sizeLine_eq]
              omega
            · rw [List.map_append, ef, List.take_succ, ey, List.map_append]
              rfl
          · rintro G' ⟨sg, fs, ef, R2⟩
            rw [List.length_map, kl, show ds.length = (ds.map (mkS u v c)).length by rw [List.length_map], List.take_length] at ef
            have fl : fs.length = ds.length := by
              have := congrArg List.length ef
              rw [List.length_map, List.length_map, List.length_map] at this
              exact this
            refine ⟨L, L2, _, _, rfl, rfl, sg _ _ R.1, R2.1, by rw [List.length_map, List.length_map, sizeLine_eq]; omega, fun D hD => ?_⟩
            have g3 := same_new (o := .lst ((ks.map fun y : Sh × Addr => V.ref y.2) ++ fs.map fun y : Sh × Addr => V.ref y.2)) hD
            refine ending _ D (ks ++ fs) ((s0.trans sg).trans g3) ⟨by rw [upd_same, List.map_append], fun y hy => ?_⟩ (by rw [List.map_append, ek, ef, if_pos rfl]) (by rw [List.length_append]; omega) _ ?_
            rotate_left
            · rfl
            rcases List.mem_append.mp hy with hy | hy
            · exact ((R.2 y hy).same sg).same g3
            · exact (R2.2 y hy).same g3
end
/-! ### lengths and sheets that are drawn -/
theorem isRB_of {d : Int} (h : IsRoot d) : isRB d = true := by
  obtain ⟨h1, h2, k, k0, k1, k2⟩ := h
  rw [← isR_of h1 h2 k0 (Int.le_of_lt k1) k2, decide_eq_false fun z => by have := V.int.inj z; omega]
  rfl
theorem IsRoot.small {d : Int} (h : IsRoot d) : d.natAbs < 2 ^ 64 := isRB_small (isRB_of h)
def LenB (d a b : Int) : Prop := 0 < vl a b d ∧ a.natAbs ≤ 10 ^ 6 ∧ b.natAbs ≤ 10 ^ 6
def ShB (d : Int) (x : Sh) : Prop := LenB d x.1 x.2.1 ∧ LenB d x.2.2.1 x.2.2.2
theorem m6 {x : Int} (h : x.natAbs ≤ 10 ^ 6) : x.natAbs < 2 ^ 100 := Nat.lt_of_le_of_lt h (by decide)
theorem m6w {x : Int} (h : x.natAbs ≤ 10 ^ 6) : x.natAbs < 2 ^ 9000 := w100 (m6 h)
theorem LenB.ok {d a b : Int} (h : LenB d a b) : LenOk d a b := ⟨h.1, m6 h.2.1, m6 h.2.2⟩
theorem ShB.ok {d : Int} {x : Sh} (h : ShB d x) : ShOk d x := ⟨h.1.ok, h.2.ok⟩
theorem ab_opp (a : Int) : ab (-a) = ab a := by
  unfold ab
  split <;> split <;> omega
theorem vl_opp (a b d : Int) : vl (-a) (-b) d = -vl a b d := by
  unfold vl
  rw [ab_opp, ab_opp]
  grind
theorem vl_one (n d : Int) (h : 0 < n) : 0 < vl n 0 d := by
  unfold vl
  rw [ab_nn (Int.le_of_lt h)]
  have := Int.mul_pos h h
  grind
theorem keep_free {b p : Addr} {H H' : Hp} (k : Keep b H H') (n : p ≠ b) (h : H' p = none) : H p = none := by
  cases e : H p with
  | none => rfl
  | some o => exact absurd (k p o n e) (by rw [h]; simp)
theorem sgn_cases (a b d : Int) : (sgnI (vl a b d) = 0 ∧ vl a b d = 0) ∨ (sgnI (vl a b d) = 1 ∧ 0 < vl a b d) ∨ (sgnI (vl a b d) = -1 ∧ 0 < vl (-a) (-b) d) := by
  rcases Int.lt_trichotomy (vl a b d) 0 with h | h | h
  · exact .inr (.inr ⟨sgnI_neg h, by rw [vl_opp]; omega⟩)
  · exact .inl ⟨by rw [h]; rfl, h⟩
  · exact .inr (.inl ⟨sgnI_pos h, h⟩)
/-! ### rows and stocks that are drawn -/
/-- the rows es, in a list that the program has made -/
def RowsL (H : Hp) (l : Addr) (es : DEs) : Prop := ∃ as : List Addr, H l = some (.lst (as.map V.ref)) ∧ RowsAt H as es ∧ ∀ e ∈ es, ShAt H e.2.1 e.1
theorem RowsL.mono {H H' : Hp} {l : Addr} {es : DEs} (h : RowsL H l es) (kl : ∀ xs, H l = some (.lst xs) → H' l = some (.lst xs)) (k : ∀ p xs, H p = some (.tup xs) → H' p = some (.tup xs)) : RowsL H' l es := by
  obtain ⟨as, h1, h2, h3⟩ := h
  exact ⟨as, kl _ h1, h2.mono k, fun e he => (h3 e he).mono k⟩
theorem RowsL.same {H H' : Hp} {l : Addr} {es : DEs} (h : RowsL H l es) (s : Same H H') : RowsL H' l es := h.mono (fun _ z => s _ _ z) fun _ _ z => s _ _ z
theorem RowsL.keep {H H' : Hp} {l b sb : Addr} {es : DEs} (h : RowsL H l es) (B : Bag H b sb) (n : l ≠ b) (k : Keep b H H') : RowsL H' l es := h.mono (fun _ z => k _ _ n z) (tup_keep B k)
theorem RowsL.snoc {H : Hp} {l t p : Addr} {es : DEs} {x : Sh} {n : Int} (h : RowsL H l es) (ht : H t = some (.tup [.ref p, .int n])) (hp : ShAt H p x) : ∃ xs, H l = some (.lst xs) ∧ xs.length = es.length ∧ RowsL (upd H l (.lst (xs ++ [.ref t]))) l (es ++ [(x, p, n)]) := by
  obtain ⟨as, h1, h2, h3⟩ := h
  refine ⟨_, h1, by rw [List.length_map]; exact h2.len, as ++ [t], by rw [upd_same, List.map_append]; rfl, ?_, fun e he => ?_⟩
  · have r2 : RowsAt (upd H l (.lst (as.map V.ref ++ [.ref t]))) as es := h2.mono (tup_put h1)
    unfold RowsAt at r2 ⊢
    exact Paired.snoc (a := t) (b := (x, p, n)) (tup_put h1 _ _ ht) r2
  · rcases List.mem_append.mp he with he | he
    · exact (h3 e he).mono (tup_put h1)
    · rw [List.mem_singleton.mp he]
      exact hp.mono (tup_put h1)
theorem RowsL.handed {K : PySem.W.Frag} {H : Hp} {l : Addr} {es : DEs} (h : RowsL H l es) : Handed K H (.ref l) es := by
  obtain ⟨as, h1, h2, h3⟩ := h
  exact .list (SqL.of h1) h2 h3
def rowD (e : Sh × Addr × Int) : PyData := .tuple [encS e.1, .int e.2.2]
theorem sh_dp {K : PySem.W.Frag} {H : Hp} {p : Addr} {x : Sh} (h : ShAt H p x) : Dp K H (.ref p) (encS x) := by
  obtain ⟨u, v, h1, h2, h3⟩ := h
  exact .tup (SqT.of h1) (.cons (dpair h2) (.cons (dpair h3) .nil))
theorem RowsL.dp {K : PySem.W.Frag} {H : Hp} {l : Addr} {es : DEs} (h : RowsL H l es) : Dp K H (.ref l) (.list (es.map rowD)) := by
  obtain ⟨as, h1, h2, h3⟩ := h
  refine .lst (SqL.of h1) ?_
  clear h1
  revert h3
  induction h2 with
  | nil => exact fun _ => .nil
  | @cons a e as es r t ih =>
    intro h3
    exact .cons (.tup (SqT.of r) (.cons (sh_dp (h3 e List.mem_cons_self)) (.cons (.int _) .nil))) (ih fun f hf => h3 f (List.mem_cons_of_mem _ hf))
theorem rowD_can (e : Sh × Addr × Int) : (rowD e).canLay0 = true ∧ (rowD e).depth = 3 := by
  unfold rowD encS
  constructor
  · simp [PyData.canLay0, PyData.canLayAll0]
  · simp [PyData.depth, PyData.depthAll]
theorem rows_shaped (es : DEs) : SeqAt.shaped (.list (es.map rowD)) = true := by
  have h : ∀ es : DEs, PyData.canLayAll0 (es.map rowD) = true ∧ PyData.depthAll (es.map rowD) ≤ 3 := by
    intro es
    induction es with
    | nil => exact ⟨by simp [PyData.canLayAll0], by simp [PyData.depthAll]⟩
    | cons e es ih =>
      obtain ⟨r1, r2⟩ := rowD_can e
      constructor
      · simp [PyData.canLayAll0, r1, ih.1]
      · simp [PyData.depthAll, r2, ih.2]
  obtain ⟨h1, h2⟩ := h es
  unfold SeqAt.shaped
  rw [Bool.and_eq_true]
  refine ⟨by simp [PyData.canLay0, h1], decide_eq_true ?_⟩
  simp only [PyData.depth]
  omega
theorem rows_nil (es : DEs) : PyData.eqv (.list (es.map rowD)) (.list []) = es.isEmpty := by
  cases es with
  | nil => simp [PyData.eqv, PyData.eqvAll]
  | cons e es => simp [PyData.eqv, PyData.eqvAll]
theorem RowsL.more {H : Hp} {l : Addr} {es fs : DEs} {bs : List Addr} {L : Addr} (R : RowsL H l es) (hb : RowsAt H bs fs) (hk : ∀ e ∈ fs, ShAt H e.2.1 e.1) (hL : H L = some (.lst (bs.map V.ref))) :
    ∃ xs, H l = some (.lst xs) ∧ xs.length = es.length ∧ ∀ q, H q = none → RowsL (upd H q (.lst (xs ++ bs.map V.ref))) q (es ++ fs) := by
  obtain ⟨as, h1, h2, h3⟩ := R
  refine ⟨_, h1, by rw [List.length_map]; exact h2.len, fun q hq => ⟨as ++ bs, by rw [upd_same, List.map_append], ?_, fun e he => ?_⟩⟩
  · have app : ∀ {as : List Addr} {es : DEs}, RowsAt H as es → RowsAt H (as ++ bs) (es ++ fs) := by
      intro as es h
      induction h with
      | nil => exact hb
      | cons r _ ih => exact Paired.cons r ih
    exact (app h2).mono fun a xs z => (same_new hq) _ _ z
  · refine ShAt.same (same_new hq) ?_
    rcases List.mem_append.mp he with he | he
    · exact h3 e he
    · exact hk e he
theorem RowsL.step {H G : Hp} {D t p : Addr} {fs : DEs} {i : Nat} {x : Sh} {n : Int} (hD : H D = none) (s : Same H G) (R : RowsL G D (fs.take i)) (hf : fs[i]? = some (x, p, n)) (ht : G t = none) (hp : ShAt G p x) :
    ∃ xs, (upd G t (.tup [.ref p, .int n])) D = some (.lst xs) ∧ xs.length ≤ i ∧ Same H (upd (upd G t (.tup [.ref p, .int n])) D (.lst (xs ++ [.ref t]))) ∧ RowsL (upd (upd G t (.tup [.ref p, .int n])) D (.lst (xs ++ [.ref t]))) D (fs.take (i + 1)) := by
  have e := same_new (o := .tup [.ref p, .int n]) ht
  obtain ⟨xs, g1, g2, g3⟩ := (R.same e).snoc (t := t) upd_same (hp.same e)
  refine ⟨xs, g1, by rw [g2, List.length_take]; omega, fun a o z => (upd_ne (ne_of_none z hD)).trans (e _ _ (s a o z)), ?_⟩
  rw [List.take_add_one, hf]
  exact g3
/-! ### stocks, listings -/
section
variable {base : Heap} {K : PySem.W.Frag} {mg : Str → Option Value} {P : Program} {w : World}
def spStock (K : PySem.W.Frag) (P : Program) (w : World) : Sp := fun vs H Q _ => ∃ (l : Addr) (es : DEs), vs = [.ref l] ∧ RowsL H l es ∧ es.length ≤ 1000 ∧ NewD P w H (mergeD es) Q
theorem ok_stock_of (T : Txt K mg) : FnOk P w K mg base CX0 1 T.f_stock_of T.d_stock_of ["_law_rows"] (spStock K P w) := by
  refine T.F_stock_of.ok sc_stock_of (fun vs H Q E h => ?_) (fun cdv A outer s H vs Q E hr h => ?_)
  · obtain ⟨l, es, rfl, _⟩ := h
    rfl
  · obtain ⟨l, es, rfl, ⟨as, hl, hr2, hk⟩, hn, q⟩ := h
    refine ⟨_, (pss_cons (ps_set (i := 1) sc_stock_of.nd rfl (Or.inl rfl) pe_dnewS)
      (pss_cons (ps_for PassesOwn.never rfl (pi_list (pv 0)) (pg_tup (by rfl) (pgs_cons (pg_name (i := 2) sc_stock_of.nd rfl (Or.inl rfl)) (pgs_cons (pg_name (i := 3) sc_stock_of.nd rfl (Or.inl rfl)) pgs_nil))) (pss_one (ps_sput hr.units (pv 1) (pv 2) (pe_op op_add (pe_sget2 hr.units (pv 1) (pv 2) pe_int ⟨rfl, rfl, rfl, rfl⟩) (pv 3)) rfl)))
      (pss_one (ps_ret (pv 1))))), ?_⟩
    intro c hc
    have D0 : DAt P w (upd H c (DS P w c [])) c [] := ⟨upd_same, fun x hx => by cases hx⟩
    refine ⟨_, rfl, l, rfl, ⟨_, SqL.of ((same_new hc) _ _ hl)⟩, for_list (K := K) (a := l) (xs := as.map V.ref) (fun i σ H' => ∃ y2 y3, σ = [some (.ref l), some (.ref c), y2, y3] ∧ Same H H' ∧ DAt P w H' c (mergeTo es i)) ⟨none, none, rfl, same_new hc, D0⟩ ?_ ?_ ?_⟩
    · rintro i σ H' _ ⟨_, _, _, s1, _⟩
      exact SqL.of (s1 _ _ hl)
    · rintro i x σ H' hx ⟨y2, y3, rfl, s1, D⟩
      obtain ⟨a, e, rfl, he, ha⟩ := hr2.row hx
      have hs := (hk e (List.mem_of_getElem? he)).same s1
      have hlt : i < es.length := (List.getElem?_eq_some_iff.mp he).1
      refine ⟨a, _, rfl, SqT.of (s1 _ _ ha), rfl, .ref e.2.1, _, rfl, .int e.2.2, _, rfl, rfl, ?_⟩
      refine ⟨.ref c, rfl, c, _, rfl, D.rd, .ref e.2.1, rfl, e.2.1, e.1, 0, _, rfl, rfl, D.rd, hs, .int e.2.2, rfl, _, _, rfl, rfl, .ref c, rfl, .ref e.2.1, rfl, c, e.2.1, _, e.1, _, rfl, rfl, rfl, D, hs, small_of (by have := mergeTo_len es i; omega), ?_⟩
      obtain ⟨s2, D2⟩ := step_put hc s1 D hs he
      exact ⟨_, _, rfl, s2, D2⟩
    · rintro σ H' ⟨y2, y3, rfl, s1, D⟩
      rw [List.length_map, hr2.len, mergeTo_all] at D
      exact ⟨_, rfl, q c H' hc s1 D⟩
def spListed (P : Program) (w : World) : Sp := fun vs H Q _ => ∃ (d : Addr) (es : DEs), vs = [.ref d] ∧ DAt P w H d es ∧ (keysD es).Nodup ∧ es.length ≤ 1000 ∧ ∀ l H', H l = none → Same H H' → RowsL H' l (sortE es) → Q (.ref l) H'
theorem ok_listed (T : Txt K mg) : FnOk P w K mg base CX0 1 T.f_listed T.d_listed ["_law_stock"] (spListed P w) := by
  refine T.F_listed.ok sc_listed (fun vs H Q E h => ?_) (fun cdv A outer s H vs Q E hr h => ?_)
  · obtain ⟨d, es, rfl, _⟩ := h
    rfl
  · obtain ⟨d, es, rfl, D, nd, hn, q⟩ := h
    refine ⟨_, (pss_one (ps_ret (pe_lc (own := [("_law_sheet", 1)]) (g := (gName 1)) (tt := tYes) (te := tTup (tCons (tVar 1) (tCons (tSGet P w (tVar 0) (tVar 1)) tNil))) (by rfl) sc_listed.nd (pi_list (pe_callB (cr_sortedLS hr.units) (by rfl) T.n_sorted (by decide +kernel) (pa_cons (pe_callTy (call_list_DS rfl) (by rfl) T.n_list (by decide +kernel) (pa_cons (pv 0) pa_nil)) pa_nil))) (blkOk_by (own := [("_law_sheet", 1)]) (N := ["_law_stock", "_law_sheet"]) (sc := defScope s_listed) (by decide +kernel)) (fun _ _ _ _ _ => (pg_name (i := 1) sc_listed.nd rfl (Or.inl rfl))) (fun _ _ _ _ _ => pts_nil) (fun _ _ _ _ _ => (pe_tup (pa_cons (pv 1) (pa_cons (pe_sget hr.units (pv 0) (pv 1) (fun _ _ => rfl)) pa_nil))))))), ?_⟩
    refine ⟨.ref d, rfl, d, es, rfl, D, fun l0 h0 => ?_⟩
    have e0 := same_new (o := .lst (es.map fun e => V.ref e.2.1)) h0
    refine ⟨l0, es.map fun e => (e.1, e.2.1), rfl, ?_, ?_, fun l1 h1 => ?_⟩
    · rw [upd_same, List.map_map]
      rfl
    · intro b hb
      obtain ⟨e, he, rfl⟩ := List.mem_map.mp hb
      exact (D.ks e he).same e0
    have e1 := same_new (o := .lst ((sortK es).map fun b => V.ref b.2)) h1
    have e01 := e0.trans e1
    refine ⟨l1, rfl, ⟨_, SqL.of upd_same⟩, fun D2 hD2 => ?_⟩
    have hlen : (sortE es).length ≤ 1000 := by
      rw [(sortE_perm nd).length_eq]
      exact hn
    refine lc_list (K := K) (a := l1) (xs := (sortK es).map fun b => V.ref b.2) (fun i G => Same (upd (upd H l0 (.lst (es.map fun e => V.ref e.2.1))) l1 (.lst ((sortK es).map fun b => V.ref b.2))) G ∧ RowsL G D2 ((sortE es).take i)) ⟨same_new hD2, [], upd_same, .nil, fun e he => by cases he⟩ (fun i G _ z => SqL.of (z.1 _ _ upd_same)) ?_ ?_
    · rintro i x G hx ⟨sG, RG⟩
      rw [List.getElem?_map] at hx
      cases hb : (sortK es)[i]? with
      | none =>
        rw [hb] at hx
        cases hx
      | some b =>
        rw [hb] at hx
        cases hx
        obtain ⟨n, hv, hat, hin⟩ := sortE_at nd hb
        have Dc := D.same (e01.trans sG)
        have hs := Dc.ks _ hin
        refine ⟨rfl, _, rfl, _, rfl, _, rfl, d, b.2, _, b.1, n, rfl, rfl, Dc.rd, hs, hv, by show 2 ≤ sizeLine; decide, fun t ht => ?_⟩
        obtain ⟨xs, g1, g2, g3, g4⟩ := RowsL.step hD2 sG RG hat ht hs
        have hi := (List.getElem?_eq_some_iff.mp hat).1
        exact ⟨xs, g1, small1000 (by omega), g3, g4⟩
    · rintro G ⟨sG, RG⟩
      have hl : ((sortK es).map fun b => V.ref b.2).length = (sortE es).length := by
        unfold sortE
        rw [List.length_map, List.length_map]
      rw [hl, List.take_length] at RG
      exact q D2 G (e01.free hD2) (e01.trans sG) RG
end
/-! ### stocks -/
section
variable {base : Heap} {K : PySem.W.Frag} {mg : Str → Option Value} {P : Program} {w : World}
theorem Bag.ext {H : Hp} {b sb p : Addr} {φ : Heap → Prop} (B : Bag H b sb) (hp : H p = some (.ext φ)) : p ≠ b := by
  obtain ⟨ns, i, j, m, c, B⟩ := B
  exact ne_of hp B.hb (by intro z; cases z)
theorem Bag.ins {H : Hp} {b sb p C dx : Addr} {fs : List (Str × V)} (B : Bag H b sb) (hp : H p = some (.ins C dx fs)) : p ≠ b := by
  obtain ⟨ns, i, j, m, c, B⟩ := B
  exact ne_of hp B.hb (by intro z; cases z)
theorem DAt.keep {H H' : Hp} {b sb d : Addr} {es : DEs} (D : DAt P w H d es) (B : Bag H b sb) (k : Keep b H H') : DAt P w H' d es := ⟨k _ _ (B.ext D.hd) D.hd, fun x hx => (D.ks x hx).mono (tup_keep B k)⟩
theorem HeapAt.keep {C : Addr} {H H' : Hp} {b sb p : Addr} {d : Int} {es : DEs} (h : HeapAt P w C H p d es) (B : Bag H b sb) (k : Keep b H H') : HeapAt P w C H' p d es := by
  obtain ⟨dx, c, h1, h2⟩ := h
  exact ⟨dx, c, k _ _ (B.ins h1) h1, h2.keep B k⟩
/-- a stock that stands -/
theorem Within.esOk {d M : Int} {es : DEs} (h : Within (ShB d) M es) : EsOk d es := fun e he => ⟨(h e he).1.ok, (h e he).2.1⟩
theorem Within.small {d M : Int} {es : DEs} (h : Within (ShB d) M es) (hM : M ≤ 10 ^ 18) : Small es := fun e he => by
  obtain ⟨⟨⟨_, a1, a2⟩, _, a3, a4⟩, n0, n1⟩ := h e he
  exact ⟨mk4 (m6 a1) (m6 a2) (m6 a3) (m6 a4), Nat.lt_of_le_of_lt (show e.2.2.natAbs ≤ 10 ^ 18 by omega) (by decide)⟩
/-- the heap of a stock: its entries -/
def heapE (es : DEs) : DEs := sortE (mergeD (sortE es))
def spHeapOf (K : PySem.W.Frag) (P : Program) (w : World) (C : Addr) : Sp := fun vs H Q _ => ∃ (c : Addr) (d M : Int) (es : DEs), vs = [.int d, .ref c] ∧ IsRoot d ∧ DAt P w H c es ∧ (keysD es).Nodup ∧ Within (ShB d) M es ∧ es.length ≤ 1000 ∧ ∀ p H', H p = none → Same H H' → HeapAt P w C H' p d (heapE es) → Q (.ref p) H'
theorem ok_heap_of (T : Txt K mg) : FnOk P w K mg base CX0 7 T.f_heap_of T.d_heap_of ["_law_root", "_law_stock"] (spHeapOf K P w T.C_Heap) := by
  refine T.F_heap_of.ok sc_heap_of (fun vs H Q E h => ?_) (fun cdv A outer s H vs Q E hr h => ?_)
  · obtain ⟨c, d, M, es, rfl, _⟩ := h
    rfl
  · obtain ⟨c, d, M, es, rfl, hd, D, nd, wi, hlen, q⟩ := h
    refine ⟨_, (pss_one (ps_ret (pe_make T.M_Heap (ok_Heap_init T) (hr.mono (by decide)) (by rfl) T.g_Heap T.b_Heap_init .nil pass0 (pa_cons (pv 0) (pa_cons (pe_call (ok_listed T) (hr.mono (by decide)) (by rfl) T.g_listed T.F_listed.kp T.b_listed .nil pass0 (pa_cons (pv 1) pa_nil)) pa_nil))))), ?_⟩
    refine ⟨_, rfl, _, rfl, c, es, rfl, D, nd, hlen, fun l H1 hl s1 R => ?_⟩
    refine mk_heap (K := K) (isRB_of hd) R.handed ((wi.perm (sortE_perm nd)).esOk) (by rw [(sortE_perm nd).length_eq]; exact hlen) fun x H2 hx s2 hA => ?_
    exact q x H2 (s1.free hx) (s1.trans s2) hA
def spFour (P : Program) (w : World) : Sp := fun vs H Q _ => ∃ (c : Addr) (es : DEs), vs = [.ref c] ∧ DAt P w H c es ∧ (keysD es).Nodup ∧ Small es ∧
  ∀ p H', H p = none → Same H H' → H' p = some (.tup [.int (wsum f00 es), .int (wsum f01 es), .int (wsum f10 es), .int (wsum f11 es)]) → Q (.ref p) H'
theorem ok_four (T : Txt K mg) : FnOk P w K mg base CX0 1 T.f_four T.d_four ["_law_stock"] (spFour P w) := by
  refine T.F_four.ok sc_four (fun vs H Q E h => ?_) (fun cdv A outer s H vs Q E hr h => ?_)
  · obtain ⟨c, es, rfl, _⟩ := h
    rfl
  · obtain ⟨c, es, rfl, D, nd, sm, q⟩ := h
    refine ⟨_, (pss_cons (ps_set (i := 1) sc_four.nd rfl (Or.inl rfl) (pe_lst (pa_cons pe_int (pa_cons pe_int (pa_cons pe_int (pa_cons pe_int pa_nil))))))
      (pss_cons (ps_lock (ps_for PassesOwn.never rfl (pi_keysDS (pv 0)) (pg_tup (by rfl) (pgs_cons (pg_tup (by rfl) (pgs_cons (pg_name (i := 3) sc_four.nd rfl (Or.inl rfl)) (pgs_cons (pg_name (i := 4) sc_four.nd rfl (Or.inl rfl)) pgs_nil))) (pgs_cons (pg_tup (by rfl) (pgs_cons (pg_name (i := 5) sc_four.nd rfl (Or.inl rfl)) (pgs_cons (pg_name (i := 6) sc_four.nd rfl (Or.inl rfl)) pgs_nil))) pgs_nil))) (pss_cons (ps_set (i := 2) sc_four.nd rfl (Or.inl rfl) (pe_sget hr.units (pv 0) (pe_tup (pa_cons (pe_tup (pa_cons (pv 3) (pa_cons (pv 4) pa_nil))) (pa_cons (pe_tup (pa_cons (pv 5) (pa_cons (pv 6) pa_nil))) pa_nil))) (fun _ _ => rfl)))
      (pss_one (ps_set (i := 1) sc_four.nd rfl (Or.inl rfl) (pe_lst (pa_cons (pe_op op_add (pe_ix ix_list (pv 1) pe_int (fun _ _ => rfl)) (pe_op op_mulW (pe_op op_mulW (pv 3) (pv 5)) (pv 2))) (pa_cons (pe_op op_add (pe_ix ix_list (pv 1) pe_int (fun _ _ => rfl)) (pe_op op_mulW (pe_op op_mulW (pv 3) (pv 6)) (pv 2))) (pa_cons (pe_op op_add (pe_ix ix_list (pv 1) pe_int (fun _ _ => rfl)) (pe_op op_mulW (pe_op op_mulW (pv 4) (pv 5)) (pv 2))) (pa_cons (pe_op op_add (pe_ix ix_list (pv 1) pe_int (fun _ _ => rfl)) (pe_op op_mulW (pe_op op_mulW (pv 4) (pv 6)) (pv 2))) pa_nil))))))))))
      (pss_one (ps_ret (pe_tup (pa_cons (pe_ix ix_list (pv 1) pe_int (fun _ _ => rfl)) (pa_cons (pe_ix ix_list (pv 1) pe_int (fun _ _ => rfl)) (pa_cons (pe_ix ix_list (pv 1) pe_int (fun _ _ => rfl)) (pa_cons (pe_ix ix_list (pv 1) pe_int (fun _ _ => rfl)) pa_nil))))))))), ?_⟩
    refine ⟨by show 4 ≤ sizeLine; decide, fun l hl => ?_⟩
    have s0 := same_new (o := .lst [.int 0, .int 0, .int 0, .int 0]) hl
    have D0 := D.same s0
    refine ⟨c, _, D0.hd, True.intro, fun od => ⟨_, rfl, c, od, es, rfl, upd_same, ?_⟩⟩
    have nc : ∀ a xs, H a = some (.tup xs) → a ≠ c := fun a xs z => ne_of z D.hd (by intro z; cases z)
    have nlc : l ≠ c := (ne_of_none D.hd hl).symm
    refine for_keysDS (P := P) (w := w) (d := c) (o := od) (es := es) (fun i σ G => ∃ f y2 y3 y4 y5 y6, σ = [some (.ref c), some (.ref f), y2, y3, y4, y5, y6] ∧ f ≠ c ∧ G c = some (.frz od (DS P w c es)) ∧ (∀ a o, a ≠ c → H a = some o → G a = some o) ∧ G f = some (.lst [.int (wsum f00 (es.take i)), .int (wsum f01 (es.take i)), .int (wsum f10 (es.take i)), .int (wsum f11 (es.take i))]))
      ⟨l, none, none, none, none, none, rfl, nlc, upd_same, fun a o na z => (upd_ne na).trans (s0 a o z), (upd_ne nlc).trans upd_same⟩ ?_ ?_ ?_
    · rintro i τ G _ ⟨f, _, _, _, _, _, _, _, gd, ga, _⟩
      exact ⟨gd, fun x hx => (D.ks x hx).mono fun a xs z => ga a _ (nc a xs z) z⟩
    · rintro i e τ G he ⟨f, y2, y3, y4, y5, y6, rfl, nf, gd, ga, gf⟩
      have me := List.mem_of_getElem? he
      obtain ⟨bs, bn⟩ := sm e me
      obtain ⟨b1, b2, b3, b4⟩ := bs.b4
      obtain ⟨u, v, h1, h2, h3⟩ := (D.ks e me).mono fun a xs z => ga a _ (nc a xs z) z
      refine ⟨e.2.1, _, rfl, SqT.of h1, rfl, .ref u, _, rfl, u, _, rfl, SqT.of h2, rfl, .int e.1.1, _, rfl, .int e.1.2.1, _, rfl, rfl, .ref v, _, rfl, v, _, rfl, SqT.of h3, rfl, .int e.1.2.2.1, _, rfl, .int e.1.2.2.2, _, rfl, rfl, rfl, ?_⟩
      refine ⟨_, rfl, _, rfl, _, rfl, by show 2 ≤ sizeLine; decide, fun t1 n1 => ⟨_, rfl, _, rfl, by show 2 ≤ sizeLine; decide, fun t2 n2 => ⟨by show 2 ≤ sizeLine; decide, fun t3 n3 => ?_⟩⟩⟩
      have e1 := same_new (o := .tup [.int e.1.1, .int e.1.2.1]) n1
      have e2 := same_new (o := .tup [.int e.1.2.2.1, .int e.1.2.2.2]) n2
      have e3 := same_new (o := .tup [.ref t1, .ref t2]) n3
      have e123 := e1.trans (e2.trans e3)
      have hsh : ShAt (upd (upd (upd G t1 (.tup [.int e.1.1, .int e.1.2.1])) t2 (.tup [.int e.1.2.2.1, .int e.1.2.2.2])) t3 (.tup [.ref t1, .ref t2])) t3 e.1 := ⟨t1, t2, upd_same, (e2.trans e3) _ _ upd_same, e3 _ _ upd_same⟩
      refine ⟨c, t3, es, e.1, e.2.2, rfl, rfl, ⟨.inr ⟨od, e123 _ _ gd⟩, fun x hx => ((D.ks x hx).mono fun a xs z => ga a _ (nc a xs z) z).same e123⟩, hsh, valD_mem nd me, ?_⟩
      have gf' := e123 _ _ gf
      have w1 := w100 b1
      have w2 := w100 b2
      have w3 := w100 b3
      have w4 := w100 b4
      have wn' := w100 bn
      refine ⟨_, rfl, f, _, 0, _, rfl, rfl, SqL.of gf', atI_nat (j := 0) rfl, _, rfl, _, rfl, _, _, rfl, rfl, wide_mul b1 b3 (by decide) (by decide) (by decide), _, rfl, _, _, rfl, rfl, wide_mul (wide_lt b1 b3) bn (by decide) (by decide) (by decide), _, _, rfl, rfl,
        _, rfl, f, _, 1, _, rfl, rfl, SqL.of gf', atI_nat (j := 1) rfl, _, rfl, _, rfl, _, _, rfl, rfl, wide_mul b1 b4 (by decide) (by decide) (by decide), _, rfl, _, _, rfl, rfl, wide_mul (wide_lt b1 b4) bn (by decide) (by decide) (by decide), _, _, rfl, rfl,
        _, rfl, f, _, 2, _, rfl, rfl, SqL.of gf', atI_nat (j := 2) rfl, _, rfl, _, rfl, _, _, rfl, rfl, wide_mul b2 b3 (by decide) (by decide) (by decide), _, rfl, _, _, rfl, rfl, wide_mul (wide_lt b2 b3) bn (by decide) (by decide) (by decide), _, _, rfl, rfl,
        _, rfl, f, _, 3, _, rfl, rfl, SqL.of gf', atI_nat (j := 3) rfl, _, rfl, _, rfl, _, _, rfl, rfl, wide_mul b2 b4 (by decide) (by decide) (by decide), _, rfl, _, _, rfl, rfl, wide_mul (wide_lt b2 b4) bn (by decide) (by decide) (by decide), _, _, rfl, rfl, by show 4 ≤ sizeLine; decide, fun f2 n4 => ?_⟩
      have gd' := e123 _ _ gd
      refine ⟨f2, _, _, _, _, _, rfl, (ne_of_none gd' n4).symm, (same_new n4) _ _ gd', fun a o na z => (same_new n4) _ _ (e123 _ _ (ga a o na z)), ?_⟩
      rw [upd_same, wsum_take he, wsum_take he, wsum_take he, wsum_take he]
      have cm : ∀ x y z : Int, x * y * z = z * (y * x) := fun x y z => by rw [Int.mul_comm x y, Int.mul_comm]
      rw [cm, cm, cm, cm]
      rfl
    · rintro σ G ⟨f, y2, y3, y4, y5, y6, rfl, nf, gd, ga, gf⟩
      refine ⟨gd, ?_⟩
      rw [List.take_length] at gf
      have sG : Same H (upd G c (DS P w c es)) := fun a o z => by
        by_cases h : a = c
        · subst h
          rw [upd_same, ← D.hd, z]
        · exact (upd_ne h).trans (ga a o h z)
      have gf' : (upd G c (DS P w c es)) f = _ := (upd_ne nf).trans gf
      refine ⟨_, rfl, f, _, 0, _, rfl, rfl, SqL.of gf', atI_nat (j := 0) rfl, _, rfl, f, _, 1, _, rfl, rfl, SqL.of gf', atI_nat (j := 1) rfl, _, rfl, f, _, 2, _, rfl, rfl, SqL.of gf', atI_nat (j := 2) rfl, _, rfl, f, _, 3, _, rfl, rfl, SqL.of gf', atI_nat (j := 3) rfl, by show 4 ≤ sizeLine; decide, fun p hp => ?_⟩
      exact q p _ (sG.free hp) (sG.trans (same_new hp)) upd_same
end
/-! ### {sheet: n} -/
section
variable {X : Cx} {pos : Pos} {k v : Expr} {tk tv : TE}
theorem pe_done (hu : X.A.units + 64 < cLine) (hk : PE X k tk) (hv : PE X v tv) : PE X (.Dict [some k] [v] pos) (fun σ H Q => ∀ d, H d = none → tk σ (upd H d (DS X.prog X.w d [])) fun kv H1 => tv σ H1 fun vv H2 => ∃ p x n, kv = .ref p ∧ vv = .int n ∧ DAt X.prog X.w H2 d [] ∧ ShAt H2 p x ∧ Q (.ref d) (upd H2 d (DS X.prog X.w d [(x, p, n)]))) := ⟨fun pins s σ H Q I h => by
  rw [arm_eval_Dict]
  refine wpAny_bind (wpAny_standAt ?_)
  show wpAny _ _ (dictDisplay [(some (eval k X.env), do let x ← eval v X.env; standAt pos; pure x)]) _ _ s
  unfold dictDisplay
  dsimp only
  rw [List.forIn_cons]
  dsimp only
  refine wpAny_bind (wpAny_bind (wp_if_neg Bool.false_ne_true (wpAny_pure ?_)))
  dsimp only
  rw [List.forIn_nil]
  refine wpAny_pure (wpAny_bind (wp_if_neg Bool.false_ne_true (wpAny_bind ?_)))
  unfold subDict
  have fr : H s.heap.objs.size = none := I.hok.fresh (Nat.le_refl _)
  have I1 : Inv X pins σ (upd H s.heap.objs.size (DS X.prog X.w s.heap.objs.size [])) { s with heap := s.heap.push { cls := .type "dict", data := .dict #[] } } := I.laid (a := s.heap.objs.size) (o := DS X.prog X.w s.heap.objs.size []) (h' := s.heap.push { cls := .type "dict", data := .dict #[] }) (t' := s.toks) (fun _ _ q => Heap.get?_push_of_some _ q) (Nat.le_refl _)
    (ds_obj ⟨beq_eq_false_iff_ne.mpr (Ne.symm (Nat.ne_of_lt I.big)), Nat.zero_le _, [], .nil, _, #[], 0, Heap.get?_push_size _ rfl, ⟨rfl, rfl, rfl⟩, rfl, rfl, List.nodup_nil⟩)
  refine wpAny_bind (wpAny_alloc ?_)
  refine wpAny_bind (wpAny_holding ?_)
  refine wp_if_pos (by show 1 ≤ 15; decide) ?_
  show wpAny _ _ (evalPairs [(eval k X.env, do let x ← eval v X.env; standAt pos; pure x)] >>= _) _ _ _
  unfold evalPairs
  refine wpAny_bind (wpAny_bind (thn (hk.run pins _ σ _ _ I1 (h _ fr)) ?_))
  rintro ku s1 ⟨kv, H1, I2, rk, q1⟩
  refine wpAny_bind (wpAny_holding (wpAny_bind (thn (hv.run pins s1 σ H1 _ I2 q1) ?_)))
  rintro vu s2 ⟨vv, H2, I3, rvv, p, x, n, rfl, rfl, D, hp, q2⟩
  cases rk
  unfold evalPairs
  refine wpAny_bind (wpAny_standAt (wpAny_pure (wpAny_bind (wpAny_holding (wpAny_pure (wpAny_pure (wpAny_holding (wpAny_bind ?_))))))))
  rw [List.forIn_cons]
  refine wpAny_bind (wpAny_bind ?_)
  obtain ⟨hs, hz, xs, r, dd⟩ := ds_of I3.hok D.rd
  have hz' : xs.length ≤ sizeLine := by rw [← Paired.length r]; exact hz
  refine wpAny_dictSet_heap (hsz := hz') (show X.A.units + 8 < cLine by omega) (sh_key I3.hok hp) dd fun h' dd' hsb => ?_
  obtain ⟨o, en, ep, h1, h2, h3, h4, _, h5⟩ := dd'
  have I4 : Inv X pins σ (upd H2 s.heap.objs.size (DS X.prog X.w s.heap.objs.size [(x, p, n)])) { s2 with heap := h', toks := s2.toks + (nestedKind X.prog X.w).draws (shK x) } :=
    d_write I3 (by rw [D.hd]; exact True.intro) hsb ⟨o, h1⟩ (ds_obj ⟨hs, (by show 1 ≤ sizeLine; rw [sizeLine_eq]; decide), _, drel_put (es := []) r x p rvv, o, en, ep, h1, h2, h3, h4, h5⟩)
  refine wpAny_pure ?_
  dsimp only
  rw [List.forIn_nil]
  exact wpAny_pure (wpAny_pure (wpAny_pure (wpAny_pure (wpAny_pure ⟨V.ref s.heap.objs.size, _, I4, rfl, q2⟩))))⟩
end
/-! ### what the law draws and asks -/
section
variable {base : Heap} {K : PySem.W.Frag} {mg : Str → Option Value} {P : Program} {w : World}
/-- a length of small parts -/
def LenT (d a b : Int) : Prop := 0 < vl a b d ∧ a.natAbs ≤ 2 ∧ b.natAbs ≤ 2
theorem LenT.b {d a b : Int} (h : LenT d a b) : LenB d a b := ⟨h.1, Nat.le_trans h.2.1 (by decide), Nat.le_trans h.2.2 (by decide)⟩
def spLow : Sp := fun vs H Q _ => ∃ (b sb : Addr) (d : Int), vs = [.ref b, .int d] ∧ Bag H b sb ∧ IsRoot d ∧ ∀ x y p H', LenT d x y → p ≠ b → H' p = some (.tup [.int x, .int y]) → Bag H' b sb → Keep b H H' → Q (.ref p) H'
theorem ok_low_length (T : Txt K mg) : FnOk P w K mg base CX0 2 T.f_low_length T.d_low_length ["_law_bag", "_law_root"] spLow := by
  refine T.F_low_length.ok sc_low_length (fun vs H Q E h => ?_) (fun cdv A outer s H vs Q E hr h => ?_)
  · obtain ⟨b, sb, d, rfl, _⟩ := h
    rfl
  · obtain ⟨b, sb, d, rfl, B, hd, q⟩ := h
    refine ⟨_, (pss_cons (ps_set (i := 2) sc_low_length.nd rfl (Or.inl rfl) (pe_tup (pa_cons (pe_op op_sub (pe_call (ok_pull T) (hr.mono (by decide)) (by rfl) T.g_pull T.F_pull.kp T.b_pull .nil pass0 (pa_cons (pv 0) (pa_cons pe_int pa_nil))) pe_int) (pa_cons (pe_op op_sub (pe_call (ok_pull T) (hr.mono (by decide)) (by rfl) T.g_pull T.F_pull.kp T.b_pull .nil pass0 (pa_cons (pv 0) (pa_cons pe_int pa_nil))) pe_int) pa_nil))))
      (pss_cons (ps_if (pt_cmpR op_eq (pe_call (ok_lsign T) (hr.mono (by decide)) (by rfl) T.g_lsign T.F_lsign.kp T.b_lsign .nil pass0 (pa_cons (pv 2) (pa_cons (pv 1) pa_nil))) pe_int (nomark _)) (pss_one (ps_ret (pe_tup (pa_cons pe_int (pa_cons pe_int pa_nil))))) pss_nil)
      (pss_one (ps_ret (pe_ifExp (pt_cmpR op_gt (pe_call (ok_lsign T) (hr.mono (by decide)) (by rfl) T.g_lsign T.F_lsign.kp T.b_lsign .nil pass0 (pa_cons (pv 2) (pa_cons (pv 1) pa_nil))) pe_int (nomark _)) (pv 2) (pe_tup (pa_cons (pe_op op_sub pe_int (pe_ix ix_tup (pv 2) pe_int (fun _ _ => rfl))) (pa_cons (pe_op op_sub pe_int (pe_ix ix_tup (pv 2) pe_int (fun _ _ => rfl))) pa_nil)))))))), ?_⟩
    refine ⟨.ref b, rfl, b, sb, 5, rfl, B, by decide, by decide, fun x0 H1 x1 x2 B1 k1 => ⟨x0, 2, rfl, rfl, ?_⟩⟩
    refine ⟨.ref b, rfl, b, sb, 5, rfl, B1, by decide, by decide, fun y0 H2 y1 y2 B2 k2 => ⟨y0, 2, rfl, rfl, by show 2 ≤ sizeLine; decide, fun p hp => ?_⟩⟩
    dsimp only
    generalize hx : x0 - 2 = x
    generalize hy : y0 - 2 = y
    have bx : x.natAbs ≤ 2 := by omega
    have bY : y.natAbs ≤ 2 := by omega
    have wx : x.natAbs < 2 ^ 9000 := Nat.lt_of_le_of_lt bx (Nat.lt_of_lt_of_le (show 2 < 2 ^ 2 by decide) (Nat.pow_le_pow_right (by decide) (by decide)))
    have wy : y.natAbs < 2 ^ 9000 := Nat.lt_of_le_of_lt bY (Nat.lt_of_lt_of_le (show 2 < 2 ^ 2 by decide) (Nat.pow_le_pow_right (by decide) (by decide)))
    have B3 := B2.new (o := .tup [.int x, .int y]) hp
    have k3 := (k1.trans k2).trans (keep_new (o := .tup [.int x, .int y]) hp)
    have h1 : (upd H2 p (.tup [.int x, .int y])) p = some (.tup [.int x, .int y]) := upd_same
    have np := B2.ne hp
    generalize upd H2 p (.tup [.int x, .int y]) = H3 at B3 k3 h1 ⊢
    refine ⟨.ref p, rfl, .int d, rfl, p, d, x, y, rfl, SqT.of h1, hd.small, wx, wy, ?_⟩
    rcases sgn_cases x y d with ⟨e, z⟩ | ⟨e, z⟩ | ⟨e, z⟩ <;> rw [e]
    · refine ⟨rfl, true, rfl, iteT ⟨by show 2 ≤ sizeLine; decide, fun p2 hp2 => ?_⟩⟩
      exact q _ _ p2 _ ⟨vl_one 1 d (by decide), by decide, by decide⟩ (B3.ne hp2) upd_same (B3.new hp2) (k3.trans (keep_new hp2))
    · refine ⟨rfl, false, rfl, iteF ⟨.ref p, rfl, .int d, rfl, p, d, x, y, rfl, SqT.of h1, hd.small, wx, wy, ?_⟩⟩
      rw [e]
      exact ⟨1, 0, rfl, rfl, true, rfl, iteT ⟨_, rfl, q x y p H3 ⟨z, bx, bY⟩ np h1 B3 k3⟩⟩
    · refine ⟨rfl, false, rfl, iteF ⟨.ref p, rfl, .int d, rfl, p, d, x, y, rfl, SqT.of h1, hd.small, wx, wy, ?_⟩⟩
      rw [e]
      refine ⟨-1, 0, rfl, rfl, false, rfl, iteF ⟨_, rfl, p, _, 0, .int x, rfl, rfl, SqT.of h1, atI_nat (j := 0) rfl, 0, x, rfl, rfl, _, rfl, p, _, 1, .int y, rfl, rfl, SqT.of h1, atI_nat (j := 1) rfl, 0, y, rfl, rfl, by show 2 ≤ sizeLine; decide, fun p2 hp2 => ?_⟩⟩
      refine q (0 - x) (0 - y) p2 _ ⟨?_, by omega, by omega⟩ (B3.ne hp2) upd_same (B3.new hp2) (k3.trans (keep_new hp2))
      rw [Int.zero_sub, Int.zero_sub]
      exact z
def spMarksOf (K : PySem.W.Frag) : Sp := fun vs H Q _ => ∃ (m : Addr) (t : P4) (turn : Bool), vs = [.ref m, .bl turn] ∧ H m = some (.tup [.int t.1, .int t.2.1, .int t.2.2.1, .int t.2.2.2]) ∧ ∀ p H', Same H H' → H' p = some (.tup ((marksT turn t).map V.int)) → Q (.ref p) H'
theorem ok_marks_of (T : Txt K mg) : FnOk P w K mg base CX0 1 T.f_marks_of T.d_marks_of ["_law_four_here", "_law_turning_z"] (spMarksOf K) := by
  refine T.F_marks_of.ok sc_marks_of (fun vs H Q E h => ?_) (fun cdv A outer s H vs Q E hr h => ?_)
  · obtain ⟨m, t, turn, rfl, _⟩ := h
    rfl
  · obtain ⟨m, ⟨a, b, c, e⟩, turn, rfl, hm, q⟩ := h
    refine ⟨_, (pss_one (ps_ret (pe_ifExp (pt_val (pv 1)) (pe_tup (pa_cons (pe_ix ix_tup (pv 0) pe_int (fun _ _ => rfl)) (pa_cons (pe_op op_add (pe_ix ix_tup (pv 0) pe_int (fun _ _ => rfl)) (pe_ix ix_tup (pv 0) pe_int (fun _ _ => rfl))) (pa_cons (pe_ix ix_tup (pv 0) pe_int (fun _ _ => rfl)) pa_nil)))) (pv 0)))), ?_⟩
    refine ⟨_, rfl, turn, rfl, ?_⟩
    cases turn with
    | false => exact iteF ⟨_, rfl, q m H (Same.refl _) hm⟩
    | true =>
      refine iteT ⟨_, rfl, m, _, 0, .int a, rfl, rfl, SqT.of hm, atI_nat (j := 0) rfl, _, rfl, m, _, 1, .int b, rfl, rfl, SqT.of hm, atI_nat (j := 1) rfl, _, rfl, m, _, 2, .int c, rfl, rfl, SqT.of hm, atI_nat (j := 2) rfl, b, c, rfl, rfl, _, rfl, m, _, 3, .int e, rfl, rfl, SqT.of hm, atI_nat (j := 3) rfl, by show 3 ≤ sizeLine; decide, fun p hp => ?_⟩
      exact q p _ (same_new hp) upd_same
def spShTab (P : Program) (w : World) : Sp := fun vs H Q _ => ∃ (p : Addr) (x : Sh), vs = [.ref p] ∧ ShAt H p x ∧ Bd 100 [x.1, x.2.1, x.2.2.1, x.2.2.2] ∧ ∀ m H', Same H H' → H' m = some (.tup [.int (prod4 x).1, .int (prod4 x).2.1, .int (prod4 x).2.2.1, .int (prod4 x).2.2.2]) → Q (.ref m) H'
theorem ok_sheet_table (T : Txt K mg) : FnOk P w K mg base CX0 2 T.f_sheet_table T.d_sheet_table ["_law_sheet"] (spShTab P w) := by
  refine T.F_sheet_table.ok sc_sheet_table (fun vs H Q E h => ?_) (fun cdv A outer s H vs Q E hr h => ?_)
  · obtain ⟨p, x, rfl, _⟩ := h
    rfl
  · obtain ⟨p, x, rfl, hx, bd, q⟩ := h
    refine ⟨_, (pss_one (ps_ret (pe_call (ok_four T) (hr.mono (by decide)) (by rfl) T.g_four T.F_four.kp T.b_four .nil pass0 (pa_cons (pe_done hr.units (pv 0) pe_int) pa_nil)))), ?_⟩
    intro d hd
    have s1 := same_new (o := DS P w d []) hd
    have s2 : Same H (upd (upd H d (DS P w d [])) d (DS P w d [(x, p, 1)])) := fun a o z => (upd_ne (ne_of_none z hd)).trans (s1 a o z)
    refine ⟨_, rfl, p, x, 1, rfl, rfl, ⟨upd_same, fun y hy => by cases hy⟩, hx.same s1, ?_⟩
    refine ⟨d, [(x, p, 1)], rfl, ⟨upd_same, fun y hy => ?_⟩, (by simp [keysD]), fun y hy => ?_, fun m H' n' s' hm => ?_⟩
    · rw [List.mem_singleton.mp hy]
      exact hx.same s2
    · rw [List.mem_singleton.mp hy]
      exact ⟨bd, (by show (1 : Int).natAbs < 2 ^ 100; decide)⟩
    · refine q m H' (s2.trans s') ?_
      rw [hm]
      simp only [wsum, List.map_cons, List.map_nil, List.sum_cons, List.sum_nil, f00, f01, f10, f11, prod4, Int.one_mul, Int.mul_one, Int.add_zero, Int.mul_comm]
end
/-! ### the law's partners of a width -/
section
variable {base : Heap} {K : PySem.W.Frag} {mg : Str → Option Value} {P : Program} {w : World}
theorem dints {K : PySem.W.Frag} {H : Hp} {p : Addr} {ns : List Int} (h : H p = some (.tup (ns.map V.int))) : Dp K H (.ref p) (.tuple (ns.map PyData.int)) := .tup (SqT.of h) (by
  clear h
  induction ns with
  | nil => exact .nil
  | cons n ns ih => exact .cons (.int n) ih)
theorem eqvAll_ints : ∀ a b : List Int, PyData.eqvAll (a.map PyData.int) (b.map PyData.int) = decide (a = b)
  | [], [] => by simp [PyData.eqvAll]
  | [], _ :: _ => by simp [PyData.eqvAll]
  | _ :: _, [] => by simp [PyData.eqvAll]
  | x :: a, y :: b => by
    rw [List.map_cons, List.map_cons, PyData.eqvAll, eqvAll_ints a b]
    simp only [PyData.eqv]
    by_cases h1 : x = y <;> by_cases h2 : a = b <;> simp [h1, h2]
theorem eqv_ints (a b : List Int) : PyData.eqv (.tuple (a.map PyData.int)) (.tuple (b.map PyData.int)) = decide (a = b) := by
  rw [← eqvAll_ints a b]
  simp only [PyData.eqv]
theorem shaped_ints (a : List Int) : SeqAt.shaped (.tuple (a.map PyData.int)) = true := by
  have h : ∀ a : List Int, PyData.canLayAll0 (a.map PyData.int) = true ∧ PyData.depthAll (a.map PyData.int) ≤ 0 := by
    intro a
    induction a with
    | nil => exact ⟨by simp [PyData.canLayAll0], by simp [PyData.depthAll]⟩
    | cons e es ih => exact ⟨by simp [PyData.canLayAll0, PyData.canLay0, ih.1], by simp [PyData.depthAll, PyData.depth, ih.2]⟩
  obtain ⟨h1, h2⟩ := h a
  unfold SeqAt.shaped
  rw [Bool.and_eq_true]
  refine ⟨by simp [PyData.canLay0, h1], decide_eq_true ?_⟩
  simp only [PyData.depth]
  omega
/-- the other side, by division -/
def cand (turn : Bool) (a b : Int) (ms : List Int) : Int × Int :=
  if turn = true then (if a ≠ 0 then ((ms.getD 0 0).fdiv a, (ms.getD 1 0 - b * (ms.getD 0 0).fdiv a).fdiv a) else ((ms.getD 1 0).fdiv b, (ms.getD 2 0).fdiv b))
  else if a ≠ 0 then ((ms.getD 0 0).fdiv a, (ms.getD 1 0).fdiv a) else ((ms.getD 2 0).fdiv b, (ms.getD 3 0).fdiv b)
theorem fd {k x z : Int} (h : k ≠ 0) (e : z = k * x) : z.fdiv k = x := fdiv_eq e h
theorem cand_is {turn : Bool} {a b c e : Int} (n : ¬ (a = 0 ∧ b = 0)) : cand turn a b (marksT turn (prod4 (a, b, c, e))) = (c, e) := by
  unfold cand
  cases turn with
  | true =>
    rw [if_pos rfl]
    by_cases a0 : a = 0
    · have b0 : b ≠ 0 := fun z => n ⟨a0, z⟩
      rw [if_neg (fun z => z a0)]
      simp only [marksT, prod4, if_true, List.getD_cons_succ, List.getD_cons_zero]
      rw [fd b0 (x := c) (by rw [a0]; omega), fd b0 (x := e) rfl]
    · rw [if_pos a0]
      simp only [marksT, prod4, if_true, List.getD_cons_succ, List.getD_cons_zero]
      rw [fd a0 (x := c) rfl, fd a0 (x := e) (by omega)]
  | false =>
    rw [if_neg Bool.false_ne_true]
    by_cases a0 : a = 0
    · have b0 : b ≠ 0 := fun z => n ⟨a0, z⟩
      rw [if_neg (fun z => z a0)]
      simp only [marksT, prod4, Bool.false_eq_true, if_false, List.getD_cons_succ, List.getD_cons_zero]
      rw [fd b0 (x := c) rfl, fd b0 (x := e) rfl]
    · rw [if_pos a0]
      simp only [marksT, prod4, Bool.false_eq_true, if_false, List.getD_cons_succ, List.getD_cons_zero]
      rw [fd a0 (x := c) rfl, fd a0 (x := e) rfl]
theorem fdiv_le (x y : Int) : (x.fdiv y).natAbs ≤ x.natAbs + 1 := by
  have h := Int.natAbs_ediv_le_natAbs x y
  rw [Int.fdiv_eq_ediv]
  split <;> omega
/-- the sheets of a width -/
def Partners (turn : Bool) (d a b : Int) (ms : List Int) (ks : List Sh) : Prop := (∀ x ∈ ks, x.1 = a ∧ x.2.1 = b ∧ marksT turn (prod4 x) = ms ∧ sg d x.2.2.1 x.2.2.2 = 1) ∧ (∀ x, x.1 = a → x.2.1 = b → marksT turn (prod4 x) = ms → sg d x.2.2.1 x.2.2.2 = 1 → x ∈ ks) ∧ ks.length ≤ 1
theorem partners_one {turn : Bool} {d a b : Int} {ms : List Int} (n : ¬ (a = 0 ∧ b = 0)) {c e : Int} (hc : cand turn a b ms = (c, e)) : Partners turn d a b ms (if marksT turn (prod4 (a, b, c, e)) = ms ∧ sg d c e = 1 then [(a, b, c, e)] else []) := by
  refine ⟨fun x hx => ?_, fun x h1 h2 h3 h4 => ?_, by split <;> simp⟩
  · by_cases z : marksT turn (prod4 (a, b, c, e)) = ms ∧ sg d c e = 1
    · rw [if_pos z] at hx
      rw [List.mem_singleton.mp hx]
      exact ⟨rfl, rfl, z.1, z.2⟩
    · rw [if_neg z] at hx
      cases hx
  · obtain ⟨x0, x1, x2, x3⟩ := x
    simp only at h1 h2 h3 h4
    subst h1 h2
    rw [← h3, cand_is n] at hc
    cases hc
    rw [if_pos ⟨h3, h4⟩]
    exact List.mem_singleton.mpr rfl
theorem cand_bd {turn : Bool} {a b c e : Int} {t : P4} (bb : b.natAbs ≤ 14) (bm : ∀ n ∈ marksT turn t, n.natAbs < 2 ^ 20) (hc : cand turn a b (marksT turn t) = (c, e)) : c.natAbs < 2 ^ 60 ∧ e.natAbs < 2 ^ 60 := by
  obtain ⟨t0, t1, t2, t3⟩ := t
  have z : (2 : Nat) ^ 20 = 1048576 := rfl
  have y : (2 : Nat) ^ 60 = 1152921504606846976 := rfl
  rw [y]
  rw [z] at bm
  unfold cand at hc
  cases turn with
  | true =>
    have h0 := bm t0 (by simp [marksT])
    have h1 := bm (t1 + t2) (by simp [marksT])
    have h3 := bm t3 (by simp [marksT])
    rw [if_pos rfl] at hc
    by_cases a0 : a ≠ 0
    · rw [if_pos a0] at hc
      simp only [marksT, if_true, List.getD_cons_succ, List.getD_cons_zero, Prod.mk.injEq] at hc
      obtain ⟨rfl, rfl⟩ := hc
      have f0 := fdiv_le t0 a
      have f1 := fdiv_le (t1 + t2 - b * t0.fdiv a) a
      have g : (b * t0.fdiv a).natAbs ≤ 14 * 1048577 := by
        rw [Int.natAbs_mul]
        exact Nat.mul_le_mul bb (by omega)
      omega
    · rw [if_neg a0] at hc
      simp only [marksT, if_true, List.getD_cons_succ, List.getD_cons_zero, Prod.mk.injEq] at hc
      obtain ⟨rfl, rfl⟩ := hc
      have f0 := fdiv_le (t1 + t2) b
      have f1 := fdiv_le t3 b
      omega
  | false =>
    have h0 := bm t0 (by simp [marksT])
    have h1 := bm t1 (by simp [marksT])
    have h2 := bm t2 (by simp [marksT])
    have h3 := bm t3 (by simp [marksT])
    rw [if_neg Bool.false_ne_true] at hc
    by_cases a0 : a ≠ 0
    · rw [if_pos a0] at hc
      simp only [marksT, Bool.false_eq_true, if_false, List.getD_cons_succ, List.getD_cons_zero, Prod.mk.injEq] at hc
      obtain ⟨rfl, rfl⟩ := hc
      have f0 := fdiv_le t0 a
      have f1 := fdiv_le t1 a
      omega
    · rw [if_neg a0] at hc
      simp only [marksT, Bool.false_eq_true, if_false, List.getD_cons_succ, List.getD_cons_zero, Prod.mk.injEq] at hc
      obtain ⟨rfl, rfl⟩ := hc
      have f0 := fdiv_le t2 b
      have f1 := fdiv_le t3 b
      omega
def MidP (wd m : Addr) (a b d : Int) (turn : Bool) (ms : List Int) (H : Hp) (σ : L2.St) (H' : Hp) : Prop := ∃ (c e : Int) (f L t : Addr), σ = [some (.ref wd), some (.ref m), some (.int d), some (.bl turn), none, some (.ref f), some (.int c), some (.int e), some (.ref L), some (.int a), some (.int b)] ∧
  cand turn a b ms = (c, e) ∧ Same H H' ∧ H f = none ∧ H' f = some (.lst []) ∧ H' L = some (.lst [.ref t]) ∧ H' t = some (.tup [.int c, .int e]) ∧ f ≠ L
def spPart : Sp := fun vs H Q _ => ∃ (wd m : Addr) (a b d : Int) (turn : Bool) (t : P4), vs = [.ref wd, .ref m, .int d, .bl turn] ∧ H wd = some (.tup [.int a, .int b]) ∧ H m = some (.tup ((marksT turn t).map V.int)) ∧ IsRoot d ∧ ¬ (a = 0 ∧ b = 0) ∧ a.natAbs ≤ 14 ∧ b.natAbs ≤ 14 ∧
  (∀ n ∈ marksT turn t, n.natAbs < 2 ^ 20) ∧ ∀ l H' (ks : List (Sh × Addr)), H l = none → Same H H' → ShsL H' l ks → Partners turn d a b (marksT turn t) (ks.map Prod.fst) → Q (.ref l) H'
theorem ok_partners (T : Txt K mg) : FnOk P w K mg base CX0 3 T.f_partners T.d_partners ["_law_width", "_law_marks", "_law_root", "_law_turning_z"] spPart := by
  refine T.F_partners.ok sc_partners (fun vs H Q E h => ?_) (fun cdv A outer s H vs Q E hr h => ?_)
  · obtain ⟨wd, m, a, b, d, turn, t, rfl, _⟩ := h
    rfl
  · obtain ⟨wd, m, a, b, d, turn, t, rfl, hw, hm, hd, n0, ba, bb, bm, q⟩ := h
    refine ⟨_, (pss_cons (ps_asg (pe_tup (pa_cons (pv 0) (pa_cons (pe_lst pa_nil) pa_nil))) (pg_tup (by rfl) (pgs_cons (pg_tup (by rfl) (pgs_cons (pg_name (i := 9) sc_partners.nd rfl (Or.inl rfl)) (pgs_cons (pg_name (i := 10) sc_partners.nd rfl (Or.inl rfl)) pgs_nil))) (pgs_cons (pg_name (i := 5) sc_partners.nd rfl (Or.inl rfl)) pgs_nil))))
      (Evl.pss_cut (ps_if (pt_not (pt_val (pv 3))) (pss_cons (ps_set (i := 6) sc_partners.nd rfl (Or.inl rfl) (pe_ifExp (pt_cmpR op_ne (pv 9) pe_int (nomark _)) (pe_op op_fdivN (pe_ix ix_tup (pv 1) pe_int (fun _ _ => rfl)) (pv 9)) (pe_op op_fdivN (pe_ix ix_tup (pv 1) pe_int (fun _ _ => rfl)) (pv 10))))
      (pss_cons (ps_set (i := 7) sc_partners.nd rfl (Or.inl rfl) (pe_ifExp (pt_cmpR op_ne (pv 9) pe_int (nomark _)) (pe_op op_fdivN (pe_ix ix_tup (pv 1) pe_int (fun _ _ => rfl)) (pv 9)) (pe_op op_fdivN (pe_ix ix_tup (pv 1) pe_int (fun _ _ => rfl)) (pv 10))))
      (pss_one (ps_set (i := 8) sc_partners.nd rfl (Or.inl rfl) (pe_lst (pa_cons (pe_tup (pa_cons (pv 6) (pa_cons (pv 7) pa_nil))) pa_nil)))))) (pss_cons (ps_set (i := 6) sc_partners.nd rfl (Or.inl rfl) (pe_ifExp (pt_cmpR op_ne (pv 9) pe_int (nomark _)) (pe_op op_fdivN (pe_ix ix_tup (pv 1) pe_int (fun _ _ => rfl)) (pv 9)) (pe_op op_fdivN (pe_ix ix_tup (pv 1) pe_int (fun _ _ => rfl)) (pv 10))))
      (pss_cons (ps_set (i := 7) sc_partners.nd rfl (Or.inl rfl) (pe_ifExp (pt_cmpR op_ne (pv 9) pe_int (nomark _)) (pe_op op_fdivN (pe_op op_sub (pe_ix ix_tup (pv 1) pe_int (fun _ _ => rfl)) (pe_op op_mulW (pv 10) (pv 6))) (pv 9)) (pe_op op_fdivN (pe_ix ix_tup (pv 1) pe_int (fun _ _ => rfl)) (pv 10))))
      (pss_one (ps_set (i := 8) sc_partners.nd rfl (Or.inl rfl) (pe_lst (pa_cons (pe_tup (pa_cons (pv 6) (pa_cons (pv 7) pa_nil))) pa_nil)))))))
      (pss_cons (ps_for PassesOwn.never rfl (pi_list (pv 8)) (pg_name (i := 4) sc_partners.nd rfl (Or.inl rfl)) (pss_one (ps_if (PW.pt (pw_and (pt_cmpR (op_eqD hr.units) (pe_call (ok_marks_of T) (hr.mono (by decide)) (by rfl) T.g_marks_of T.F_marks_of.kp T.b_marks_of .nil pass0 (pa_cons (pe_call (ok_sheet_table T) (hr.mono (by decide)) (by rfl) T.g_sheet_table T.F_sheet_table.kp T.b_sheet_table .nil pass0 (pa_cons (pe_tup (pa_cons (pv 0) (pa_cons (pv 4) pa_nil))) pa_nil)) (pa_cons (pv 3) pa_nil))) (pv 1) (nomark _)) (pw_and1 (pt_cmpR op_eq (pe_call (ok_lsign T) (hr.mono (by decide)) (by rfl) T.g_lsign T.F_lsign.kp T.b_lsign .nil pass0 (pa_cons (pv 4) (pa_cons (pv 2) pa_nil))) pe_int (nomark _))))) (pss_one (ps_expr (pe_bm PySem.F.plainAttrs_list PySem.F.slot_list_append PySem.F.type_list_append mt_append (pv 5) (pa_cons (pe_tup (pa_cons (pv 0) (pa_cons (pv 4) pa_nil))) pa_nil)))) pss_nil)))
      (pss_one (ps_ret (pv 5)))))), ?_⟩
    have l2 : 2 ≤ sizeLine := by rw [sizeLine_eq]; decide
    refine ⟨_, rfl, Nat.zero_le _, fun f hf => ⟨l2, fun tt htt => ?_⟩⟩
    have s1 := same_new (o := .lst []) hf
    have s2 := same_new (o := .tup [.ref wd, .ref f]) htt
    have s12 := s1.trans s2
    have hw2 := s12 _ _ hw
    refine ⟨tt, _, rfl, SqT.of upd_same, rfl, .ref wd, _, rfl, wd, _, rfl, SqT.of hw2, rfl, .int a, _, rfl, .int b, _, rfl, rfl, .ref f, _, rfl, rfl, ?_⟩
    refine ⟨MidP wd m a b d turn (marksT turn t) H, ?_, ?_⟩
    · have hm2 := s12 _ _ hm
      have hf2 : (upd (upd H f (.lst [])) tt (.tup [.ref wd, .ref f])) f = some (.lst []) := s2 _ _ upd_same
      generalize upd (upd H f (.lst [])) tt (.tup [.ref wd, .ref f]) = G at s12 hw2 hm2 hf2 ⊢
      have fin : ∀ c e, cand turn a b (marksT turn t) = (c, e) → ∀ t5, G t5 = none → ∀ L, (upd G t5 (.tup [.int c, .int e])) L = none →
          MidP wd m a b d turn (marksT turn t) H [some (.ref wd), some (.ref m), some (.int d), some (.bl turn), none, some (.ref f), some (.int c), some (.int e), some (.ref L), some (.int a), some (.int b)] (upd (upd G t5 (.tup [.int c, .int e])) L (.lst [.ref t5])) := fun c e hc t5 h5 L hL => by
        have s5 := same_new (o := .tup [.int c, .int e]) h5
        have s6 := same_new (o := .lst [.ref t5]) hL
        refine ⟨c, e, f, L, t5, rfl, hc, s12.trans (s5.trans s6), hf, s6 _ _ (s5 _ _ hf2), upd_same, s6 _ _ upd_same, ?_⟩
        rintro rfl
        rw [s5 _ _ hf2] at hL
        cases hL
      have sm : ∀ z : Int, z.natAbs ≤ 14 → z.natAbs < 1073741824 := fun z h => by omega
      obtain ⟨t0, t1, t2, t3⟩ := t
      refine ⟨_, rfl, turn, rfl, ?_⟩
      by_cases a0 : a = 0
      · have b0 : b ≠ 0 := fun z => n0 ⟨a0, z⟩
        have da : decide (V.int a = V.int 0) = true := decide_eq_true (congrArg V.int a0)
        cases turn with
        | false =>
          refine iteT ⟨_, rfl, rfl, _, rfl, ?_⟩
          rw [da]
          refine iteF ⟨_, rfl, m, _, 2, .int t2, rfl, rfl, SqT.of hm2, atI_nat (j := 2) rfl, _, rfl, t2, b, rfl, rfl, ⟨b0, sm b bb⟩, ?_⟩
          refine ⟨_, rfl, rfl, _, rfl, ?_⟩
          rw [da]
          refine iteF ⟨_, rfl, m, _, 3, .int t3, rfl, rfl, SqT.of hm2, atI_nat (j := 3) rfl, _, rfl, t3, b, rfl, rfl, ⟨b0, sm b bb⟩, ?_⟩
          exact ⟨_, rfl, _, rfl, l2, fun t5 h5 => ⟨(by show 1 ≤ sizeLine; omega), fun L hL => fin _ _ (by simp [cand, marksT, a0]) t5 h5 L hL⟩⟩
        | true =>
          refine iteF ⟨_, rfl, rfl, _, rfl, ?_⟩
          rw [da]
          refine iteF ⟨_, rfl, m, _, 1, .int (t1 + t2), rfl, rfl, SqT.of hm2, atI_nat (j := 1) rfl, _, rfl, t1 + t2, b, rfl, rfl, ⟨b0, sm b bb⟩, ?_⟩
          refine ⟨_, rfl, rfl, _, rfl, ?_⟩
          rw [da]
          refine iteF ⟨_, rfl, m, _, 2, .int t3, rfl, rfl, SqT.of hm2, atI_nat (j := 2) rfl, _, rfl, t3, b, rfl, rfl, ⟨b0, sm b bb⟩, ?_⟩
          exact ⟨_, rfl, _, rfl, l2, fun t5 h5 => ⟨(by show 1 ≤ sizeLine; omega), fun L hL => fin _ _ (by simp [cand, marksT, a0]) t5 h5 L hL⟩⟩
      · have da : decide (V.int a = V.int 0) = false := decide_eq_false fun z => a0 (V.int.inj z)
        cases turn with
        | false =>
          refine iteT ⟨_, rfl, rfl, _, rfl, ?_⟩
          rw [da]
          refine iteT ⟨_, rfl, m, _, 0, .int t0, rfl, rfl, SqT.of hm2, atI_nat (j := 0) rfl, _, rfl, t0, a, rfl, rfl, ⟨a0, sm a ba⟩, ?_⟩
          refine ⟨_, rfl, rfl, _, rfl, ?_⟩
          rw [da]
          refine iteT ⟨_, rfl, m, _, 1, .int t1, rfl, rfl, SqT.of hm2, atI_nat (j := 1) rfl, _, rfl, t1, a, rfl, rfl, ⟨a0, sm a ba⟩, ?_⟩
          exact ⟨_, rfl, _, rfl, l2, fun t5 h5 => ⟨(by show 1 ≤ sizeLine; omega), fun L hL => fin _ _ (by simp [cand, marksT, a0]) t5 h5 L hL⟩⟩
        | true =>
          refine iteF ⟨_, rfl, rfl, _, rfl, ?_⟩
          rw [da]
          refine iteT ⟨_, rfl, m, _, 0, .int t0, rfl, rfl, SqT.of hm2, atI_nat (j := 0) rfl, _, rfl, t0, a, rfl, rfl, ⟨a0, sm a ba⟩, ?_⟩
          refine ⟨_, rfl, rfl, _, rfl, ?_⟩
          rw [da]
          have bt0 : (t0.fdiv a).natAbs < 2 ^ 21 := by
            have h1 := fdiv_le t0 a
            have h2 := bm t0 (by simp [marksT])
            have z : (2 : Nat) ^ 20 = 1048576 := rfl
            have y : (2 : Nat) ^ 21 = 2097152 := rfl
            omega
          have bb4 : b.natAbs < 2 ^ 4 := by show _ < 16; omega
          refine iteT ⟨_, rfl, m, _, 1, .int (t1 + t2), rfl, rfl, SqT.of hm2, atI_nat (j := 1) rfl, _, rfl, _, rfl, b, _, rfl, rfl, wide_mul bb4 bt0 (by decide) (by decide) (by decide), t1 + t2, _, rfl, rfl, _, rfl, _, a, rfl, rfl, ⟨a0, sm a ba⟩, ?_⟩
          exact ⟨_, rfl, _, rfl, l2, fun t5 h5 => ⟨(by show 1 ≤ sizeLine; omega), fun L hL => fin _ _ (by simp [cand, marksT, a0]) t5 h5 L hL⟩⟩
    · rintro σ G ⟨c, e, f, L, t5, rfl, hc, s3, hf, hf3, hL, h5, fL⟩
      have hw3 := s3 _ _ hw
      have hm3 := s3 _ _ hm
      have n14 : ∀ z : Int, z.natAbs ≤ 14 → z.natAbs < 2 ^ 100 := fun z h => Nat.lt_of_le_of_lt h (by decide)
      have ce := cand_bd bb bm hc
      have b100 : ∀ z : Int, z.natAbs < 2 ^ 60 → z.natAbs < 2 ^ 100 := fun z h => Nat.lt_of_lt_of_le h (by decide)
      have b9000 : ∀ z : Int, z.natAbs < 2 ^ 60 → z.natAbs < 2 ^ 9000 := fun z h => Nat.lt_of_lt_of_le h (Nat.pow_le_pow_right (by decide) (by decide))
      have got := partners_one (d := d) n0 hc
      generalize hres : (if marksT turn (prod4 (a, b, c, e)) = marksT turn t ∧ sg d c e = 1 then [(a, b, c, e)] else []) = res at got
      have up : ∀ {G' : Hp} (xs : List V), Same H G' → Same H (upd G' f (.lst xs)) := fun xs s a o z => (upd_ne (ne_of_none z hf)).trans (s a o z)
      refine ⟨_, rfl, L, rfl, ⟨_, SqL.of hL⟩, for_list (K := K) (a := L) (xs := [.ref t5]) (fun i σ G' => ∃ y4, σ = [some (.ref wd), some (.ref m), some (.int d), some (.bl turn), y4, some (.ref f), some (.int c), some (.int e), some (.ref L), some (.int a), some (.int b)] ∧ Same H G' ∧ G' L = some (.lst [.ref t5]) ∧ G' t5 = some (.tup [.int c, .int e]) ∧ ∃ ks : List (Sh × Addr), ShsL G' f ks ∧ ks.map Prod.fst = if i = 0 then [] else res)
        ⟨_, rfl, s3, hL, h5, [], ⟨hf3, fun y hy => by cases hy⟩, rfl⟩ (fun i σ G' _ ⟨_, _, _, h, _⟩ => SqL.of h) ?_ ?_⟩
      · rintro i x σ G' hx ⟨y4, rfl, sG, hL', h5', ks, R, ek⟩
        obtain rfl : i = 0 := by
          have := (List.getElem?_eq_some_iff.mp hx).1
          simp at this
          exact this
        cases hx
        rw [if_pos rfl] at ek
        obtain rfl : ks = [] := List.map_eq_nil_iff.mp ek
        have done : ∀ {G2 : Hp}, Same G' G2 → res = [] → ∃ y4, [some (.ref wd), some (.ref m), some (.int d), some (.bl turn), some (.ref t5), some (.ref f), some (.int c), some (.int e), some (.ref L), some (.int a), some (.int b)] = [some (V.ref wd), some (.ref m), some (.int d), some (.bl turn), y4, some (.ref f), some (.int c), some (.int e), some (.ref L), some (.int a), some (.int b)] ∧ Same H G2 ∧ G2 L = some (.lst [.ref t5]) ∧ G2 t5 = some (.tup [.int c, .int e]) ∧ ∃ ks : List (Sh × Addr), ShsL G2 f ks ∧ ks.map Prod.fst = if 0 + 1 = 0 then [] else res := fun g er =>
          ⟨_, rfl, sG.trans g, g _ _ hL', g _ _ h5', [], R.same g, by rw [er]; rfl⟩
        refine ⟨_, rfl, _, rfl, l2, fun p5 hp5 => ?_⟩
        have g1 := same_new (o := .tup [.ref wd, .ref t5]) hp5
        refine ⟨p5, (a, b, c, e), rfl, ⟨wd, t5, upd_same, g1 _ _ (sG _ _ hw), g1 _ _ h5'⟩, mk4 (n14 a ba) (n14 b bb) (b100 c ce.1) (b100 e ce.2), fun m2 H2 g2 hm2 => ?_⟩
        refine ⟨_, rfl, m2, prod4 (a, b, c, e), turn, rfl, hm2, fun p6 H3 g3 hp6 => ?_⟩
        have g13 := g1.trans (g2.trans g3)
        refine ⟨_, rfl, _, _, dints hp6, dints (g13 _ _ (sG _ _ hm)), shaped_ints _, shaped_ints _, _, rfl, ?_⟩
        rw [eqv_ints]
        by_cases em : marksT turn (prod4 (a, b, c, e)) = marksT turn t
        · rw [decide_eq_true em]
          refine iteT ⟨_, rfl, _, rfl, t5, d, c, e, rfl, SqT.of (g13 _ _ h5'), root64 hd, b9000 c ce.1, b9000 e ce.2, rfl, _, rfl, ?_⟩
          by_cases es : sg d c e = 1
          · rw [show decide (V.int (sgnI (vl c e d)) = V.int 1) = true from decide_eq_true (congrArg V.int es)]
            refine iteT ⟨_, rfl, .inl ⟨rfl, _, SqL.of (g13 _ _ R.1)⟩, _, rfl, _, rfl, l2, fun q7 hq7 => ?_⟩
            have g4 := same_new (o := .tup [.ref wd, .ref t5]) hq7
            have g14 := g13.trans g4
            obtain ⟨r1, r2, r3⟩ := shs_more (x := (a, b, c, e)) hf sG R g14 ⟨wd, t5, upd_same, g14 _ _ (sG _ _ hw), g14 _ _ h5'⟩
            have nt : t5 ≠ f := fun z => by
              rw [z, hf3] at h5
              cases h5
            refine ⟨f, _, _, rfl, rfl, r1, (by rw [sizeLine_eq]; decide), _, rfl, r2, (upd_ne fL.symm).trans (g14 _ _ hL'), (upd_ne nt).trans (g14 _ _ h5'), _, r3, ?_⟩
            show _ = res
            rw [← hres, if_pos ⟨em, es⟩]
            rfl
          · rw [show decide (V.int (sgnI (vl c e d)) = V.int 1) = false from decide_eq_false fun z => es (V.int.inj z)]
            exact iteF (done g13 (by rw [← hres, if_neg fun z => es z.2]))
        · rw [decide_eq_false em]
          exact iteF (done g13 (by rw [← hres, if_neg fun z => em z.1]))
      · rintro σ G' ⟨y4, rfl, sG, hL', h5', ks, R, ek⟩
        refine ⟨_, rfl, q f G' ks hf sG R ?_⟩
        rw [ek, if_neg (by simp)]
        exact got
end
/-! ### what the law's stocks and lists are -/
def Sm2 (x : Sh) : Prop := x.1.natAbs ≤ 2 ∧ x.2.1.natAbs ≤ 2 ∧ x.2.2.1.natAbs ≤ 2 ∧ x.2.2.2.natAbs ≤ 2
def ShT (d : Int) (x : Sh) : Prop := LenT d x.1 x.2.1 ∧ LenT d x.2.2.1 x.2.2.2
theorem ShT.b {d : Int} {x : Sh} (h : ShT d x) : ShB d x := ⟨h.1.b, h.2.b⟩
theorem ShT.sm {d : Int} {x : Sh} (h : ShT d x) : Sm2 x := ⟨h.1.2.1, h.1.2.2, h.2.2.1, h.2.2.2⟩
structure TinyE (d : Int) (es : DEs) : Prop where
  nd : (keysD es).Nodup
  len : es.length ≤ 2
  some : es ≠ []
  wi : Within (ShB d) 10 es
  sum : ∀ φ : Sh → Int, (∀ x, Sm2 x → (φ x).natAbs ≤ 4) → (wsum φ es).natAbs ≤ 16
theorem tiny_one {d n : Int} {x : Sh} {p : Addr} (hx : ShT d x) (n1 : 1 ≤ n) (n3 : n ≤ 3) : TinyE d [(x, p, n)] where
  nd := by simp [keysD]
  len := by simp
  some := by simp
  wi := fun e he => by
    rw [List.mem_singleton.mp he]
    exact ⟨hx.b, n1, Int.le_trans n3 (by decide)⟩
  sum := fun φ h => by
    have h4 := h x hx.sm
    have : (wsum φ [(x, p, n)]).natAbs ≤ 3 * 4 := by
      simp only [wsum, List.map_cons, List.map_nil, List.sum_cons, List.sum_nil, Int.add_zero, Int.natAbs_mul]
      exact Nat.mul_le_mul (by omega) h4
    omega
theorem tiny_two {d n : Int} {x y : Sh} {p q : Addr} (hx : ShT d x) (hy : ShT d y) (n1 : 1 ≤ n) (n3 : n ≤ 3) : TinyE d (mergeD ([(x, p, n)] ++ [(y, q, 1)])) where
  nd := merge_nodup _
  len := merge_len _
  some := fun z => by
    have h := merge_wsum (fun _ => 1) ([(x, p, n)] ++ [(y, q, 1)])
    rw [z] at h
    simp [wsum] at h
    omega
  wi := by
    refine (merge_within (M := 3) (by decide) fun e he => ?_).up (by simp)
    rcases List.mem_append.mp he with he | he
    · rw [List.mem_singleton.mp he]
      exact ⟨hx.b, n1, n3⟩
    · rw [List.mem_singleton.mp he]
      exact ⟨hy.b, Int.le_refl 1, (show (1 : Int) ≤ 3 by decide)⟩
  sum := fun φ h => by
    have h4 := h x hx.sm
    have h5 := h y hy.sm
    rw [merge_wsum]
    have : (n * φ x).natAbs ≤ 3 * 4 := by
      rw [Int.natAbs_mul]
      exact Nat.mul_le_mul (by omega) h4
    simp only [wsum, List.cons_append, List.nil_append, List.map_cons, List.map_nil, List.sum_cons, List.sum_nil, Int.add_zero, Int.one_mul]
    omega
theorem heapE_wsum {es : DEs} (nd : (keysD es).Nodup) (φ : Sh → Int) : wsum φ (heapE es) = wsum φ es := by
  unfold heapE
  rw [wsum_perm (sortE_perm (merge_nodup _)), merge_wsum, wsum_perm (sortE_perm nd)]
theorem po_entry {d a b c e n : Int} (hd : IsRoot d) (h1 : 0 < vl a b d) (h2 : 0 < vl c e d) (n1 : 1 ≤ n) : Po d (n * (c * a) + d * (n * (e * b))) (n * (e * a) + n * (c * b)) := by
  have d0 : 0 < d := by have := hd.1; omega
  have p := Po.mul d0 ((po_iff hd).mpr h1) ((po_iff hd).mpr h2)
  have pn : Po d n 0 := .inl ⟨by
    have := Int.mul_pos (show 0 < n by omega) (show 0 < n by omega)
    simp only [Int.mul_zero]
    exact this, by omega⟩
  have r := Po.mul d0 p pn
  have e1 : (a * c + d * b * e) * n + d * (a * e + b * c) * 0 = n * (c * a) + d * (n * (e * b)) := by grind
  have e2 : (a * c + d * b * e) * 0 + (a * e + b * c) * n = n * (e * a) + n * (c * b) := by grind
  rw [e1, e2] at r
  exact r
theorem po_sum {d M : Int} (hd : IsRoot d) : ∀ {es : DEs}, Within (ShB d) M es → es ≠ [] → Po d (wsum f00 es + d * wsum f11 es) (wsum f01 es + wsum f10 es)
  | [], _, h => absurd rfl h
  | [x], w, _ => by
    obtain ⟨⟨h1, h2⟩, n1, _⟩ := w x List.mem_cons_self
    have := po_entry hd h1.1 h2.1 n1
    simp only [wsum, List.map_cons, List.map_nil, List.sum_cons, List.sum_nil, Int.add_zero, f00, f01, f10, f11]
    exact this
  | x :: y :: es, w, _ => by
    obtain ⟨⟨h1, h2⟩, n1, _⟩ := w x List.mem_cons_self
    have a := po_entry hd h1.1 h2.1 n1
    have b := po_sum hd (es := y :: es) (fun e he => w e (List.mem_cons_of_mem _ he)) (by simp)
    have r := Po.add hd a b
    rw [wsum_cons f00 x, wsum_cons f11 x, wsum_cons f01 x, wsum_cons f10 x]
    simp only [f00, f01, f10, f11]
    rw [Int.mul_add]
    have e1 : ∀ {p q r s x y z w : Int}, Po d (p + q + (r + s)) (x + y + (z + w)) → Po d (p + r + (q + s)) (x + z + (y + w)) := fun {p q r s x y z w} h => by
      rw [show p + r + (q + s) = p + q + (r + s) by omega, show x + z + (y + w) = x + y + (z + w) by omega]
      exact h
    exact e1 r
theorem sm4 {a b : Int} (h1 : a.natAbs ≤ 2) (h2 : b.natAbs ≤ 2) : (a * b).natAbs ≤ 4 := by
  rw [Int.natAbs_mul]
  exact Nat.mul_le_mul h1 h2
theorem TinyE.one {d : Int} {es : DEs} (hd : IsRoot d) (h : TinyE d es) : OneH d (heapE es) := by
  have e0 := heapE_wsum h.nd f00
  have e1 := heapE_wsum h.nd f01
  have e2 := heapE_wsum h.nd f10
  have e3 := heapE_wsum h.nd f11
  have b0 := h.sum f00 fun x z => sm4 z.2.2.1 z.1
  have b1 := h.sum f01 fun x z => sm4 z.2.2.2 z.1
  have b2 := h.sum f10 fun x z => sm4 z.2.2.1 z.2.1
  have b3 := h.sum f11 fun x z => sm4 z.2.2.2 z.2.1
  have et : tabH (heapE es) = (wsum f00 es, wsum f01 es, wsum f10 es, wsum f11 es) := by
    unfold tabH
    rw [e0, e1, e2, e3]
  have pos : Pos4 d (tabH (heapE es)) := by
    rw [et]
    exact sg_pos hd (po_sum hd h.wi h.some)
  refine ⟨hd, ?_, pos, ?_, fun turn => ?_⟩
  · have wi2 := (merge_within (by decide) (h.wi.perm (sortE_perm h.nd))).perm (sortE_perm (merge_nodup _))
    refine Within.small wi2 ?_
    have := h.len
    rw [(sortE_perm h.nd).length_eq]
    omega
  · rw [et]
    have up : ∀ z : Int, z.natAbs ≤ 16 → z.natAbs < 2 ^ 10 := fun z y => Nat.lt_of_le_of_lt y (by decide)
    exact mk4 (up _ b0) (up _ b1) (up _ b2) (up _ b3)
  · have n0 := pos
    rw [et] at pos ⊢
    obtain ⟨n, hn, z, le⟩ : ∃ n ∈ marksT turn (wsum f00 es, wsum f01 es, wsum f10 es, wsum f11 es), n ≠ 0 ∧ n.natAbs ≤ 32 := by
      generalize wsum f00 es = t0 at *
      generalize wsum f01 es = t1 at *
      generalize wsum f10 es = t2 at *
      generalize wsum f11 es = t3 at *
      cases turn with
      | true =>
        by_cases a0 : t0 = 0
        · by_cases a1 : t1 + t2 = 0
          · refine ⟨t3, by simp [marksT], fun a3 => sg_one hd pos ⟨?_, a1⟩, by omega⟩
            simp only [a0, a3, Int.mul_zero, Int.add_zero]
          · exact ⟨t1 + t2, by simp [marksT], a1, by omega⟩
        · exact ⟨t0, by simp [marksT], a0, by omega⟩
      | false =>
        have nn := pos_not0 hd pos
        by_cases a0 : t0 = 0
        · by_cases a1 : t1 = 0
          · by_cases a2 : t2 = 0
            · exact ⟨t3, by simp [marksT], fun a3 => nn ⟨a0, a1, a2, a3⟩, by omega⟩
            · exact ⟨t2, by simp [marksT], a2, by omega⟩
          · exact ⟨t1, by simp [marksT], a1, by omega⟩
        · exact ⟨t0, by simp [marksT], a0, by omega⟩
    have := gcdL_le hn z
    omega
/-- the sheets that are told, and those that are due -/
def GoodX (turn : Bool) (d : Int) (ms : List Int) (x : Sh) : Prop := sg d x.1 x.2.1 = 1 ∧ sg d x.2.2.1 x.2.2.2 = 1 ∧ marksT turn (prod4 x) = ms
structure Told (turn : Bool) (d : Int) (ms : List Int) (ks : List (Sh × Addr)) : Prop where
  nd : (ks.map Prod.fst).Nodup
  up : ks.Pairwise fun a b => leS a.1 b.1 = true
  mem : ∀ x, x ∈ ks.map Prod.fst ↔ GoodX turn d ms x
theorem told_none {turn : Bool} {d : Int} {t : P4} (h : FacOf turn t none) : Told turn d (marksT turn t) [] :=
  ⟨List.nodup_nil, .nil, fun x => ⟨fun z => (by cases z), fun z => absurd z.2.2 (no_sheets h x)⟩⟩
theorem made_sg {d : Int} (hd : IsRoot d) {turn : Bool} {t : P4} {u v : P2} (S : Sides turn d t u v) {c : Int} {x : Int × Int × Int × Int} (h : Made turn u v c x) : sg d x.1 x.2.1 = 1 ∧ sg d x.2.2.1 x.2.2.2 = 1 := by
  obtain ⟨e, f, e0, f0, _, h⟩ := h
  have k : ∀ {z a b : Int}, 0 < z → sg d a b = 1 → sg d (z * a) (z * b) = 1 := fun z0 s => by rw [sg_scale hd, s, sgnI_pos z0]; rfl
  rcases h with rfl | ⟨_, rfl⟩
  · exact ⟨k e0 S.su, k f0 S.sv⟩
  · exact ⟨k e0 S.sv, k f0 S.su⟩
theorem told_sides {turn : Bool} {d : Int} {t : P4} {u v : P2} {ks : List (Sh × Addr)} (hd : IsRoot d) (S : Sides turn d t u v) (all : AllMade turn u v (gcdL (marksT turn t)) (ks.map Prod.fst)) (nd : (ks.map Prod.fst).Nodup) (up : ks.Pairwise fun a b => leS a.1 b.1 = true) : Told turn d (marksT turn t) ks :=
  ⟨nd, up, fun x => (all x).trans ⟨fun z => by
    obtain ⟨s1, s2⟩ := made_sg hd S z
    exact ⟨s1, s2, (sheets_are hd S s1 s2).mpr z⟩, fun z => (sheets_are hd S z.1 z.2.1).mp z.2.2⟩⟩
theorem sides_some {turn : Bool} {d : Int} {t : P4} {u v : P2} (hd : IsRoot d) (S : Sides turn d t u v) : Made turn u v (gcdL (marksT turn t)) (u.1, u.2, gcdL (marksT turn t) * v.1, gcdL (marksT turn t) * v.2) :=
  ⟨1, gcdL (marksT turn t), by decide, S.cp, Int.one_mul _, .inl (by rw [Int.one_mul, Int.one_mul])⟩
theorem one_or {turn : Bool} {d : Int} {t : P4} {u v : P2} (hd : IsRoot d) (S : Sides turn d t u v) (h : FacOf turn t none) : False := by
  have m := sides_some hd S
  obtain ⟨s1, s2⟩ := made_sg hd S m
  exact no_sheets h _ ((sheets_are hd S s1 s2).mpr m)
def inB (x : Sh) : Bool := decide (ab x.1 ≤ 14) && decide (ab x.2.1 ≤ 14)
structure Due (turn : Bool) (d : Int) (ms : List Int) (D : List (Sh × Addr)) : Prop where
  nd : (D.map Prod.fst).Nodup
  mem : ∀ x, x ∈ D.map Prod.fst ↔ inB x = true ∧ GoodX turn d ms x
theorem map_filter_fst (p : Sh → Bool) : ∀ ks : List (Sh × Addr), (ks.filter fun y => p y.1).map Prod.fst = (ks.map Prod.fst).filter p
  | [] => rfl
  | y :: ks => by
    rw [List.filter_cons, List.map_cons, List.filter_cons]
    split
    · rw [List.map_cons, map_filter_fst p ks]
    · exact map_filter_fst p ks
theorem near_due {turn : Bool} {d : Int} {ms : List Int} {ks D : List (Sh × Addr)} (A : Told turn d ms ks) (B : Due turn d ms D) : (ks.filter fun y => inB y.1).map Prod.fst = (D.mergeSort fun a b => leS a.1 b.1).map Prod.fst := by
  have pm := List.mergeSort_perm D fun a b => leS a.1 b.1
  have p1 : ((ks.filter fun y => inB y.1).map Prod.fst).Pairwise fun a b => leS a b = true := List.pairwise_map.mpr (A.up.sublist List.filter_sublist)
  have p2 : ((D.mergeSort fun a b => leS a.1 b.1).map Prod.fst).Pairwise fun a b => leS a b = true := List.pairwise_map.mpr (List.pairwise_mergeSort (fun a b c => leS_trans a.1 b.1 c.1) (fun a b => leS_total a.1 b.1) D)
  refine List.Perm.eq_of_pairwise (fun _ _ _ _ => leS_antisymm) p1 p2 ?_
  refine (List.perm_ext_iff_of_nodup ?_ ((pm.map Prod.fst).nodup_iff.mpr B.nd)).mpr fun x => ?_
  · rw [map_filter_fst]
    exact A.nd.filter _
  · rw [map_filter_fst, List.mem_filter, (pm.map Prod.fst).mem_iff, B.mem, A.mem]
    exact And.comm
/-! ### what is due, cell by cell -/
def Cell (i j : Nat) (x : Sh) : Prop := inB x = true ∧ (x.1 < -14 + (i : Int) ∨ (x.1 = -14 + (i : Int) ∧ x.2.1 < -14 + (j : Int)))
structure DueTo (turn : Bool) (d : Int) (ms : List Int) (i j : Nat) (ks : List (Sh × Addr)) : Prop where
  nd : (ks.map Prod.fst).Nodup
  mem : ∀ x, x ∈ ks.map Prod.fst ↔ Cell i j x ∧ GoodX turn d ms x
  len : ks.length ≤ 29 * i + j
theorem inB_iff (x : Sh) : inB x = true ↔ -14 ≤ x.1 ∧ x.1 ≤ 14 ∧ -14 ≤ x.2.1 ∧ x.2.1 ≤ 14 := by
  unfold inB ab
  rw [Bool.and_eq_true, decide_eq_true_iff, decide_eq_true_iff]
  constructor
  · rintro ⟨h1, h2⟩
    split at h1 <;> split at h2 <;> omega
  · rintro ⟨h1, h2, h3, h4⟩
    constructor <;> split <;> omega
theorem due_zero (turn : Bool) (d : Int) (ms : List Int) : DueTo turn d ms 0 0 [] := ⟨List.nodup_nil, fun x => ⟨fun z => (by cases z), fun ⟨⟨h1, h2⟩, _⟩ => by
  rw [inB_iff] at h1
  omega⟩, Nat.zero_le _⟩
theorem due_row {turn : Bool} {d : Int} {ms : List Int} {i : Nat} {ks : List (Sh × Addr)} (h : DueTo turn d ms i 29 ks) : DueTo turn d ms (i + 1) 0 ks := ⟨h.nd, fun x => by
  rw [h.mem x]
  unfold Cell
  rw [inB_iff]
  constructor
  · rintro ⟨⟨h1, h2⟩, g⟩
    exact ⟨⟨h1, by omega⟩, g⟩
  · rintro ⟨⟨h1, h2⟩, g⟩
    exact ⟨⟨h1, by omega⟩, g⟩, by have := h.len; omega⟩
theorem due_no {turn : Bool} {d : Int} {ms : List Int} {i j : Nat} {ks : List (Sh × Addr)} (h : DueTo turn d ms i j ks) (no : sg d (-14 + (i : Int)) (-14 + (j : Int)) ≠ 1) : DueTo turn d ms i (j + 1) ks := ⟨h.nd, fun x => by
  rw [h.mem x]
  constructor
  · rintro ⟨⟨h1, h2⟩, g⟩
    exact ⟨⟨h1, by omega⟩, g⟩
  · rintro ⟨⟨h1, h2⟩, g⟩
    refine ⟨⟨h1, ?_⟩, g⟩
    rcases h2 with z | ⟨z1, z2⟩
    · exact .inl z
    · refine .inr ⟨z1, ?_⟩
      rcases Int.lt_or_eq_of_le (show x.2.1 ≤ -14 + (j : Int) by omega) with y | y
      · exact y
      · have := g.1
        rw [z1, y] at this
        exact absurd this no, Nat.le_succ_of_le h.len⟩
theorem due_yes {turn : Bool} {d : Int} {ms : List Int} {i j : Nat} {ks kn : List (Sh × Addr)} (h : DueTo turn d ms i j ks) (hi : i < 29) (hj : j < 29) (yes : sg d (-14 + (i : Int)) (-14 + (j : Int)) = 1) (p : Partners turn d (-14 + (i : Int)) (-14 + (j : Int)) ms (kn.map Prod.fst)) : DueTo turn d ms i (j + 1) (ks ++ kn) := by
  obtain ⟨p1, p2, p3⟩ := p
  refine ⟨?_, fun x => ?_, ?_⟩
  · rw [List.map_append]
    refine List.nodup_append.mpr ⟨h.nd, ?_, fun x hx y hy e => ?_⟩
    · match hk : kn.map Prod.fst, p3 with
      | [], _ => exact List.nodup_nil
      | [x], _ => exact List.nodup_cons.mpr ⟨by simp, List.nodup_nil⟩
      | _ :: _ :: _, q => simp at q
    · subst e
      obtain ⟨⟨_, c⟩, _⟩ := (h.mem x).mp hx
      obtain ⟨q1, q2, _⟩ := p1 x hy
      omega
  · rw [List.map_append, List.mem_append, h.mem x]
    constructor
    · rintro (⟨⟨h1, h2⟩, g⟩ | hx)
      · exact ⟨⟨h1, by omega⟩, g⟩
      · obtain ⟨q1, q2, q3, q4⟩ := p1 x hx
        refine ⟨⟨(inB_iff x).mpr (by omega), .inr ⟨q1, by omega⟩⟩, ?_, q4, q3⟩
        rw [q1, q2]
        exact yes
    · rintro ⟨⟨h1, h2⟩, g⟩
      by_cases c : x.1 = -14 + (i : Int) ∧ x.2.1 = -14 + (j : Int)
      · exact .inr (p2 x c.1 c.2 g.2.2 g.2.1)
      · exact .inl ⟨⟨h1, by omega⟩, g⟩
  · rw [List.length_append]
    rw [List.length_map] at p3
    have := h.len
    omega
theorem due_all {turn : Bool} {d : Int} {ms : List Int} {ks : List (Sh × Addr)} (h : DueTo turn d ms 29 0 ks) : Due turn d ms ks := ⟨h.nd, fun x => by
  rw [h.mem x]
  unfold Cell
  constructor
  · rintro ⟨⟨h1, _⟩, g⟩
    exact ⟨h1, g⟩
  · rintro ⟨h1, g⟩
    have := (inB_iff x).mp h1
    exact ⟨⟨h1, by omega⟩, g⟩⟩
theorem TinyE.marks {d : Int} {es : DEs} (h : TinyE d es) (turn : Bool) : ∀ n ∈ marksT turn (wsum f00 es, wsum f01 es, wsum f10 es, wsum f11 es), n.natAbs < 2 ^ 20 := by
  have b0 := h.sum f00 fun x z => sm4 z.2.2.1 z.1
  have b1 := h.sum f01 fun x z => sm4 z.2.2.2 z.1
  have b2 := h.sum f10 fun x z => sm4 z.2.2.1 z.2.1
  have b3 := h.sum f11 fun x z => sm4 z.2.2.2 z.2.1
  have up : ∀ z : Int, z.natAbs ≤ 32 → z.natAbs < 2 ^ 20 := fun z y => Nat.lt_of_le_of_lt y (by decide)
  generalize wsum f00 es = t0 at *
  generalize wsum f01 es = t1 at *
  generalize wsum f10 es = t2 at *
  generalize wsum f11 es = t3 at *
  intro n hn
  refine up n ?_
  cases turn <;> simp [marksT] at hn <;> omega
theorem TinyE.tab {d : Int} {es : DEs} (h : TinyE d es) : tabH (heapE es) = (wsum f00 es, wsum f01 es, wsum f10 es, wsum f11 es) := by
  unfold tabH
  rw [heapE_wsum h.nd, heapE_wsum h.nd, heapE_wsum h.nd, heapE_wsum h.nd]
/-! ### lists of sheets as data -/
theorem eqvS (x y : Sh) : PyData.eqv (encS x) (encS y) = decide (x = y) := by
  obtain ⟨a, b, c, e⟩ := x
  obtain ⟨a', b', c', e'⟩ := y
  simp only [encS, PyData.eqv, PyData.eqvAll, Prod.mk.injEq]
  by_cases h1 : a = a' <;> by_cases h2 : b = b' <;> by_cases h3 : c = c' <;> by_cases h4 : e = e' <;> simp [h1, h2, h3, h4]
theorem eqvAllS : ∀ a b : List Sh, PyData.eqvAll (a.map encS) (b.map encS) = decide (a = b)
  | [], [] => by simp [PyData.eqvAll]
  | [], _ :: _ => by simp [PyData.eqvAll]
  | _ :: _, [] => by simp [PyData.eqvAll]
  | x :: a, y :: b => by
    rw [List.map_cons, List.map_cons, PyData.eqvAll, eqvAllS a b, eqvS]
    by_cases h1 : x = y <;> by_cases h2 : a = b <;> simp [h1, h2]
theorem eqv_shs (a b : List Sh) : PyData.eqv (.list (a.map encS)) (.list (b.map encS)) = decide (a = b) := by
  rw [← eqvAllS a b]
  simp only [PyData.eqv]
theorem shaped_shs (a : List Sh) : SeqAt.shaped (.list (a.map encS)) = true := by
  have h : ∀ a : List Sh, PyData.canLayAll0 (a.map encS) = true ∧ PyData.depthAll (a.map encS) ≤ 2 := by
    intro a
    induction a with
    | nil => exact ⟨by simp [PyData.canLayAll0], by simp [PyData.depthAll]⟩
    | cons e es ih => exact ⟨by simp [PyData.canLayAll0, PyData.canLay0, encS, ih.1], by simp [PyData.depthAll, PyData.depth, encS, ih.2]⟩
  obtain ⟨h1, h2⟩ := h a
  unfold SeqAt.shaped
  rw [Bool.and_eq_true]
  refine ⟨by simp [PyData.canLay0, h1], decide_eq_true ?_⟩
  simp only [PyData.depth]
  omega
theorem ShsL.dp {K : PySem.W.Frag} {H : Hp} {l : Addr} {ks : List (Sh × Addr)} (R : ShsL H l ks) : Dp K H (.ref l) (.list ((ks.map Prod.fst).map encS)) := by
  obtain ⟨h, hk⟩ := R
  refine .lst (SqL.of h) ?_
  clear h
  induction ks with
  | nil => exact .nil
  | cons y ks ih => exact .cons (sh_dp (hk y List.mem_cons_self)) (ih fun z hz => hk z (List.mem_cons_of_mem _ hz))
/-! ### what the told sheets and the fewest sheets say of each other -/
section
variable {P : Program} {w : World}
def AltS (turn : Bool) (d : Int) (t : P4) (ks : List (Sh × Addr)) : Prop := (ks = [] ∧ FacOf turn t none) ∨ (ks ≠ [] ∧ ∃ u v, Sides turn d t u v)
theorem got_by {H : Hp} {turn : Bool} {d : Int} {es : DEs} {Q : VK} (hd : IsRoot d) (h : ∀ l H' (ks : List (Sh × Addr)), Same H H' → ShsL H' l ks → Told turn d (marksT turn (tabH es)) ks → ks.length < 64 → AltS turn d (tabH es) ks → Q (.ref l) H') : GotSheets H turn d es Q :=
by
  refine ⟨fun no l H' _ s R => h l H' [] s R (told_none no) (by decide) (.inl ⟨rfl, no⟩), fun u v S l H' ks _ s R all nd up few => h l H' ks s R (told_sides hd S all nd up) few (.inr ⟨fun e => ?_, u, v, S⟩)⟩
  have := (all _).mpr (sides_some hd S)
  rw [e] at this
  cases this
theorem AltS.no {turn : Bool} {d : Int} {t : P4} {ks : List (Sh × Addr)} (hd : IsRoot d) (a : AltS turn d t ks) (no : FacOf turn t none) : ks = [] := by
  rcases a with ⟨e, _⟩ | ⟨_, u, v, S⟩
  · exact e
  · exact (one_or hd S no).elim
theorem AltS.yes {turn : Bool} {d : Int} {t : P4} {ks : List (Sh × Addr)} (hd : IsRoot d) (a : AltS turn d t ks) {u v : P2} (S : Sides turn d t u v) : ks.map Prod.fst ≠ [] := by
  rcases a with ⟨_, no⟩ | ⟨ne, _⟩
  · exact (one_or hd S no).elim
  · exact fun z => ne (List.map_eq_nil_iff.mp z)
theorem last_none : (!decide (V.bl (!decide (([] : List Sh) = [])) = V.bl (decide (V.int 2 = V.int 1)))) = false := by decide
theorem last_some {a : List Sh} (h : a ≠ []) : (!decide (V.bl (!decide (a = [])) = V.bl (decide (V.int 1 = V.int 1)))) = false := by
  rw [decide_eq_false h]
  decide
end
/-! ### the law -/
section
variable {base : Heap} {K : PySem.W.Frag} {mg : Str → Option Value} {P : Program} {w : World}
def spLaw (K : PySem.W.Frag) : Sp := fun vs H Q _ => ∃ (a : Addr) (ns : List Int), vs = [.ref a] ∧ SqL K H a (ns.map V.int) ∧ ns.length ≤ 63 ∧ ∀ H', Q (.bl true) H'
theorem sortE_one (e : Sh × Addr × Int) : sortE [e] = [e] := by
  obtain ⟨x, p, n⟩ := e
  simp [sortE, sortK, valD]
/-- what stands behind the drawing of a stock -/
def Mid1 (P : Program) (w : World) (a bg sb : Addr) (turn : Bool) (d : Int) (σ : L2.St) (H : Hp) : Prop := ∃ (c : Addr) (es : DEs) (y2 y4 y5 y6 y7 y10 y11 y12 y13 y14 y15 y16 y17 : Option V),
  σ = [some (.ref a), some (.ref bg), y2, some (.ref c), y4, y5, y6, y7, some (.int d), some (.bl turn), y10, y11, y12, y13, y14, y15, y16, y17] ∧ Bag H bg sb ∧ DAt P w H c es ∧ TinyE d es
/-- what stands behind the search of all widths -/
def Mid2 (P : Program) (w : World) (C a bg sb : Addr) (turn : Bool) (d : Int) (σ : L2.St) (H : Hp) : Prop := ∃ (hp D : Addr) (es : DEs) (ks : List (Sh × Addr)) (y2 y3 y5 y6 y7 y10 y11 y13 y14 y16 y17 : Option V),
  σ = [some (.ref a), some (.ref bg), y2, y3, some (.ref D), y5, y6, y7, some (.int d), some (.bl turn), y10, y11, some (.ref hp), y13, y14, some (.int 14), y16, y17] ∧ Bag H bg sb ∧ HeapAt P w C H hp d (heapE es) ∧ TinyE d es ∧
  ShsL H D ks ∧ DueTo turn d (marksT turn (tabH (heapE es))) 29 0 ks
theorem ok_law {f : Addr} {fd : FuncData} (F : Fun K "law" "law" s_law f fd) (T : Txt K mg) : FnOk P w K mg base CX0 12 f fd ["_law_script"] (spLaw K) := by
  refine F.ok sc_law (fun vs H Q E h => ?_) (fun cdv A outer s H vs Q E hr h => ?_)
  · obtain ⟨a, ns, rfl, _⟩ := h
    rfl
  · obtain ⟨a, ns, rfl, hs, hn, q⟩ := h
    refine ⟨_, (pss_cons (ps_set (i := 1) sc_law.nd rfl (Or.inl rfl) (pe_call (ok_source T) (hr.mono (by decide)) (by rfl) T.g_source T.F_source.kp T.b_source .nil pass0 (pa_cons (pv 0) pa_nil)))
      (pss_cons (ps_for PassesOwn.never rfl (pi_range1 (by rfl) T.n_range (pa_cons pe_int pa_nil)) (pg_name (i := 2) sc_law.nd rfl (Or.inl rfl)) (pss_cons (ps_par (i := 8) (j := 9) (by rfl) sc_law.nd rfl rfl (by decide) rfl rfl (pa_cons (pe_call (ok_a_root T) (hr.mono (by decide)) (by rfl) T.g_a_root T.F_a_root.kp T.b_a_root .nil pass0 (pa_cons (pv 1) pa_nil)) (pa_cons (pe_cmpR op_eq (pe_call (ok_pull T) (hr.mono (by decide)) (by rfl) T.g_pull T.F_pull.kp T.b_pull .nil pass0 (pa_cons (pv 1) (pa_cons pe_int pa_nil))) pe_int (nomark _)) pa_nil)) (by rfl))
      (pss_cons (ps_par (i := 10) (j := 11) (by rfl) sc_law.nd rfl rfl (by decide) rfl rfl (pa_cons (pe_call (ok_low_length T) (hr.mono (by decide)) (by rfl) T.g_low_length T.F_low_length.kp T.b_low_length .nil pass0 (pa_cons (pv 1) (pa_cons (pv 8) pa_nil))) (pa_cons (pe_call (ok_low_length T) (hr.mono (by decide)) (by rfl) T.g_low_length T.F_low_length.kp T.b_low_length .nil pass0 (pa_cons (pv 1) (pa_cons (pv 8) pa_nil))) pa_nil)) (by rfl))
      (pss_cons (ps_set (i := 3) sc_law.nd rfl (Or.inl rfl) (pe_done hr.units (pe_tup (pa_cons (pv 10) (pa_cons (pv 11) pa_nil))) (pe_op op_add pe_int (pe_call (ok_pull T) (hr.mono (by decide)) (by rfl) T.g_pull T.F_pull.kp T.b_pull .nil pass0 (pa_cons (pv 1) (pa_cons pe_int pa_nil))))))
      (Evl.pss_cut (ps_if (pt_cmpR op_eq (pe_call (ok_pull T) (hr.mono (by decide)) (by rfl) T.g_pull T.F_pull.kp T.b_pull .nil pass0 (pa_cons (pv 1) (pa_cons pe_int pa_nil))) pe_int (nomark _)) (pss_one (ps_set (i := 3) sc_law.nd rfl (Or.inl rfl) (pe_call (ok_stock_of T) (hr.mono (by decide)) (by rfl) T.g_stock_of T.F_stock_of.kp T.b_stock_of .nil pass0 (pa_cons (pe_op op_cat (pe_call (ok_listed T) (hr.mono (by decide)) (by rfl) T.g_listed T.F_listed.kp T.b_listed .nil pass0 (pa_cons (pv 3) pa_nil)) (pe_lst (pa_cons (pe_tup (pa_cons (pe_tup (pa_cons (pv 11) (pa_cons (pe_call (ok_low_length T) (hr.mono (by decide)) (by rfl) T.g_low_length T.F_low_length.kp T.b_low_length .nil pass0 (pa_cons (pv 1) (pa_cons (pv 8) pa_nil))) pa_nil))) (pa_cons pe_int pa_nil))) pa_nil))) pa_nil)))) pss_nil)
      (pss_cons (ps_par (i := 12) (j := 13) (by rfl) sc_law.nd rfl rfl (by decide) rfl rfl (pa_cons (pe_call (ok_heap_of T) (hr.mono (by decide)) (by rfl) T.g_heap_of T.F_heap_of.kp T.b_heap_of .nil pass0 (pa_cons (pv 8) (pa_cons (pv 3) pa_nil))) (pa_cons (pe_call (ok_four T) (hr.mono (by decide)) (by rfl) T.g_four T.F_four.kp T.b_four .nil pass0 (pa_cons (pv 3) pa_nil)) pa_nil)) (by rfl))
      (pss_cons (ps_asg (pe_tup (pa_cons (pe_call (ok_marks_of T) (hr.mono (by decide)) (by rfl) T.g_marks_of T.F_marks_of.kp T.b_marks_of .nil pass0 (pa_cons (pv 13) (pa_cons (pv 9) pa_nil))) (pa_cons pe_int pa_nil))) (pg_tup (by rfl) (pgs_cons (pg_name (i := 14) sc_law.nd rfl (Or.inl rfl)) (pgs_cons (pg_name (i := 15) sc_law.nd rfl (Or.inr rfl)) pgs_nil))))
      (pss_cons (ps_set (i := 4) sc_law.nd rfl (Or.inl rfl) (pe_lst pa_nil))
      (Evl.pss_cut (ps_for PassesOwn.never rfl (pi_range2 (by rfl) T.n_range (pa_cons (pe_op op_sub pe_int (pv 15)) (pa_cons (pe_op op_add (pv 15) pe_int) pa_nil))) (pg_name (i := 5) sc_law.nd rfl (Or.inl rfl)) (pss_one (ps_for PassesOwn.never rfl (pi_range2 (by rfl) T.n_range (pa_cons (pe_op op_sub pe_int (pv 15)) (pa_cons (pe_op op_add (pv 15) pe_int) pa_nil))) (pg_name (i := 16) sc_law.nd rfl (Or.inl rfl)) (pss_one (ps_if (pt_cmpR op_eq (pe_call (ok_lsign T) (hr.mono (by decide)) (by rfl) T.g_lsign T.F_lsign.kp T.b_lsign .nil pass0 (pa_cons (pe_tup (pa_cons (pv 5) (pa_cons (pv 16) pa_nil))) (pa_cons (pv 8) pa_nil))) pe_int (nomark _)) (pss_one (ps_set (i := 4) sc_law.nd rfl (Or.inl rfl) (pe_op op_cat (pv 4) (pe_call (ok_partners T) (hr.mono (by decide)) (by rfl) T.g_partners T.F_partners.kp T.b_partners .nil pass0 (pa_cons (pe_tup (pa_cons (pv 5) (pa_cons (pv 16) pa_nil))) (pa_cons (pv 14) (pa_cons (pv 8) (pa_cons (pv 9) pa_nil)))))))) pss_nil)))))
      (pss_cons (ps_set (i := 6) sc_law.nd rfl (Or.inl rfl) (pe_callN (ok_single_sheets T) (hr.mono (by decide)) (by rfl) T.g_single_sheets T.F_single_sheets.kp T.kb_single_sheets_turning pass0 (pa_cons (pv 12) pa_nil) (pk_cons (pv 9) pk_nil)))
      (pss_cons (ps_setLc (i := 7) (own := [("_law_sheet", 17)]) (g := (gName 17)) (tt := tAnd (tTest (tOp (rI0 fun i j => .bl (decide (i ≤ j))) (tCB (fun xs H Q => ∃ i : Int, xs = [.int i] ∧ Q (.int (if i < 0 then -i else i)) H) (tCons (tOp (rIxT K) (tOp (rIxT K) (tVar 17) (tC (.int 0))) (tC (.int 0))) tNil)) (tVar 15))) (tTest (tOp (rI0 fun i j => .bl (decide (i ≤ j))) (tCB (fun xs H Q => ∃ i : Int, xs = [.int i] ∧ Q (.int (if i < 0 then -i else i)) H) (tCons (tOp (rIxT K) (tOp (rIxT K) (tVar 17) (tC (.int 0))) (tC (.int 1))) tNil)) (tVar 15)))) (by rfl) sc_law.nd rfl rfl (sw_true rfl rfl rfl (by decide +kernel)) (pi_list (pv 6)) (blkOk_by (own := [("_law_sheet", 17)]) (N := ["_law_script", "_law_bag", "_law_turn", "_law_stock", "_law_due", "_law_a", "_law_told", "_law_near", "_law_root", "_law_spins", "_law_one", "_law_two", "_law_heap", "_law_four_here", "_law_marks", "_law_most", "_law_b", "_law_sheet"]) (sc := defScope s_law) (by decide +kernel)) (fun _ _ _ _ _ => (pg_name (i := 17) sc_law.nd rfl (Or.inl rfl))) (fun _ _ _ _ _ => (pts_one (PW.pt (pw_and (pt_cmpR op_le (pe_callB call_abs (by rfl) T.n_abs (by decide +kernel) (pa_cons (pe_ix ix_tup (pe_ix ix_tup (pv 17) pe_int (fun _ _ => rfl)) pe_int (fun _ _ => rfl)) pa_nil)) (pv 15) (nomark _)) (pw_and1 (pt_cmpR op_le (pe_callB call_abs (by rfl) T.n_abs (by decide +kernel) (pa_cons (pe_ix ix_tup (pe_ix ix_tup (pv 17) pe_int (fun _ _ => rfl)) pe_int (fun _ _ => rfl)) pa_nil)) (pv 15) (nomark _))))))) (fun _ _ _ _ _ => (pv 17)))
      (pss_one (ps_if (PW.pt (pw_or (pt_cmpR (op_neD hr.units) (pv 7) (pe_callB (cr_sortedLS hr.units) (by rfl) T.n_sorted (by decide +kernel) (pa_cons (pv 4) pa_nil)) (nomark _)) (pw_or1 (pt_cmpR op_ne (pe_cmpR (op_neD hr.units) (pv 6) (pe_lst pa_nil) (nomark _)) (pe_cmpR op_eq (pe_callN (ok_fewest_sheets T) (hr.mono (by decide)) (by rfl) T.g_fewest_sheets T.F_fewest_sheets.kp T.kb_fewest_sheets_turning pass0 (pa_cons (pv 12) pa_nil) (pk_cons (pv 9) pk_nil)) pe_int (nomark _)) (nomark _))))) (pss_one (ps_ret pe_bl)) pss_nil)))))))))))))
      (pss_one (ps_ret pe_bl)))), ?_⟩
    have l2 : 2 ≤ sizeLine := by rw [sizeLine_eq]; decide
    refine ⟨.ref a, rfl, a, ns, rfl, hs, hn, fun bg sb H1 hb s1 B1 => ?_⟩
    refine ⟨3, rfl, by decide, by decide, for_range (lo := 0) (n := 3) (fun i σ H' => ∃ y2 y3 y4 y5 y6 y7 y8 y9 y10 y11 y12 y13 y14 y15 y16 y17, σ = [some (.ref a), some (.ref bg), y2, y3, y4, y5, y6, y7, y8, y9, y10, y11, y12, y13, y14, y15, y16, y17] ∧ Bag H' bg sb) ⟨none, none, none, none, none, none, none, none, none, none, none, none, none, none, none, none, rfl, B1⟩ ?_ ?_⟩
    · rintro i σ H2 hi ⟨y2, y3, y4, y5, y6, y7, y8, y9, y10, y11, y12, y13, y14, y15, y16, y17, rfl, B2⟩
      refine ⟨.ref bg, rfl, bg, sb, rfl, B2, fun d H3 hd B3 k3 => ?_⟩
      refine ⟨_, rfl, bg, sb, 2, rfl, B3, by decide, by decide, fun z H4 z0 z1 B4 k4 => ⟨rfl, _, _, rfl, ?_⟩⟩
      generalize decide (V.int z = V.int 0) = turn
      refine ⟨_, rfl, _, rfl, bg, sb, d, rfl, B4, hd, fun x1 x2 p1 H5 L1 np1 h1 B5 k5 => ?_⟩
      refine ⟨_, rfl, _, rfl, bg, sb, d, rfl, B5, hd, fun x3 x4 p2 H6 L2' np2 h2 B6 k6 => ⟨_, _, rfl, ?_⟩⟩
      have h16 := tup_keep B5 k6 _ _ h1
      intro c hc
      refine ⟨_, rfl, _, rfl, l2, fun t ht => ?_⟩
      have e1 := same_new (o := DS P w c []) hc
      have e2 := same_new (o := .tup [.ref p1, .ref p2]) ht
      have B7 := (B6.same e1).same e2
      have hx : ShAt (upd (upd H6 c (DS P w c [])) t (.tup [.ref p1, .ref p2])) t (x1, x2, x3, x4) := ⟨p1, p2, upd_same, (e1.trans e2) _ _ h16, (e1.trans e2) _ _ h2⟩
      have hD : (upd (upd H6 c (DS P w c [])) t (.tup [.ref p1, .ref p2])) c = some (DS P w c []) := e2 _ _ upd_same
      have nc := B6.ne hc
      refine ⟨_, rfl, bg, sb, 3, rfl, B7, by decide, by decide, fun n0 H7 n1 n2 B8 k7 => ⟨_, _, rfl, rfl, ?_⟩⟩
      have hx7 := hx.mono (tup_keep B7 k7)
      have hD7 := k7 _ _ nc hD
      have S : ShT d (x1, x2, x3, x4) := ⟨L1, L2'⟩
      have nt : ∀ q xs, H7 q = some (.tup xs) → q ≠ c := fun q xs z y => by
        rw [y, hD7] at z
        cases z
      have hx8 : ShAt (upd H7 c (DS P w c [((x1, x2, x3, x4), t, 1 + n0)])) t (x1, x2, x3, x4) := hx7.mono fun q xs z => (upd_ne (nt q xs z)).trans z
      have B9 : Bag (upd H7 c (DS P w c [((x1, x2, x3, x4), t, 1 + n0)])) bg sb := B8.put nc (B6.ne2 hc)
      refine ⟨t, (x1, x2, x3, x4), 1 + n0, rfl, rfl, ⟨hD7, fun y hy => by cases hy⟩, hx7, ?_⟩
      have D9 : DAt P w (upd H7 c (DS P w c [((x1, x2, x3, x4), t, 1 + n0)])) c [((x1, x2, x3, x4), t, 1 + n0)] := ⟨upd_same, fun y hy => by rw [List.mem_singleton.mp hy]; exact hx8⟩
      have hp2 : (upd H7 c (DS P w c [((x1, x2, x3, x4), t, 1 + n0)])) p2 = some (.tup [.int x3, .int x4]) := by
        have z := tup_keep B7 k7 _ _ ((e1.trans e2) _ _ h2)
        exact (upd_ne (nt _ _ z)).trans z
      have T1 : TinyE d [((x1, x2, x3, x4), t, 1 + n0)] := tiny_one S (by omega) (by omega)
      refine ⟨Mid1 P w a bg sb turn d, ?_, ?_⟩
      · refine ⟨_, rfl, bg, sb, 3, rfl, B9, by decide, by decide, fun z2 H9 z3 z4 B10 k9 => ⟨rfl, _, rfl, ?_⟩⟩
        have D10 := D9.keep B9 k9
        have hp29 := tup_keep B9 k9 _ _ hp2
        by_cases zz : z2 = 0
        · rw [show decide (V.int z2 = V.int 0) = true from decide_eq_true (congrArg V.int zz)]
          refine iteT ⟨_, rfl, c, _, rfl, D10, T1.nd, (by simp), fun l H10 hl s10 R => ?_⟩
          rw [sortE_one] at R
          refine ⟨_, rfl, _, rfl, _, rfl, bg, sb, d, rfl, B10.same s10, hd, fun w1 w2 p3 H11 L3 np3 h3 B11 k11 => ⟨l2, fun t6 h6 => ⟨l2, fun t7 h7 => ⟨(by show 1 ≤ sizeLine; omega), fun l8 h8 => ?_⟩⟩⟩⟩
          have hp2b := tup_keep (B10.same s10) k11 _ _ (s10 _ _ hp29)
          have g6 := same_new (o := .tup [.ref p2, .ref p3]) h6
          have g7 := same_new (o := .tup [.ref t6, .int 1]) h7
          have g8 := same_new (o := .lst [.ref t7]) h8
          have g68 := g6.trans (g7.trans g8)
          have R11 := (R.keep (B10.same s10) (B10.ne hl) k11).same g68
          have hy : ShAt (upd (upd (upd H11 t6 (.tup [.ref p2, .ref p3])) t7 (.tup [.ref t6, .int 1])) l8 (.lst [.ref t7])) t6 (x3, x4, w1, w2) := ⟨p2, p3, (g7.trans g8) _ _ upd_same, g68 _ _ hp2b, g68 _ _ h3⟩
          obtain ⟨xs, r1, r2, r3⟩ := R11.more (bs := [t7]) (fs := [((x3, x4, w1, w2), t6, 1)]) (.cons (g8 _ _ upd_same) .nil) (fun e he => by rw [List.mem_singleton.mp he]; exact hy) upd_same
          refine ⟨l, l8, xs, [.ref t7], rfl, rfl, r1, upd_same, (by rw [r2, sizeLine_eq]; simp), fun q8 hq8 => ?_⟩
          refine ⟨q8, _, rfl, r3 q8 hq8, (by simp), fun c2 H12 hc2 s12 D12 => ?_⟩
          have B12 := ((B11.same g68).new hq8 (o := .lst (xs ++ [t7].map V.ref))).same s12
          exact ⟨c2, _, _, _, _, _, _, _, _, _, _, _, _, _, _, rfl, B12, D12, tiny_two S ⟨L2', L3⟩ (by omega) (by omega)⟩
        · rw [show decide (V.int z2 = V.int 0) = false from decide_eq_false fun y => zz (V.int.inj y)]
          exact iteF ⟨c, _, _, _, _, _, _, _, _, _, _, _, _, _, _, rfl, B10, D10, T1⟩
      · rintro σ H12 ⟨c2, es, y2, y4, y5, y6, y7, y10, y11, y12, y13, y14, y15, y16, y17, rfl, B12, D12, TE⟩
        have et := TE.tab
        have TM := TE.marks turn
        have le2 := TE.len
        refine ⟨_, rfl, _, rfl, c2, d, 10, es, rfl, hd, D12, TE.nd, TE.wi, (by omega), fun hp H13 n13 s13 hA => ?_⟩
        refine ⟨_, rfl, c2, es, rfl, D12.same s13, TE.nd, Within.small TE.wi (by decide), fun m4 H14 n14 s14 hm4 => ⟨_, _, rfl, ?_⟩⟩
        rw [← et] at TM
        refine ⟨_, rfl, _, rfl, m4, (wsum f00 es, wsum f01 es, wsum f10 es, wsum f11 es), turn, rfl, hm4, fun m5 H15 s15 hm5 => ⟨l2, fun t9 h9 => ?_⟩⟩
        rw [← et] at hm5
        have g9 := same_new (o := .tup [.ref m5, .int 14]) h9
        refine ⟨t9, _, rfl, SqT.of upd_same, rfl, .ref m5, _, rfl, .int 14, _, rfl, rfl, ?_⟩
        refine ⟨Nat.zero_le _, fun D0 hD0 => ?_⟩
        have g10 := same_new (o := .lst []) hD0
        have sA := s14.trans (s15.trans (g9.trans g10))
        have hA2 := hA.same sA
        have B13 := B12.same (s13.trans sA)
        have hm6 := (g9.trans g10) _ _ hm5
        have R0 : ShsL (upd (upd H15 t9 (.tup [.ref m5, .int 14])) D0 (.lst [])) D0 [] := ⟨upd_same, fun y hy => by cases hy⟩
        generalize upd (upd H15 t9 (.tup [.ref m5, .int 14])) D0 (.lst []) = H16 at hA2 B13 hm6 R0 ⊢
        generalize hms : marksT turn (tabH (heapE es)) = ms at hm6 TM
        refine ⟨Mid2 P w T.C_Heap a bg sb turn d, ?_, ?_⟩
        · refine ⟨_, rfl, 0, 14, rfl, rfl, _, rfl, 14, 1, rfl, rfl, _, _, rfl, ⟨by decide, by decide, by decide, by decide⟩, ?_⟩
          refine for_range (lo := -14) (n := 29) (fun i σ H' => ∃ (D : Addr) (ks : List (Sh × Addr)) (y5 y16 : Option V), σ = [some (.ref a), some (.ref bg), y2, some (.ref c2), some (.ref D), y5, y6, y7, some (.int d), some (.bl turn), y10, y11, some (.ref hp), some (.ref m4), some (.ref m5), some (.int 14), y16, y17] ∧ Same H16 H' ∧ ShsL H' D ks ∧ DueTo turn d ms i 0 ks)
            ⟨D0, [], _, _, rfl, Same.refl _, R0, due_zero _ _ _⟩ ?_ ?_
          · rintro i σ G hi2 ⟨D, ks, y5, y16, rfl, sG, R, du⟩
            refine ⟨_, rfl, 0, 14, rfl, rfl, _, rfl, 14, 1, rfl, rfl, _, _, rfl, ⟨by decide, by decide, by decide, by decide⟩, ?_⟩
            refine for_range (lo := -14) (n := 29) (fun j σ H' => ∃ (D : Addr) (ks : List (Sh × Addr)) (y16 : Option V), σ = [some (.ref a), some (.ref bg), y2, some (.ref c2), some (.ref D), some (.int (-14 + (i : Int))), y6, y7, some (.int d), some (.bl turn), y10, y11, some (.ref hp), some (.ref m4), some (.ref m5), some (.int 14), y16, y17] ∧ Same H16 H' ∧ ShsL H' D ks ∧ DueTo turn d ms i j ks)
              ⟨D, ks, _, rfl, sG, R, du⟩ ?_ ?_
            · rintro j σ G2 hj ⟨D2, ks2, y16', rfl, sG2, R2, du2⟩
              have ba : (-14 + (i : Int)).natAbs ≤ 14 := by omega
              have bb : (-14 + (j : Int)).natAbs ≤ 14 := by omega
              have b9 : ∀ z : Int, z.natAbs ≤ 14 → z.natAbs < 2 ^ 9000 := fun z h => Nat.lt_of_le_of_lt h (Nat.lt_of_lt_of_le (show 14 < 2 ^ 4 by decide) (Nat.pow_le_pow_right (by decide) (by decide)))
              refine ⟨_, rfl, _, rfl, l2, fun t1 ht1 => ?_⟩
              have g1 := same_new (o := .tup [.int (-14 + (i : Int)), .int (-14 + (j : Int))]) ht1
              refine ⟨_, rfl, t1, d, -14 + (i : Int), -14 + (j : Int), rfl, SqT.of upd_same, root64 hd, b9 _ ba, b9 _ bb, rfl, _, rfl, ?_⟩
              by_cases yes : sg d (-14 + (i : Int)) (-14 + (j : Int)) = 1
              · rw [show decide (V.int (sgnI (vl (-14 + (i : Int)) (-14 + (j : Int)) d)) = V.int 1) = true from decide_eq_true (congrArg V.int yes)]
                refine iteT ⟨_, rfl, _, rfl, _, rfl, l2, fun t2 ht2 => ?_⟩
                have g2 := same_new (o := .tup [.int (-14 + (i : Int)), .int (-14 + (j : Int))]) ht2
                have g12 := g1.trans g2
                refine ⟨_, rfl, _, rfl, _, rfl, t2, m5, -14 + (i : Int), -14 + (j : Int), d, turn, tabH (heapE es), rfl, upd_same, ?_, hd, sg_one hd yes, ba, bb, ?_, fun l H5 kn nl sl Rl Pl => ?_⟩
                · rw [hms]
                  exact g12 _ _ (sG2 _ _ hm6)
                · rw [hms]
                  exact TM
                · rw [hms] at Pl
                  have du3 := due_yes du2 hi2 hj yes Pl
                  have R3 := R2.same (g12.trans sl)
                  have ln := du3.len
                  rw [List.length_append] at ln
                  refine ⟨D2, l, _, _, rfl, rfl, R3.1, Rl.1, (by rw [List.length_map, List.length_map, sizeLine_eq]; omega), fun D4 hD4 => ?_⟩
                  have g4 := same_new (o := .lst ((ks2.map fun y : Sh × Addr => V.ref y.2) ++ kn.map fun y : Sh × Addr => V.ref y.2)) hD4
                  refine ⟨D4, ks2 ++ kn, _, rfl, sG2.trans (g12.trans (sl.trans g4)), ⟨by rw [upd_same, List.map_append], fun y hy => ?_⟩, du3⟩
                  rcases List.mem_append.mp hy with hy | hy
                  · exact (R3.2 y hy).same g4
                  · exact (Rl.2 y hy).same g4
              · rw [show decide (V.int (sgnI (vl (-14 + (i : Int)) (-14 + (j : Int)) d)) = V.int 1) = false from decide_eq_false fun z => yes (V.int.inj z)]
                exact iteF ⟨D2, ks2, _, rfl, sG2.trans g1, R2.same g1, due_no du2 yes⟩
            · rintro σ G2 ⟨D2, ks2, y16', rfl, sG2, R2, du2⟩
              exact ⟨D2, ks2, _, _, rfl, sG2, R2, due_row du2⟩
          · rintro σ G ⟨D, ks, y5, y16, rfl, sG, R, du⟩
            exact ⟨hp, D, es, ks, _, _, _, _, _, _, _, _, _, _, _, rfl, B13.same sG, hA2.same sG, TE, R, by rw [hms]; exact du⟩
        · rintro σ G ⟨hp, D, es, ks, y2, y3, y5, y6, y7, y10, y11, y13, y14, y16, y17, rfl, BG, hG, TE2, RD, du⟩
          have one := TE2.one hd
          refine ⟨_, rfl, _, rfl, rfl, rfl, hp, d, heapE es, turn, rfl, hG, one, got_by hd fun l H1 ks1 s1 R1 A few alt => ?_⟩
          refine ⟨_, rfl, l, rfl, ⟨_, SqL.of R1.1⟩, fun L hL => ?_⟩
          refine lc_list (K := K) (a := l) (xs := ks1.map fun y : Sh × Addr => V.ref y.2) (fun i G' => Same H1 G' ∧ ShsL G' L ((ks1.take i).filter fun y => inB y.1)) ⟨same_new hL, upd_same, fun y hy => by cases hy⟩ (fun i G' _ z => SqL.of (z.1 _ _ R1.1)) ?_ ?_
          · rintro i x G' hx ⟨sg, R2⟩
            rw [List.getElem?_map] at hx
            obtain ⟨y, hy, rfl⟩ := Option.map_eq_some_iff.mp hx
            have hs := (R1.2 y (List.mem_of_getElem? hy)).same sg
            have et2 : ks1.take (i + 1) = ks1.take i ++ [y] := by rw [List.take_succ, hy]; rfl
            have no : inB y.1 = false → Same H1 G' ∧ ShsL G' L ((ks1.take (i + 1)).filter fun y => inB y.1) := fun e => ⟨sg, by
              rw [et2, List.filter_append, List.filter_cons, e]
              simpa using R2⟩
            obtain ⟨p1, p2, h1, h2, h3⟩ := id hs
            refine ⟨rfl, _, rfl, y.2, _, 0, .ref p1, rfl, rfl, SqT.of h1, atI_nat (j := 0) rfl, p1, _, 0, .int y.1.1, rfl, rfl, SqT.of h2, atI_nat (j := 0) rfl, y.1.1, rfl, _, rfl, _, 14, rfl, rfl, _, rfl, ?_⟩
            by_cases c1 : ab y.1.1 ≤ 14
            · rw [show decide ((if y.1.1 < 0 then -y.1.1 else y.1.1) ≤ 14) = true from decide_eq_true c1]
              refine iteT ⟨_, rfl, y.2, _, 0, .ref p1, rfl, rfl, SqT.of h1, atI_nat (j := 0) rfl, p1, _, 1, .int y.1.2.1, rfl, rfl, SqT.of h2, atI_nat (j := 1) rfl, y.1.2.1, rfl, _, rfl, _, 14, rfl, rfl, _, rfl, ?_⟩
              by_cases c2 : ab y.1.2.1 ≤ 14
              · rw [show decide ((if y.1.2.1 < 0 then -y.1.2.1 else y.1.2.1) ≤ 14) = true from decide_eq_true c2]
                have e : inB y.1 = true := by unfold inB; rw [decide_eq_true c1, decide_eq_true c2]; rfl
                obtain ⟨r1, r2, r3⟩ := shs_more (x := y.1) hL sg R2 (Same.refl _) hs
                refine iteT ⟨_, rfl, _, r1, ?_, r2, ?_⟩
                · have := List.length_filter_le (fun y : Sh × Addr => inB y.1) (ks1.take i)
                  rw [List.length_take] at this
                  rw [List.length_map, sizeLine_eq]
                  omega
                · rw [et2, List.filter_append, List.filter_cons, e]
                  simpa using r3
              · rw [show decide ((if y.1.2.1 < 0 then -y.1.2.1 else y.1.2.1) ≤ 14) = false from decide_eq_false c2]
                exact iteF (no (by unfold inB; rw [decide_eq_false c2, Bool.and_false]))
            · rw [show decide ((if y.1.1 < 0 then -y.1.1 else y.1.1) ≤ 14) = false from decide_eq_false c1]
              exact iteF (no (by unfold inB; rw [decide_eq_false c1, Bool.false_and]))
          · rintro G1 ⟨sg, R2⟩
            rw [List.length_map, List.take_length] at R2
            have s2 := s1.trans sg
            have RD2 := RD.same s2
            have nd := near_due A (due_all du)
            refine ⟨_, rfl, _, rfl, D, ks, rfl, RD2.1, RD2.2, fun p5 np5 => ?_⟩
            have g5 := same_new (o := .lst ((ks.mergeSort fun a b => leS a.1 b.1).map fun b => V.ref b.2)) np5
            have R5 : ShsL (upd G1 p5 (.lst ((ks.mergeSort fun a b => leS a.1 b.1).map fun b => V.ref b.2))) p5 (ks.mergeSort fun a b => leS a.1 b.1) := ⟨upd_same, fun y hy => (RD2.2 y ((List.mergeSort_perm _ _).mem_iff.mp hy)).same g5⟩
            refine ⟨_, _, (R2.same g5).dp, R5.dp, shaped_shs _, shaped_shs _, _, rfl, ?_⟩
            rw [eqv_shs, decide_eq_true nd]
            refine iteF ⟨_, rfl, Nat.zero_le _, fun l7 h7 => ?_⟩
            have g7 := same_new (o := .lst []) h7
            have Rn : ShsL (upd (upd G1 p5 (.lst ((ks.mergeSort fun a b => leS a.1 b.1).map fun b => V.ref b.2))) l7 (.lst [])) l7 [] := ⟨upd_same, fun y hy => by cases hy⟩
            refine ⟨_, _, (R1.same (sg.trans (g5.trans g7))).dp, Rn.dp, shaped_shs _, shaped_shs _, ?_⟩
            refine ⟨_, rfl, _, rfl, rfl, rfl, hp, d, heapE es, turn, rfl, hG.same (s2.trans (g5.trans g7)), one, fun no H5 s5 => ⟨rfl, rfl, _, rfl, ?_⟩, fun u v S H5 s5 => ⟨rfl, rfl, _, rfl, ?_⟩⟩
            · rw [eqv_shs, alt.no hd no, List.map_nil, last_none]
              exact iteF ⟨_, _, _, _, _, _, _, _, _, _, _, _, _, _, _, _, rfl, BG.same ((s2.trans (g5.trans g7)).trans s5)⟩
            · rw [eqv_shs, List.map_nil, last_some (alt.yes hd S)]
              exact iteF ⟨_, _, _, _, _, _, _, _, _, _, _, _, _, _, _, _, rfl, BG.same ((s2.trans (g5.trans g7)).trans s5)⟩
    · rintro σ H2 ⟨y2, y3, y4, y5, y6, y7, y8, y9, y10, y11, y12, y13, y14, y15, y16, y17, rfl, B2⟩
      exact q H2
end
theorem all_mk {l : PySem.W.OpenLaw} {w : World} {K : PySem.W.Frag} {h : Heap} {mg : Str → Option Value} {fa : Addr} (X : K.In h) (G : h.Ns mainGlobals mg) (hfa : mg "law" = some (.ref fa))
    {C_Table : Addr} (aC_Table : PySem.W.nsIn K mainGlobals "Table" = some (some (.ref C_Table))) (pg_Table : PySem.W.plainGet K C_Table Str.empty = true) (hd_Table : PySem.W.hasDictIn K C_Table = true) (po_Table : PySem.W.plainOver K C_Table = true) (sa_Table : PySem.W.findIn K (.ref C_Table) "__setattr__" = some (some (.builtin "object.__setattr__"))) (mk_Table : PySem.W.makesIn K C_Table = true) (kc_Table : PySem.W.keepIn K (.ref C_Table) = true) (sf_Table : PySem.W.selfFirst K C_Table = true) (nq_Table : PySem.W.noSeq K C_Table = true) (n_Table_cells : PySem.W.findIn K (.ref C_Table) "cells" = some none)
    (mo_Table : PySem.W.mroIn K C_Table (.type "object") = some true) (ne_Table : PySem.W.findIn K (.ref C_Table) "__ne__" = some (some (.builtin "object.__ne__"))) (ca_Table : PySem.W.findIn K (.ref C_Table) "__class__" = some (some (.builtin "object.__class__"))) (hn : PySem.W.specialIn K (.builtin "object.__class__") "__get__" = some (some (.builtin "getset_descriptor.__get__"))) (ht : PySem.W.takesIn K (.builtin "object.__class__") = some true) (x_Table_rmul : PySem.W.findIn K (.ref C_Table) "__rmul__" = some none) (i_mul : PySem.W.findIn K (.type "int") "__mul__" = some (some (.builtin "int.__mul__"))) (i_rmul : PySem.W.findIn K (.type "int") "__rmul__" = some (some (.builtin "int.__rmul__"))) (is_Table : PySem.W.subIn K (.type "int") (.ref C_Table) = some false)
    {C_Heap : Addr} (aC_Heap : PySem.W.nsIn K mainGlobals "Heap" = some (some (.ref C_Heap))) (pg_Heap : PySem.W.plainGet K C_Heap Str.empty = true) (hd_Heap : PySem.W.hasDictIn K C_Heap = true) (po_Heap : PySem.W.plainOver K C_Heap = true) (sa_Heap : PySem.W.findIn K (.ref C_Heap) "__setattr__" = some (some (.builtin "object.__setattr__"))) (mk_Heap : PySem.W.makesIn K C_Heap = true) (kc_Heap : PySem.W.keepIn K (.ref C_Heap) = true) (sf_Heap : PySem.W.selfFirst K C_Heap = true) (nq_Heap : PySem.W.noSeq K C_Heap = true) (n_Heap_held_root : PySem.W.findIn K (.ref C_Heap) "held_root" = some none) (n_Heap_copies : PySem.W.findIn K (.ref C_Heap) "copies" = some none)
    {od0 an0 : Option Addr} {sl0 : Array (Option Value)} {kV0 oc0 dc0 pm0 cd0 ct0 : Value} {f0 : Addr}
    (a0 : PySem.W.nsIn K mainGlobals "common_divisor" = some (some (.ref f0))) (l0 : K.lookup f0 = some ⟨oc0, od0, .func (PySem.W.fnOf "common_divisor" "common_divisor" (defArgs s_common_divisor) (defBody s_common_divisor) (defScope s_common_divisor) .none kV0 dc0 pm0 an0 cd0 ct0), sl0⟩) (c0 : PySem.W.codeIn K cd0 "common_divisor" = true) (k0 : PySem.W.keepIn K (.ref f0) = true)
    {od1 an1 : Option Addr} {sl1 : Array (Option Value)} {kV1 oc1 dc1 pm1 cd1 ct1 : Value} {f1 : Addr}
    (a1 : PySem.W.nsIn K mainGlobals "whole_root" = some (some (.ref f1))) (l1 : K.lookup f1 = some ⟨oc1, od1, .func (PySem.W.fnOf "whole_root" "whole_root" (defArgs s_whole_root) (defBody s_whole_root) (defScope s_whole_root) .none kV1 dc1 pm1 an1 cd1 ct1), sl1⟩) (c1 : PySem.W.codeIn K cd1 "whole_root" = true) (k1 : PySem.W.keepIn K (.ref f1) = true)
    {od2 an2 : Option Addr} {sl2 : Array (Option Value)} {kV2 oc2 dc2 pm2 cd2 ct2 : Value} {f2 : Addr}
    (a2 : PySem.W.nsIn K mainGlobals "is_root" = some (some (.ref f2))) (l2 : K.lookup f2 = some ⟨oc2, od2, .func (PySem.W.fnOf "is_root" "is_root" (defArgs s_is_root) (defBody s_is_root) (defScope s_is_root) .none kV2 dc2 pm2 an2 cd2 ct2), sl2⟩) (c2 : PySem.W.codeIn K cd2 "is_root" = true) (k2 : PySem.W.keepIn K (.ref f2) = true)
    {od3 an3 : Option Addr} {sl3 : Array (Option Value)} {kV3 oc3 dc3 pm3 cd3 ct3 : Value} {f3 : Addr}
    (a3 : PySem.W.nsIn K mainGlobals "check_root" = some (some (.ref f3))) (l3 : K.lookup f3 = some ⟨oc3, od3, .func (PySem.W.fnOf "check_root" "check_root" (defArgs s_check_root) (defBody s_check_root) (defScope s_check_root) .none kV3 dc3 pm3 an3 cd3 ct3), sl3⟩) (c3 : PySem.W.codeIn K cd3 "check_root" = true) (k3 : PySem.W.keepIn K (.ref f3) = true)
    {od4 an4 : Option Addr} {sl4 : Array (Option Value)} {kV4 oc4 dc4 pm4 cd4 ct4 : Value} {f4 : Addr}
    (a4 : PySem.W.nsIn K mainGlobals "sign" = some (some (.ref f4))) (l4 : K.lookup f4 = some ⟨oc4, od4, .func (PySem.W.fnOf "sign" "sign" (defArgs s_sign) (defBody s_sign) (defScope s_sign) .none kV4 dc4 pm4 an4 cd4 ct4), sl4⟩) (c4 : PySem.W.codeIn K cd4 "sign" = true) (k4 : PySem.W.keepIn K (.ref f4) = true)
    {od5 an5 : Option Addr} {sl5 : Array (Option Value)} {kV5 oc5 dc5 pm5 cd5 ct5 : Value} {f5 : Addr}
    (a5 : PySem.W.nsIn K mainGlobals "is_length" = some (some (.ref f5))) (l5 : K.lookup f5 = some ⟨oc5, od5, .func (PySem.W.fnOf "is_length" "is_length" (defArgs s_is_length) (defBody s_is_length) (defScope s_is_length) .none kV5 dc5 pm5 an5 cd5 ct5), sl5⟩) (c5 : PySem.W.codeIn K cd5 "is_length" = true) (k5 : PySem.W.keepIn K (.ref f5) = true)
    {od6 an6 : Option Addr} {sl6 : Array (Option Value)} {kV6 oc6 dc6 pm6 cd6 ct6 : Value} {f6 : Addr}
    (a6 : PySem.W.nsIn K mainGlobals "added" = some (some (.ref f6))) (l6 : K.lookup f6 = some ⟨oc6, od6, .func (PySem.W.fnOf "added" "added" (defArgs s_added) (defBody s_added) (defScope s_added) .none kV6 dc6 pm6 an6 cd6 ct6), sl6⟩) (c6 : PySem.W.codeIn K cd6 "added" = true) (k6 : PySem.W.keepIn K (.ref f6) = true)
    {od7 an7 : Option Addr} {sl7 : Array (Option Value)} {kV7 oc7 dc7 pm7 cd7 ct7 : Value} {f7 : Addr}
    (a7 : PySem.W.nsIn K mainGlobals "scaled" = some (some (.ref f7))) (l7 : K.lookup f7 = some ⟨oc7, od7, .func (PySem.W.fnOf "scaled" "scaled" (defArgs s_scaled) (defBody s_scaled) (defScope s_scaled) .none kV7 dc7 pm7 an7 cd7 ct7), sl7⟩) (c7 : PySem.W.codeIn K cd7 "scaled" = true) (k7 : PySem.W.keepIn K (.ref f7) = true)
    {od8 an8 : Option Addr} {sl8 : Array (Option Value)} {kV8 oc8 dc8 pm8 cd8 ct8 : Value} {f8 : Addr}
    (a8 : PySem.W.nsIn K mainGlobals "upright" = some (some (.ref f8))) (l8 : K.lookup f8 = some ⟨oc8, od8, .func (PySem.W.fnOf "upright" "upright" (defArgs s_upright) (defBody s_upright) (defScope s_upright) .none kV8 dc8 pm8 an8 cd8 ct8), sl8⟩) (c8 : PySem.W.codeIn K cd8 "upright" = true) (k8 : PySem.W.keepIn K (.ref f8) = true)
    {od9 an9 : Option Addr} {sl9 : Array (Option Value)} {oc9 dc9 pm9 cd9 ct9 : Value} {f9 : Addr} {T9 r09 : Addr} {tc9 : Value} {td9 : Option Addr} {tn9 : Nat} {ts9 : Array (Option Value)} {kV9 : Value}
    (a9 : PySem.W.findIn K (.ref C_Table) "__init__" = some (some (.ref f9))) (i9 : PySem.W.isFn K (.ref f9) = true) (l9 : K.lookup f9 = some ⟨oc9, od9, .func (PySem.W.fnOf "__init__" "Table.__init__" (defArgs s_Table_init) (defBody s_Table_init) (defScope s_Table_init) (.ref T9) kV9 dc9 pm9 an9 cd9 ct9), sl9⟩) (c9 : PySem.W.codeIn K cd9 "Table.__init__" = true) (k9 : PySem.W.keepIn K (.ref f9) = true)
    (t9 : K.lookup T9 = some ⟨tc9, td9, .seq #[.ref r09] tn9, ts9⟩)
    {y91 y92 : Addr} {y9d y9e y9f : Option Addr} {y9m y9n y9o : Nat} {y9s y9t y9u : Array (Option Value)} {y9v y9w y9x y9y : Tok}
    (y9a : K.lookup r09 = some ⟨.type "tuple", y9d, .seq #[.ref y91, .ref y92] y9m, y9s⟩) (y9b : K.lookup y91 = some ⟨.type "tuple", y9e, .seq #[.int 0 y9v, .int 0 y9w] y9n, y9t⟩) (y9c : K.lookup y92 = some ⟨.type "tuple", y9f, .seq #[.int 0 y9x, .int 0 y9y] y9o, y9u⟩)
    {od10 an10 : Option Addr} {sl10 : Array (Option Value)} {oc10 dc10 pm10 cd10 ct10 : Value} {f10 : Addr} {kV10 : Value}
    (a10 : PySem.W.findIn K (.ref C_Table) "rows" = some (some (.ref f10))) (i10 : PySem.W.isFn K (.ref f10) = true) (l10 : K.lookup f10 = some ⟨oc10, od10, .func (PySem.W.fnOf "rows" "Table.rows" (defArgs s_Table_rows) (defBody s_Table_rows) (defScope s_Table_rows) .none kV10 dc10 pm10 an10 cd10 ct10), sl10⟩) (c10 : PySem.W.codeIn K cd10 "Table.rows" = true) (k10 : PySem.W.keepIn K (.ref f10) = true)
    {od11 an11 : Option Addr} {sl11 : Array (Option Value)} {oc11 dc11 pm11 cd11 ct11 : Value} {f11 : Addr} {D11 : Addr}
    (a11 : PySem.W.findIn K (.ref C_Table) "marks" = some (some (.ref f11))) (i11 : PySem.W.isFn K (.ref f11) = true) (l11 : K.lookup f11 = some ⟨oc11, od11, .func (PySem.W.fnOf "marks" "Table.marks" (defArgs s_Table_marks) (defBody s_Table_marks) (defScope s_Table_marks) .none (.ref D11) dc11 pm11 an11 cd11 ct11), sl11⟩) (c11 : PySem.W.codeIn K cd11 "Table.marks" = true) (k11 : PySem.W.keepIn K (.ref f11) = true)
    (kd11 : PySem.W.nsIn K D11 "turning" = some (some (.bool false)))
    {od12 an12 : Option Addr} {sl12 : Array (Option Value)} {oc12 dc12 pm12 cd12 ct12 : Value} {f12 : Addr} {kV12 : Value}
    (a12 : PySem.W.findIn K (.ref C_Table) "determinant" = some (some (.ref f12))) (i12 : PySem.W.isFn K (.ref f12) = true) (l12 : K.lookup f12 = some ⟨oc12, od12, .func (PySem.W.fnOf "determinant" "Table.determinant" (defArgs s_Table_determinant) (defBody s_Table_determinant) (defScope s_Table_determinant) .none kV12 dc12 pm12 an12 cd12 ct12), sl12⟩) (c12 : PySem.W.codeIn K cd12 "Table.determinant" = true) (k12 : PySem.W.keepIn K (.ref f12) = true)
    {od13 an13 : Option Addr} {sl13 : Array (Option Value)} {oc13 dc13 pm13 cd13 ct13 : Value} {f13 : Addr} {kV13 : Value}
    (a13 : PySem.W.findIn K (.ref C_Table) "__add__" = some (some (.ref f13))) (i13 : PySem.W.isFn K (.ref f13) = true) (l13 : K.lookup f13 = some ⟨oc13, od13, .func (PySem.W.fnOf "__add__" "Table.__add__" (defArgs s_Table_add) (defBody s_Table_add) (defScope s_Table_add) .none kV13 dc13 pm13 an13 cd13 ct13), sl13⟩) (c13 : PySem.W.codeIn K cd13 "Table.__add__" = true) (k13 : PySem.W.keepIn K (.ref f13) = true)
    {od14 an14 : Option Addr} {sl14 : Array (Option Value)} {oc14 dc14 pm14 cd14 ct14 : Value} {f14 : Addr} {kV14 : Value}
    (a14 : PySem.W.findIn K (.ref C_Table) "__sub__" = some (some (.ref f14))) (i14 : PySem.W.isFn K (.ref f14) = true) (l14 : K.lookup f14 = some ⟨oc14, od14, .func (PySem.W.fnOf "__sub__" "Table.__sub__" (defArgs s_Table_sub) (defBody s_Table_sub) (defScope s_Table_sub) .none kV14 dc14 pm14 an14 cd14 ct14), sl14⟩) (c14 : PySem.W.codeIn K cd14 "Table.__sub__" = true) (k14 : PySem.W.keepIn K (.ref f14) = true)
    {od15 an15 : Option Addr} {sl15 : Array (Option Value)} {oc15 dc15 pm15 cd15 ct15 : Value} {f15 : Addr} {kV15 : Value}
    (a15 : PySem.W.findIn K (.ref C_Table) "__neg__" = some (some (.ref f15))) (i15 : PySem.W.isFn K (.ref f15) = true) (l15 : K.lookup f15 = some ⟨oc15, od15, .func (PySem.W.fnOf "__neg__" "Table.__neg__" (defArgs s_Table_neg) (defBody s_Table_neg) (defScope s_Table_neg) .none kV15 dc15 pm15 an15 cd15 ct15), sl15⟩) (c15 : PySem.W.codeIn K cd15 "Table.__neg__" = true) (k15 : PySem.W.keepIn K (.ref f15) = true)
    {od16 an16 : Option Addr} {sl16 : Array (Option Value)} {oc16 dc16 pm16 cd16 ct16 : Value} {f16 : Addr} {kV16 : Value}
    (a16 : PySem.W.findIn K (.ref C_Table) "__mul__" = some (some (.ref f16))) (i16 : PySem.W.isFn K (.ref f16) = true) (l16 : K.lookup f16 = some ⟨oc16, od16, .func (PySem.W.fnOf "__mul__" "Table.__mul__" (defArgs s_Table_mul) (defBody s_Table_mul) (defScope s_Table_mul) .none kV16 dc16 pm16 an16 cd16 ct16), sl16⟩) (c16 : PySem.W.codeIn K cd16 "Table.__mul__" = true) (k16 : PySem.W.keepIn K (.ref f16) = true)
    {od17 an17 : Option Addr} {sl17 : Array (Option Value)} {oc17 dc17 pm17 cd17 ct17 : Value} {f17 : Addr} {kV17 : Value}
    (a17 : PySem.W.findIn K (.ref C_Table) "__eq__" = some (some (.ref f17))) (i17 : PySem.W.isFn K (.ref f17) = true) (l17 : K.lookup f17 = some ⟨oc17, od17, .func (PySem.W.fnOf "__eq__" "Table.__eq__" (defArgs s_Table_eq) (defBody s_Table_eq) (defScope s_Table_eq) .none kV17 dc17 pm17 an17 cd17 ct17), sl17⟩) (c17 : PySem.W.codeIn K cd17 "Table.__eq__" = true) (k17 : PySem.W.keepIn K (.ref f17) = true)
    {od18 an18 : Option Addr} {sl18 : Array (Option Value)} {oc18 dc18 pm18 cd18 ct18 : Value} {f18 : Addr} {kV18 : Value}
    (a18 : PySem.W.findIn K (.ref C_Table) "__bool__" = some (some (.ref f18))) (i18 : PySem.W.isFn K (.ref f18) = true) (l18 : K.lookup f18 = some ⟨oc18, od18, .func (PySem.W.fnOf "__bool__" "Table.__bool__" (defArgs s_Table_bool) (defBody s_Table_bool) (defScope s_Table_bool) .none kV18 dc18 pm18 an18 cd18 ct18), sl18⟩) (c18 : PySem.W.codeIn K cd18 "Table.__bool__" = true) (k18 : PySem.W.keepIn K (.ref f18) = true)
    {od19 an19 : Option Addr} {sl19 : Array (Option Value)} {kV19 oc19 dc19 pm19 cd19 ct19 : Value} {f19 : Addr}
    (a19 : PySem.W.nsIn K mainGlobals "outer" = some (some (.ref f19))) (l19 : K.lookup f19 = some ⟨oc19, od19, .func (PySem.W.fnOf "outer" "outer" (defArgs s_outer) (defBody s_outer) (defScope s_outer) .none kV19 dc19 pm19 an19 cd19 ct19), sl19⟩) (c19 : PySem.W.codeIn K cd19 "outer" = true) (k19 : PySem.W.keepIn K (.ref f19) = true)
    {od20 an20 : Option Addr} {sl20 : Array (Option Value)} {kV20 oc20 dc20 pm20 cd20 ct20 : Value} {f20 : Addr}
    (a20 : PySem.W.nsIn K mainGlobals "is_sheet" = some (some (.ref f20))) (l20 : K.lookup f20 = some ⟨oc20, od20, .func (PySem.W.fnOf "is_sheet" "is_sheet" (defArgs s_is_sheet) (defBody s_is_sheet) (defScope s_is_sheet) .none kV20 dc20 pm20 an20 cd20 ct20), sl20⟩) (c20 : PySem.W.codeIn K cd20 "is_sheet" = true) (k20 : PySem.W.keepIn K (.ref f20) = true)
    {od21 an21 : Option Addr} {sl21 : Array (Option Value)} {kV21 oc21 dc21 pm21 cd21 ct21 : Value} {f21 : Addr}
    (a21 : PySem.W.nsIn K mainGlobals "turned" = some (some (.ref f21))) (l21 : K.lookup f21 = some ⟨oc21, od21, .func (PySem.W.fnOf "turned" "turned" (defArgs s_turned) (defBody s_turned) (defScope s_turned) .none kV21 dc21 pm21 an21 cd21 ct21), sl21⟩) (c21 : PySem.W.codeIn K cd21 "turned" = true) (k21 : PySem.W.keepIn K (.ref f21) = true)
    {od22 an22 : Option Addr} {sl22 : Array (Option Value)} {kV22 oc22 dc22 pm22 cd22 ct22 : Value} {f22 : Addr}
    (a22 : PySem.W.nsIn K mainGlobals "check_rows" = some (some (.ref f22))) (l22 : K.lookup f22 = some ⟨oc22, od22, .func (PySem.W.fnOf "check_rows" "check_rows" (defArgs s_check_rows) (defBody s_check_rows) (defScope s_check_rows) .none kV22 dc22 pm22 an22 cd22 ct22), sl22⟩) (c22 : PySem.W.codeIn K cd22 "check_rows" = true) (k22 : PySem.W.keepIn K (.ref f22) = true)
    {od23 an23 : Option Addr} {sl23 : Array (Option Value)} {kV23 oc23 dc23 pm23 cd23 ct23 : Value} {f23 : Addr}
    (a23 : PySem.W.nsIn K mainGlobals "merged" = some (some (.ref f23))) (l23 : K.lookup f23 = some ⟨oc23, od23, .func (PySem.W.fnOf "merged" "merged" (defArgs s_merged) (defBody s_merged) (defScope s_merged) .none kV23 dc23 pm23 an23 cd23 ct23), sl23⟩) (c23 : PySem.W.codeIn K cd23 "merged" = true) (k23 : PySem.W.keepIn K (.ref f23) = true)
    {od24 an24 : Option Addr} {sl24 : Array (Option Value)} {oc24 dc24 pm24 cd24 ct24 : Value} {f24 : Addr} {T24 r024 : Addr} {tc24 : Value} {td24 : Option Addr} {tn24 : Nat} {ts24 : Array (Option Value)} {kV24 : Value}
    (a24 : PySem.W.findIn K (.ref C_Heap) "__init__" = some (some (.ref f24))) (i24 : PySem.W.isFn K (.ref f24) = true) (l24 : K.lookup f24 = some ⟨oc24, od24, .func (PySem.W.fnOf "__init__" "Heap.__init__" (defArgs s_Heap_init) (defBody s_Heap_init) (defScope s_Heap_init) (.ref T24) kV24 dc24 pm24 an24 cd24 ct24), sl24⟩) (c24 : PySem.W.codeIn K cd24 "Heap.__init__" = true) (k24 : PySem.W.keepIn K (.ref f24) = true)
    (t24 : K.lookup T24 = some ⟨tc24, td24, .seq #[.ref r024] tn24, ts24⟩)
    {y24d : Option Addr} {y24m : Nat} {y24s : Array (Option Value)} (y24a : K.lookup r024 = some ⟨.type "tuple", y24d, .seq #[] y24m, y24s⟩)
    {od25 an25 : Option Addr} {sl25 : Array (Option Value)} {oc25 kV25 dc25 pm25 cd25 ct25 : Value} {f25 p25 : Addr} {q25 : List Value}
    (a25 : PySem.W.findIn K (.ref C_Heap) "root" = some (some (.ref p25))) (gp25 : PySem.W.specialIn K (.ref p25) "__get__" = some (some (.builtin "property.__get__"))) (tp25 : PySem.W.takesIn K (.ref p25) = some true) (rp25 : PySem.W.recIn K p25 "property" = some (.ref f25 :: q25)) (l25 : K.lookup f25 = some ⟨oc25, od25, .func (PySem.W.fnOf "root" "Heap.root" (defArgs s_Heap_root) (defBody s_Heap_root) (defScope s_Heap_root) .none kV25 dc25 pm25 an25 cd25 ct25), sl25⟩) (c25 : PySem.W.codeIn K cd25 "Heap.root" = true) (k25 : PySem.W.keepIn K (.ref f25) = true)
    {od26 an26 : Option Addr} {sl26 : Array (Option Value)} {oc26 dc26 pm26 cd26 ct26 : Value} {f26 : Addr} {kV26 : Value}
    (a26 : PySem.W.findIn K (.ref C_Heap) "rows" = some (some (.ref f26))) (i26 : PySem.W.isFn K (.ref f26) = true) (l26 : K.lookup f26 = some ⟨oc26, od26, .func (PySem.W.fnOf "rows" "Heap.rows" (defArgs s_Heap_rows) (defBody s_Heap_rows) (defScope s_Heap_rows) .none kV26 dc26 pm26 an26 cd26 ct26), sl26⟩) (c26 : PySem.W.codeIn K cd26 "Heap.rows" = true) (k26 : PySem.W.keepIn K (.ref f26) = true)
    {od27 an27 : Option Addr} {sl27 : Array (Option Value)} {oc27 dc27 pm27 cd27 ct27 : Value} {f27 : Addr} {kV27 : Value}
    (a27 : PySem.W.findIn K (.ref C_Heap) "table" = some (some (.ref f27))) (i27 : PySem.W.isFn K (.ref f27) = true) (l27 : K.lookup f27 = some ⟨oc27, od27, .func (PySem.W.fnOf "table" "Heap.table" (defArgs s_Heap_table) (defBody s_Heap_table) (defScope s_Heap_table) .none kV27 dc27 pm27 an27 cd27 ct27), sl27⟩) (c27 : PySem.W.codeIn K cd27 "Heap.table" = true) (k27 : PySem.W.keepIn K (.ref f27) = true)
    {od28 an28 : Option Addr} {sl28 : Array (Option Value)} {oc28 dc28 pm28 cd28 ct28 : Value} {f28 : Addr} {kV28 : Value}
    (a28 : PySem.W.findIn K (.ref C_Heap) "__bool__" = some (some (.ref f28))) (i28 : PySem.W.isFn K (.ref f28) = true) (l28 : K.lookup f28 = some ⟨oc28, od28, .func (PySem.W.fnOf "__bool__" "Heap.__bool__" (defArgs s_Heap_bool) (defBody s_Heap_bool) (defScope s_Heap_bool) .none kV28 dc28 pm28 an28 cd28 ct28), sl28⟩) (c28 : PySem.W.codeIn K cd28 "Heap.__bool__" = true) (k28 : PySem.W.keepIn K (.ref f28) = true)
    {od29 an29 : Option Addr} {sl29 : Array (Option Value)} {kV29 oc29 dc29 pm29 cd29 ct29 : Value} {f29 : Addr}
    (a29 : PySem.W.nsIn K mainGlobals "first_not_zero" = some (some (.ref f29))) (l29 : K.lookup f29 = some ⟨oc29, od29, .func (PySem.W.fnOf "first_not_zero" "first_not_zero" (defArgs s_first_not_zero) (defBody s_first_not_zero) (defScope s_first_not_zero) .none kV29 dc29 pm29 an29 cd29 ct29), sl29⟩) (c29 : PySem.W.codeIn K cd29 "first_not_zero" = true) (k29 : PySem.W.keepIn K (.ref f29) = true)
    {od30 an30 : Option Addr} {sl30 : Array (Option Value)} {kV30 oc30 dc30 pm30 cd30 ct30 : Value} {f30 : Addr}
    (a30 : PySem.W.nsIn K mainGlobals "plain_factors" = some (some (.ref f30))) (l30 : K.lookup f30 = some ⟨oc30, od30, .func (PySem.W.fnOf "plain_factors" "plain_factors" (defArgs s_plain_factors) (defBody s_plain_factors) (defScope s_plain_factors) .none kV30 dc30 pm30 an30 cd30 ct30), sl30⟩) (c30 : PySem.W.codeIn K cd30 "plain_factors" = true) (k30 : PySem.W.keepIn K (.ref f30) = true)
    {od31 an31 : Option Addr} {sl31 : Array (Option Value)} {kV31 oc31 dc31 pm31 cd31 ct31 : Value} {f31 : Addr}
    (a31 : PySem.W.nsIn K mainGlobals "turning_factors" = some (some (.ref f31))) (l31 : K.lookup f31 = some ⟨oc31, od31, .func (PySem.W.fnOf "turning_factors" "turning_factors" (defArgs s_turning_factors) (defBody s_turning_factors) (defScope s_turning_factors) .none kV31 dc31 pm31 an31 cd31 ct31), sl31⟩) (c31 : PySem.W.codeIn K cd31 "turning_factors" = true) (k31 : PySem.W.keepIn K (.ref f31) = true)
    {od32 an32 : Option Addr} {sl32 : Array (Option Value)} {kV32 oc32 dc32 pm32 cd32 ct32 : Value} {f32 : Addr}
    (a32 : PySem.W.nsIn K mainGlobals "single_sides" = some (some (.ref f32))) (l32 : K.lookup f32 = some ⟨oc32, od32, .func (PySem.W.fnOf "single_sides" "single_sides" (defArgs s_single_sides) (defBody s_single_sides) (defScope s_single_sides) .none kV32 dc32 pm32 an32 cd32 ct32), sl32⟩) (c32 : PySem.W.codeIn K cd32 "single_sides" = true) (k32 : PySem.W.keepIn K (.ref f32) = true)
    {od33 an33 : Option Addr} {sl33 : Array (Option Value)} {kV33 oc33 dc33 pm33 cd33 ct33 : Value} {f33 : Addr}
    (a33 : PySem.W.nsIn K mainGlobals "divisor_of" = some (some (.ref f33))) (l33 : K.lookup f33 = some ⟨oc33, od33, .func (PySem.W.fnOf "divisor_of" "divisor_of" (defArgs s_divisor_of) (defBody s_divisor_of) (defScope s_divisor_of) .none kV33 dc33 pm33 an33 cd33 ct33), sl33⟩) (c33 : PySem.W.codeIn K cd33 "divisor_of" = true) (k33 : PySem.W.keepIn K (.ref f33) = true)
    {od34 an34 : Option Addr} {sl34 : Array (Option Value)} {D34 : Addr} {oc34 dc34 pm34 cd34 ct34 : Value} {f34 : Addr}
    (a34 : PySem.W.nsIn K mainGlobals "fewest_sheets" = some (some (.ref f34))) (l34 : K.lookup f34 = some ⟨oc34, od34, .func (PySem.W.fnOf "fewest_sheets" "fewest_sheets" (defArgs s_fewest_sheets) (defBody s_fewest_sheets) (defScope s_fewest_sheets) .none (.ref D34) dc34 pm34 an34 cd34 ct34), sl34⟩) (c34 : PySem.W.codeIn K cd34 "fewest_sheets" = true) (k34 : PySem.W.keepIn K (.ref f34) = true)
    (kd34 : PySem.W.nsIn K D34 "turning" = some (some (.bool false)))
    {od35 an35 : Option Addr} {sl35 : Array (Option Value)} {kV35 oc35 dc35 pm35 cd35 ct35 : Value} {f35 : Addr}
    (a35 : PySem.W.nsIn K mainGlobals "divisors" = some (some (.ref f35))) (l35 : K.lookup f35 = some ⟨oc35, od35, .func (PySem.W.fnOf "divisors" "divisors" (defArgs s_divisors) (defBody s_divisors) (defScope s_divisors) .none kV35 dc35 pm35 an35 cd35 ct35), sl35⟩) (c35 : PySem.W.codeIn K cd35 "divisors" = true) (k35 : PySem.W.keepIn K (.ref f35) = true)
    {od36 an36 : Option Addr} {sl36 : Array (Option Value)} {D36 : Addr} {oc36 dc36 pm36 cd36 ct36 : Value} {f36 : Addr}
    (a36 : PySem.W.nsIn K mainGlobals "single_sheets" = some (some (.ref f36))) (l36 : K.lookup f36 = some ⟨oc36, od36, .func (PySem.W.fnOf "single_sheets" "single_sheets" (defArgs s_single_sheets) (defBody s_single_sheets) (defScope s_single_sheets) .none (.ref D36) dc36 pm36 an36 cd36 ct36), sl36⟩) (c36 : PySem.W.codeIn K cd36 "single_sheets" = true) (k36 : PySem.W.keepIn K (.ref f36) = true)
    (kd36 : PySem.W.nsIn K D36 "turning" = some (some (.bool false)))
    {od37 an37 : Option Addr} {sl37 : Array (Option Value)} {kV37 oc37 dc37 pm37 cd37 ct37 : Value} {f37 : Addr}
    (a37 : PySem.W.nsIn K mainGlobals "_law_source" = some (some (.ref f37))) (l37 : K.lookup f37 = some ⟨oc37, od37, .func (PySem.W.fnOf "_law_source" "_law_source" (defArgs s_source) (defBody s_source) (defScope s_source) .none kV37 dc37 pm37 an37 cd37 ct37), sl37⟩) (c37 : PySem.W.codeIn K cd37 "_law_source" = true) (k37 : PySem.W.keepIn K (.ref f37) = true)
    {od38 an38 : Option Addr} {sl38 : Array (Option Value)} {kV38 oc38 dc38 pm38 cd38 ct38 : Value} {f38 : Addr}
    (a38 : PySem.W.nsIn K mainGlobals "_law_pull" = some (some (.ref f38))) (l38 : K.lookup f38 = some ⟨oc38, od38, .func (PySem.W.fnOf "_law_pull" "_law_pull" (defArgs s_pull) (defBody s_pull) (defScope s_pull) .none kV38 dc38 pm38 an38 cd38 ct38), sl38⟩) (c38 : PySem.W.codeIn K cd38 "_law_pull" = true) (k38 : PySem.W.keepIn K (.ref f38) = true)
    {od39 an39 : Option Addr} {sl39 : Array (Option Value)} {kV39 oc39 dc39 pm39 cd39 ct39 : Value} {f39 : Addr}
    (a39 : PySem.W.nsIn K mainGlobals "_law_of" = some (some (.ref f39))) (l39 : K.lookup f39 = some ⟨oc39, od39, .func (PySem.W.fnOf "_law_of" "_law_of" (defArgs s_of) (defBody s_of) (defScope s_of) .none kV39 dc39 pm39 an39 cd39 ct39), sl39⟩) (c39 : PySem.W.codeIn K cd39 "_law_of" = true) (k39 : PySem.W.keepIn K (.ref f39) = true)
    {od40 an40 : Option Addr} {sl40 : Array (Option Value)} {kV40 oc40 dc40 pm40 cd40 ct40 : Value} {f40 : Addr}
    (a40 : PySem.W.nsIn K mainGlobals "_law_roots" = some (some (.ref f40))) (l40 : K.lookup f40 = some ⟨oc40, od40, .func (PySem.W.fnOf "_law_roots" "_law_roots" (defArgs s_roots) (defBody s_roots) (defScope s_roots) .none kV40 dc40 pm40 an40 cd40 ct40), sl40⟩) (c40 : PySem.W.codeIn K cd40 "_law_roots" = true) (k40 : PySem.W.keepIn K (.ref f40) = true)
    {od41 an41 : Option Addr} {sl41 : Array (Option Value)} {kV41 oc41 dc41 pm41 cd41 ct41 : Value} {f41 : Addr}
    (a41 : PySem.W.nsIn K mainGlobals "_law_a_root" = some (some (.ref f41))) (l41 : K.lookup f41 = some ⟨oc41, od41, .func (PySem.W.fnOf "_law_a_root" "_law_a_root" (defArgs s_a_root) (defBody s_a_root) (defScope s_a_root) .none kV41 dc41 pm41 an41 cd41 ct41), sl41⟩) (c41 : PySem.W.codeIn K cd41 "_law_a_root" = true) (k41 : PySem.W.keepIn K (.ref f41) = true)
    {od42 an42 : Option Addr} {sl42 : Array (Option Value)} {kV42 oc42 dc42 pm42 cd42 ct42 : Value} {f42 : Addr}
    (a42 : PySem.W.nsIn K mainGlobals "_law_sign" = some (some (.ref f42))) (l42 : K.lookup f42 = some ⟨oc42, od42, .func (PySem.W.fnOf "_law_sign" "_law_sign" (defArgs s_lsign) (defBody s_lsign) (defScope s_lsign) .none kV42 dc42 pm42 an42 cd42 ct42), sl42⟩) (c42 : PySem.W.codeIn K cd42 "_law_sign" = true) (k42 : PySem.W.keepIn K (.ref f42) = true)
    {od43 an43 : Option Addr} {sl43 : Array (Option Value)} {kV43 oc43 dc43 pm43 cd43 ct43 : Value} {f43 : Addr}
    (a43 : PySem.W.nsIn K mainGlobals "_law_low_length" = some (some (.ref f43))) (l43 : K.lookup f43 = some ⟨oc43, od43, .func (PySem.W.fnOf "_law_low_length" "_law_low_length" (defArgs s_low_length) (defBody s_low_length) (defScope s_low_length) .none kV43 dc43 pm43 an43 cd43 ct43), sl43⟩) (c43 : PySem.W.codeIn K cd43 "_law_low_length" = true) (k43 : PySem.W.keepIn K (.ref f43) = true)
    {od44 an44 : Option Addr} {sl44 : Array (Option Value)} {kV44 oc44 dc44 pm44 cd44 ct44 : Value} {f44 : Addr}
    (a44 : PySem.W.nsIn K mainGlobals "_law_stock_of" = some (some (.ref f44))) (l44 : K.lookup f44 = some ⟨oc44, od44, .func (PySem.W.fnOf "_law_stock_of" "_law_stock_of" (defArgs s_stock_of) (defBody s_stock_of) (defScope s_stock_of) .none kV44 dc44 pm44 an44 cd44 ct44), sl44⟩) (c44 : PySem.W.codeIn K cd44 "_law_stock_of" = true) (k44 : PySem.W.keepIn K (.ref f44) = true)
    {od45 an45 : Option Addr} {sl45 : Array (Option Value)} {kV45 oc45 dc45 pm45 cd45 ct45 : Value} {f45 : Addr}
    (a45 : PySem.W.nsIn K mainGlobals "_law_listed" = some (some (.ref f45))) (l45 : K.lookup f45 = some ⟨oc45, od45, .func (PySem.W.fnOf "_law_listed" "_law_listed" (defArgs s_listed) (defBody s_listed) (defScope s_listed) .none kV45 dc45 pm45 an45 cd45 ct45), sl45⟩) (c45 : PySem.W.codeIn K cd45 "_law_listed" = true) (k45 : PySem.W.keepIn K (.ref f45) = true)
    {od46 an46 : Option Addr} {sl46 : Array (Option Value)} {kV46 oc46 dc46 pm46 cd46 ct46 : Value} {f46 : Addr}
    (a46 : PySem.W.nsIn K mainGlobals "_law_heap_of" = some (some (.ref f46))) (l46 : K.lookup f46 = some ⟨oc46, od46, .func (PySem.W.fnOf "_law_heap_of" "_law_heap_of" (defArgs s_heap_of) (defBody s_heap_of) (defScope s_heap_of) .none kV46 dc46 pm46 an46 cd46 ct46), sl46⟩) (c46 : PySem.W.codeIn K cd46 "_law_heap_of" = true) (k46 : PySem.W.keepIn K (.ref f46) = true)
    {od47 an47 : Option Addr} {sl47 : Array (Option Value)} {kV47 oc47 dc47 pm47 cd47 ct47 : Value} {f47 : Addr}
    (a47 : PySem.W.nsIn K mainGlobals "_law_four" = some (some (.ref f47))) (l47 : K.lookup f47 = some ⟨oc47, od47, .func (PySem.W.fnOf "_law_four" "_law_four" (defArgs s_four) (defBody s_four) (defScope s_four) .none kV47 dc47 pm47 an47 cd47 ct47), sl47⟩) (c47 : PySem.W.codeIn K cd47 "_law_four" = true) (k47 : PySem.W.keepIn K (.ref f47) = true)
    {od48 an48 : Option Addr} {sl48 : Array (Option Value)} {kV48 oc48 dc48 pm48 cd48 ct48 : Value} {f48 : Addr}
    (a48 : PySem.W.nsIn K mainGlobals "_law_marks_of" = some (some (.ref f48))) (l48 : K.lookup f48 = some ⟨oc48, od48, .func (PySem.W.fnOf "_law_marks_of" "_law_marks_of" (defArgs s_marks_of) (defBody s_marks_of) (defScope s_marks_of) .none kV48 dc48 pm48 an48 cd48 ct48), sl48⟩) (c48 : PySem.W.codeIn K cd48 "_law_marks_of" = true) (k48 : PySem.W.keepIn K (.ref f48) = true)
    {od49 an49 : Option Addr} {sl49 : Array (Option Value)} {kV49 oc49 dc49 pm49 cd49 ct49 : Value} {f49 : Addr}
    (a49 : PySem.W.nsIn K mainGlobals "_law_sheet_table" = some (some (.ref f49))) (l49 : K.lookup f49 = some ⟨oc49, od49, .func (PySem.W.fnOf "_law_sheet_table" "_law_sheet_table" (defArgs s_sheet_table) (defBody s_sheet_table) (defScope s_sheet_table) .none kV49 dc49 pm49 an49 cd49 ct49), sl49⟩) (c49 : PySem.W.codeIn K cd49 "_law_sheet_table" = true) (k49 : PySem.W.keepIn K (.ref f49) = true)
    {od50 an50 : Option Addr} {sl50 : Array (Option Value)} {kV50 oc50 dc50 pm50 cd50 ct50 : Value} {f50 : Addr}
    (a50 : PySem.W.nsIn K mainGlobals "_law_partners" = some (some (.ref f50))) (l50 : K.lookup f50 = some ⟨oc50, od50, .func (PySem.W.fnOf "_law_partners" "_law_partners" (defArgs s_partners) (defBody s_partners) (defScope s_partners) .none kV50 dc50 pm50 an50 cd50 ct50), sl50⟩) (c50 : PySem.W.codeIn K cd50 "_law_partners" = true) (k50 : PySem.W.keepIn K (.ref f50) = true)
    {od51 an51 : Option Addr} {sl51 : Array (Option Value)} {kV51 oc51 dc51 pm51 cd51 ct51 : Value} {f51 : Addr}
    (a51 : PySem.W.nsIn K mainGlobals "law" = some (some (.ref f51))) (l51 : K.lookup f51 = some ⟨oc51, od51, .func (PySem.W.fnOf "law" "law" (defArgs s_law) (defBody s_law) (defScope s_law) .none kV51 dc51 pm51 an51 cd51 ct51), sl51⟩) (c51 : PySem.W.codeIn K cd51 "law" = true) (k51 : PySem.W.keepIn K (.ref f51) = true)
    (z0 : PySem.W.nsIn K mainGlobals "ValueError" = some none)
    (z1 : PySem.W.nsIn K mainGlobals "LookupError" = some none)
    (z2 : PySem.W.nsIn K mainGlobals "enumerate" = some none)
    (z3 : PySem.W.nsIn K mainGlobals "sorted" = some none)
    (z4 : PySem.W.nsIn K mainGlobals "range" = some none)
    (z5 : PySem.W.nsIn K mainGlobals "str" = some none)
    (z6 : PySem.W.nsIn K mainGlobals "abs" = some none)
    (z7 : PySem.W.nsIn K mainGlobals "sum" = some none)
    (z8 : PySem.W.nsIn K mainGlobals "any" = some none)
    (z9 : PySem.W.nsIn K mainGlobals "list" = some none)
    (z10 : PySem.W.nsIn K mainGlobals "bool" = some none)
    (z11 : PySem.W.nsIn K mainGlobals "len" = some none)
    (z12 : PySem.W.nsIn K mainGlobals "set" = some none)
    (z13 : PySem.W.nsIn K mainGlobals "int" = some none)
    (z14 : PySem.W.nsIn K mainGlobals "isinstance" = some none)
    {t_MOST_DIVISOR : Tok} (a_MOST_DIVISOR : PySem.W.nsIn K mainGlobals "MOST_DIVISOR" = some (some (.int (1000000) t_MOST_DIVISOR)))
    : ∃ fd : FuncData, (∀ (s : Shared) (v : Value), BindsTo s fd ⟨[v], []⟩ [("_law_script", v)]) ∧ ∀ base : Heap, K.In base → base.Ns mainGlobals mg → FnOk l.prog w K mg base CX0 12 fa fd ["_law_script"] (spLaw K) := by
  have e := hfa.symm.trans (PySem.W.mg_of X G a51)
  cases e
  have F0 := fun_mk (st := s_common_divisor) l0 c0 k0
  have b0 := F0.binds (ps := ["numbers"]) fun _ _ _ _ _ _ us hl => match us, hl with | [_], _ => rfl
  have F1 := fun_mk (st := s_whole_root) l1 c1 k1
  have b1 := F1.binds (ps := ["number"]) fun _ _ _ _ _ _ us hl => match us, hl with | [_], _ => rfl
  have F2 := fun_mk (st := s_is_root) l2 c2 k2
  have b2 := F2.binds (ps := ["number"]) fun _ _ _ _ _ _ us hl => match us, hl with | [_], _ => rfl
  have F3 := fun_mk (st := s_check_root) l3 c3 k3
  have b3 := F3.binds (ps := ["root"]) fun _ _ _ _ _ _ us hl => match us, hl with | [_], _ => rfl
  have F4 := fun_mk (st := s_sign) l4 c4 k4
  have b4 := F4.binds (ps := ["pair", "root"]) fun _ _ _ _ _ _ us hl => match us, hl with | [_, _], _ => rfl
  have F5 := fun_mk (st := s_is_length) l5 c5 k5
  have b5 := F5.binds (ps := ["pair", "root"]) fun _ _ _ _ _ _ us hl => match us, hl with | [_, _], _ => rfl
  have F6 := fun_mk (st := s_added) l6 c6 k6
  have F7 := fun_mk (st := s_scaled) l7 c7 k7
  have b7 := F7.binds (ps := ["pair", "number"]) fun _ _ _ _ _ _ us hl => match us, hl with | [_, _], _ => rfl
  have F8 := fun_mk (st := s_upright) l8 c8 k8
  have b8 := F8.binds (ps := ["pair", "root"]) fun _ _ _ _ _ _ us hl => match us, hl with | [_, _], _ => rfl
  have F9 : FunD K "__init__" "Table.__init__" (defArgs s_Table_init) (defBody s_Table_init) (defScope s_Table_init) [.ref r09] [] f9 _ := ⟨⟨_, _, _, _, _, _, _, _, _, _, rfl, l9, c9, .inr ⟨by simp, T9, _, [.ref r09], _, rfl, t9, rfl, .cons rfl .nil⟩, .inl rfl⟩, k9⟩
  have b9 := bd_given l9 t9 (ps := ["self", "rows"]) (fun us hl => match us, hl with | [_, _], _ => ⟨_, rfl, rfl⟩)
  have e9 := bd_dflt l9 t9 (ps := ["self", "rows"]) (fun us hl => match us, hl with | [_], _ => ⟨_, rfl, rfl⟩)
  have F10 := fun_mk (st := s_Table_rows) l10 c10 k10
  have b10 := F10.binds (ps := ["self"]) fun _ _ _ _ _ _ us hl => match us, hl with | [_], _ => rfl
  have F11 := fun_mk (st := s_Table_marks) l11 c11 k11
  have b11 := bd_kw l11 kd11 (ps := ["self", "turning"]) (fun us hl => match us, hl with | [_], _ => ⟨_, _, _, _, _, _, rfl, rfl, rfl⟩)
  have F12 := fun_mk (st := s_Table_determinant) l12 c12 k12
  have b12 := F12.binds (ps := ["self"]) fun _ _ _ _ _ _ us hl => match us, hl with | [_], _ => rfl
  have F13 := fun_mk (st := s_Table_add) l13 c13 k13
  have b13 := F13.binds (ps := ["self", "other"]) fun _ _ _ _ _ _ us hl => match us, hl with | [_, _], _ => rfl
  have F14 := fun_mk (st := s_Table_sub) l14 c14 k14
  have b14 := F14.binds (ps := ["self", "other"]) fun _ _ _ _ _ _ us hl => match us, hl with | [_, _], _ => rfl
  have F15 := fun_mk (st := s_Table_neg) l15 c15 k15
  have b15 := F15.binds (ps := ["self"]) fun _ _ _ _ _ _ us hl => match us, hl with | [_], _ => rfl
  have F16 := fun_mk (st := s_Table_mul) l16 c16 k16
  have b16 := F16.binds (ps := ["self", "other"]) fun _ _ _ _ _ _ us hl => match us, hl with | [_, _], _ => rfl
  have F17 := fun_mk (st := s_Table_eq) l17 c17 k17
  have b17 := F17.binds (ps := ["self", "other"]) fun _ _ _ _ _ _ us hl => match us, hl with | [_, _], _ => rfl
  have F18 := fun_mk (st := s_Table_bool) l18 c18 k18
  have b18 := F18.binds (ps := ["self"]) fun _ _ _ _ _ _ us hl => match us, hl with | [_], _ => rfl
  have F19 := fun_mk (st := s_outer) l19 c19 k19
  have b19 := F19.binds (ps := ["one", "other"]) fun _ _ _ _ _ _ us hl => match us, hl with | [_, _], _ => rfl
  have F20 := fun_mk (st := s_is_sheet) l20 c20 k20
  have b20 := F20.binds (ps := ["sheet", "root"]) fun _ _ _ _ _ _ us hl => match us, hl with | [_, _], _ => rfl
  have F21 := fun_mk (st := s_turned) l21 c21 k21
  have b21 := F21.binds (ps := ["sheet"]) fun _ _ _ _ _ _ us hl => match us, hl with | [_], _ => rfl
  have F22 := fun_mk (st := s_check_rows) l22 c22 k22
  have b22 := F22.binds (ps := ["rows", "root"]) fun _ _ _ _ _ _ us hl => match us, hl with | [_, _], _ => rfl
  have F23 := fun_mk (st := s_merged) l23 c23 k23
  have b23 := F23.binds (ps := ["rows"]) fun _ _ _ _ _ _ us hl => match us, hl with | [_], _ => rfl
  have F24 : FunD K "__init__" "Heap.__init__" (defArgs s_Heap_init) (defBody s_Heap_init) (defScope s_Heap_init) [.ref r024] [] f24 _ := ⟨⟨_, _, _, _, _, _, _, _, _, _, rfl, l24, c24, .inr ⟨by simp, T24, _, [.ref r024], _, rfl, t24, rfl, .cons rfl .nil⟩, .inl rfl⟩, k24⟩
  have b24 := bd_given l24 t24 (ps := ["self", "root", "rows"]) (fun us hl => match us, hl with | [_, _, _], _ => ⟨_, rfl, rfl⟩)
  have e24 := bd_dflt l24 t24 (ps := ["self", "root", "rows"]) (fun us hl => match us, hl with | [_, _], _ => ⟨_, rfl, rfl⟩)
  have F25 := fun_mk (st := s_Heap_root) l25 c25 k25
  have b25 := F25.binds (ps := ["self"]) fun _ _ _ _ _ _ us hl => match us, hl with | [_], _ => rfl
  have F26 := fun_mk (st := s_Heap_rows) l26 c26 k26
  have b26 := F26.binds (ps := ["self"]) fun _ _ _ _ _ _ us hl => match us, hl with | [_], _ => rfl
  have F27 := fun_mk (st := s_Heap_table) l27 c27 k27
  have b27 := F27.binds (ps := ["self"]) fun _ _ _ _ _ _ us hl => match us, hl with | [_], _ => rfl
  have F28 := fun_mk (st := s_Heap_bool) l28 c28 k28
  have b28 := F28.binds (ps := ["self"]) fun _ _ _ _ _ _ us hl => match us, hl with | [_], _ => rfl
  have F29 := fun_mk (st := s_first_not_zero) l29 c29 k29
  have b29 := F29.binds (ps := ["one", "other"]) fun _ _ _ _ _ _ us hl => match us, hl with | [_, _], _ => rfl
  have F30 := fun_mk (st := s_plain_factors) l30 c30 k30
  have b30 := F30.binds (ps := ["table"]) fun _ _ _ _ _ _ us hl => match us, hl with | [_], _ => rfl
  have F31 := fun_mk (st := s_turning_factors) l31 c31 k31
  have b31 := F31.binds (ps := ["table"]) fun _ _ _ _ _ _ us hl => match us, hl with | [_], _ => rfl
  have F32 := fun_mk (st := s_single_sides) l32 c32 k32
  have b32 := F32.binds (ps := ["heap", "turning"]) fun _ _ _ _ _ _ us hl => match us, hl with | [_, _], _ => rfl
  have F33 := fun_mk (st := s_divisor_of) l33 c33 k33
  have b33 := F33.binds (ps := ["heap", "turning"]) fun _ _ _ _ _ _ us hl => match us, hl with | [_, _], _ => rfl
  have F34 := fun_mk (st := s_fewest_sheets) l34 c34 k34
  have b34 := bd_kw l34 kd34 (ps := ["heap", "turning"]) (fun us hl => match us, hl with | [_], _ => ⟨_, _, _, _, _, _, rfl, rfl, rfl⟩)
  have F35 := fun_mk (st := s_divisors) l35 c35 k35
  have b35 := F35.binds (ps := ["number"]) fun _ _ _ _ _ _ us hl => match us, hl with | [_], _ => rfl
  have F36 := fun_mk (st := s_single_sheets) l36 c36 k36
  have b36 := bd_kw l36 kd36 (ps := ["heap", "turning"]) (fun us hl => match us, hl with | [_], _ => ⟨_, _, _, _, _, _, rfl, rfl, rfl⟩)
  have F37 := fun_mk (st := s_source) l37 c37 k37
  have b37 := F37.binds (ps := ["_law_script"]) fun _ _ _ _ _ _ us hl => match us, hl with | [_], _ => rfl
  have F38 := fun_mk (st := s_pull) l38 c38 k38
  have b38 := F38.binds (ps := ["_law_bag", "_law_size"]) fun _ _ _ _ _ _ us hl => match us, hl with | [_, _], _ => rfl
  have F39 := fun_mk (st := s_of) l39 c39 k39
  have b39 := F39.binds (ps := ["_law_bag", "_law_some"]) fun _ _ _ _ _ _ us hl => match us, hl with | [_, _], _ => rfl
  have F40 := fun_mk (st := s_roots) l40 c40 k40
  have b40 := F40.binds (ps := []) fun _ _ _ _ _ _ us hl => match us, hl with | [], _ => rfl
  have F41 := fun_mk (st := s_a_root) l41 c41 k41
  have b41 := F41.binds (ps := ["_law_bag"]) fun _ _ _ _ _ _ us hl => match us, hl with | [_], _ => rfl
  have F42 := fun_mk (st := s_lsign) l42 c42 k42
  have b42 := F42.binds (ps := ["_law_pair", "_law_root"]) fun _ _ _ _ _ _ us hl => match us, hl with | [_, _], _ => rfl
  have F43 := fun_mk (st := s_low_length) l43 c43 k43
  have b43 := F43.binds (ps := ["_law_bag", "_law_root"]) fun _ _ _ _ _ _ us hl => match us, hl with | [_, _], _ => rfl
  have F44 := fun_mk (st := s_stock_of) l44 c44 k44
  have b44 := F44.binds (ps := ["_law_rows"]) fun _ _ _ _ _ _ us hl => match us, hl with | [_], _ => rfl
  have F45 := fun_mk (st := s_listed) l45 c45 k45
  have b45 := F45.binds (ps := ["_law_stock"]) fun _ _ _ _ _ _ us hl => match us, hl with | [_], _ => rfl
  have F46 := fun_mk (st := s_heap_of) l46 c46 k46
  have b46 := F46.binds (ps := ["_law_root", "_law_stock"]) fun _ _ _ _ _ _ us hl => match us, hl with | [_, _], _ => rfl
  have F47 := fun_mk (st := s_four) l47 c47 k47
  have b47 := F47.binds (ps := ["_law_stock"]) fun _ _ _ _ _ _ us hl => match us, hl with | [_], _ => rfl
  have F48 := fun_mk (st := s_marks_of) l48 c48 k48
  have b48 := F48.binds (ps := ["_law_four_here", "_law_turning_z"]) fun _ _ _ _ _ _ us hl => match us, hl with | [_, _], _ => rfl
  have F49 := fun_mk (st := s_sheet_table) l49 c49 k49
  have b49 := F49.binds (ps := ["_law_sheet"]) fun _ _ _ _ _ _ us hl => match us, hl with | [_], _ => rfl
  have F50 := fun_mk (st := s_partners) l50 c50 k50
  have b50 := F50.binds (ps := ["_law_width", "_law_marks", "_law_root", "_law_turning_z"]) fun _ _ _ _ _ _ us hl => match us, hl with | [_, _, _, _], _ => rfl
  have F51 := fun_mk (st := s_law) l51 c51 k51
  have T : Txt K mg := {
    f_common_divisor := f0
    d_common_divisor := _
    F_common_divisor := F0
    g_common_divisor := PySem.W.mg_of X G a0
    b_common_divisor := b0
    f_whole_root := f1
    d_whole_root := _
    F_whole_root := F1
    g_whole_root := PySem.W.mg_of X G a1
    b_whole_root := b1
    f_is_root := f2
    d_is_root := _
    F_is_root := F2
    g_is_root := PySem.W.mg_of X G a2
    b_is_root := b2
    f_check_root := f3
    d_check_root := _
    F_check_root := F3
    g_check_root := PySem.W.mg_of X G a3
    b_check_root := b3
    f_sign := f4
    d_sign := _
    F_sign := F4
    g_sign := PySem.W.mg_of X G a4
    b_sign := b4
    f_is_length := f5
    d_is_length := _
    F_is_length := F5
    g_is_length := PySem.W.mg_of X G a5
    b_is_length := b5
    f_added := f6
    d_added := _
    F_added := F6
    g_added := PySem.W.mg_of X G a6
    f_scaled := f7
    d_scaled := _
    F_scaled := F7
    g_scaled := PySem.W.mg_of X G a7
    b_scaled := b7
    f_upright := f8
    d_upright := _
    F_upright := F8
    g_upright := PySem.W.mg_of X G a8
    b_upright := b8
    C_Table := C_Table
    cl_Table := .mk pg_Table hd_Table po_Table sa_Table
    g_Table := PySem.W.mg_of X G aC_Table
    sf_Table := sf_Table
    nq_Table := nq_Table
    n_Table_cells := n_Table_cells
    M_Table := .mk mk_Table a9 i9 kc_Table
    mo_Table := mo_Table
    ne_Table := ne_Table
    ca_Table := ca_Table
    hn := hn
    ht := ht
    x_Table_rmul := x_Table_rmul
    i_mul := i_mul
    i_rmul := i_rmul
    is_Table := is_Table
    f_Table_init := f9
    d_Table_init := _
    r0_Table_init := r09
    F_Table_init := F9
    b_Table_init := b9
    b0_Table_init := e9
    v0_Table_init := .cons rfl .nil
    z0_Table_init := .mk y9a y9b y9c
    m_Table_rows := .mk a10 i10 k10
    f_Table_rows := f10
    d_Table_rows := _
    F_Table_rows := F10
    b_Table_rows := b10
    m_Table_marks := .mk a11 i11 k11
    f_Table_marks := f11
    d_Table_marks := _
    F_Table_marks := F11
    b_Table_marks := b11
    m_Table_determinant := .mk a12 i12 k12
    f_Table_determinant := f12
    d_Table_determinant := _
    F_Table_determinant := F12
    b_Table_determinant := b12
    m_Table_add := .mk a13 i13 k13
    f_Table_add := f13
    d_Table_add := _
    F_Table_add := F13
    b_Table_add := b13
    m_Table_sub := .mk a14 i14 k14
    f_Table_sub := f14
    d_Table_sub := _
    F_Table_sub := F14
    b_Table_sub := b14
    m_Table_neg := .mk a15 i15 k15
    f_Table_neg := f15
    d_Table_neg := _
    F_Table_neg := F15
    b_Table_neg := b15
    m_Table_mul := .mk a16 i16 k16
    f_Table_mul := f16
    d_Table_mul := _
    F_Table_mul := F16
    b_Table_mul := b16
    m_Table_eq := .mk a17 i17 k17
    f_Table_eq := f17
    d_Table_eq := _
    F_Table_eq := F17
    b_Table_eq := b17
    m_Table_bool := .mk a18 i18 k18
    f_Table_bool := f18
    d_Table_bool := _
    F_Table_bool := F18
    b_Table_bool := b18
    f_outer := f19
    d_outer := _
    F_outer := F19
    g_outer := PySem.W.mg_of X G a19
    b_outer := b19
    f_is_sheet := f20
    d_is_sheet := _
    F_is_sheet := F20
    g_is_sheet := PySem.W.mg_of X G a20
    b_is_sheet := b20
    f_turned := f21
    d_turned := _
    F_turned := F21
    g_turned := PySem.W.mg_of X G a21
    b_turned := b21
    f_check_rows := f22
    d_check_rows := _
    F_check_rows := F22
    g_check_rows := PySem.W.mg_of X G a22
    b_check_rows := b22
    f_merged := f23
    d_merged := _
    F_merged := F23
    g_merged := PySem.W.mg_of X G a23
    b_merged := b23
    C_Heap := C_Heap
    cl_Heap := .mk pg_Heap hd_Heap po_Heap sa_Heap
    g_Heap := PySem.W.mg_of X G aC_Heap
    sf_Heap := sf_Heap
    nq_Heap := nq_Heap
    n_Heap_held_root := n_Heap_held_root
    n_Heap_copies := n_Heap_copies
    M_Heap := .mk mk_Heap a24 i24 kc_Heap
    f_Heap_init := f24
    d_Heap_init := _
    r0_Heap_init := r024
    F_Heap_init := F24
    b_Heap_init := b24
    b0_Heap_init := e24
    v0_Heap_init := .cons rfl .nil
    z0_Heap_init := .mk y24a
    p_Heap_root := p25
    pr_Heap_root := PropOf.mk a25 gp25 tp25 (.intro _ rp25)
    f_Heap_root := f25
    d_Heap_root := _
    F_Heap_root := F25
    b_Heap_root := b25
    m_Heap_rows := .mk a26 i26 k26
    f_Heap_rows := f26
    d_Heap_rows := _
    F_Heap_rows := F26
    b_Heap_rows := b26
    m_Heap_table := .mk a27 i27 k27
    f_Heap_table := f27
    d_Heap_table := _
    F_Heap_table := F27
    b_Heap_table := b27
    m_Heap_bool := .mk a28 i28 k28
    f_Heap_bool := f28
    d_Heap_bool := _
    F_Heap_bool := F28
    b_Heap_bool := b28
    f_first_not_zero := f29
    d_first_not_zero := _
    F_first_not_zero := F29
    g_first_not_zero := PySem.W.mg_of X G a29
    b_first_not_zero := b29
    f_plain_factors := f30
    d_plain_factors := _
    F_plain_factors := F30
    g_plain_factors := PySem.W.mg_of X G a30
    b_plain_factors := b30
    f_turning_factors := f31
    d_turning_factors := _
    F_turning_factors := F31
    g_turning_factors := PySem.W.mg_of X G a31
    b_turning_factors := b31
    f_single_sides := f32
    d_single_sides := _
    F_single_sides := F32
    g_single_sides := PySem.W.mg_of X G a32
    b_single_sides := b32
    f_divisor_of := f33
    d_divisor_of := _
    F_divisor_of := F33
    g_divisor_of := PySem.W.mg_of X G a33
    b_divisor_of := b33
    f_fewest_sheets := f34
    d_fewest_sheets := _
    F_fewest_sheets := F34
    g_fewest_sheets := PySem.W.mg_of X G a34
    b_fewest_sheets := b34
    f_divisors := f35
    d_divisors := _
    F_divisors := F35
    g_divisors := PySem.W.mg_of X G a35
    b_divisors := b35
    f_single_sheets := f36
    d_single_sheets := _
    F_single_sheets := F36
    g_single_sheets := PySem.W.mg_of X G a36
    b_single_sheets := b36
    f_source := f37
    d_source := _
    F_source := F37
    g_source := PySem.W.mg_of X G a37
    b_source := b37
    f_pull := f38
    d_pull := _
    F_pull := F38
    g_pull := PySem.W.mg_of X G a38
    b_pull := b38
    f_of := f39
    d_of := _
    F_of := F39
    g_of := PySem.W.mg_of X G a39
    b_of := b39
    f_roots := f40
    d_roots := _
    F_roots := F40
    g_roots := PySem.W.mg_of X G a40
    b_roots := b40
    f_a_root := f41
    d_a_root := _
    F_a_root := F41
    g_a_root := PySem.W.mg_of X G a41
    b_a_root := b41
    f_lsign := f42
    d_lsign := _
    F_lsign := F42
    g_lsign := PySem.W.mg_of X G a42
    b_lsign := b42
    f_low_length := f43
    d_low_length := _
    F_low_length := F43
    g_low_length := PySem.W.mg_of X G a43
    b_low_length := b43
    f_stock_of := f44
    d_stock_of := _
    F_stock_of := F44
    g_stock_of := PySem.W.mg_of X G a44
    b_stock_of := b44
    f_listed := f45
    d_listed := _
    F_listed := F45
    g_listed := PySem.W.mg_of X G a45
    b_listed := b45
    f_heap_of := f46
    d_heap_of := _
    F_heap_of := F46
    g_heap_of := PySem.W.mg_of X G a46
    b_heap_of := b46
    f_four := f47
    d_four := _
    F_four := F47
    g_four := PySem.W.mg_of X G a47
    b_four := b47
    f_marks_of := f48
    d_marks_of := _
    F_marks_of := F48
    g_marks_of := PySem.W.mg_of X G a48
    b_marks_of := b48
    f_sheet_table := f49
    d_sheet_table := _
    F_sheet_table := F49
    g_sheet_table := PySem.W.mg_of X G a49
    b_sheet_table := b49
    f_partners := f50
    d_partners := _
    F_partners := F50
    g_partners := PySem.W.mg_of X G a50
    b_partners := b50
    n_ValueError := PySem.W.mg_none_of X G z0
    n_LookupError := PySem.W.mg_none_of X G z1
    n_enumerate := PySem.W.mg_none_of X G z2
    n_sorted := PySem.W.mg_none_of X G z3
    n_range := PySem.W.mg_none_of X G z4
    n_str := PySem.W.mg_none_of X G z5
    n_abs := PySem.W.mg_none_of X G z6
    n_sum := PySem.W.mg_none_of X G z7
    n_any := PySem.W.mg_none_of X G z8
    n_list := PySem.W.mg_none_of X G z9
    n_bool := PySem.W.mg_none_of X G z10
    n_len := PySem.W.mg_none_of X G z11
    n_set := PySem.W.mg_none_of X G z12
    n_int := PySem.W.mg_none_of X G z13
    n_isinstance := PySem.W.mg_none_of X G z14
    kb_Table_marks_turning := kbn_Table_marks_turning F11
    kb_single_sheets_turning := kbn_single_sheets_turning F36
    kb_fewest_sheets_turning := kbn_fewest_sheets_turning F34
    u_MOST_DIVISOR := _
    g_MOST_DIVISOR := PySem.W.mg_of X G a_MOST_DIVISOR
    rv_MOST_DIVISOR := ⟨t_MOST_DIVISOR, rfl⟩ }
  exact ⟨PySem.W.fnOf "law" "law" (defArgs s_law) (defBody s_law) (defScope s_law) .none kV51 dc51 pm51 an51 cd51 ct51, fun s v => .of_eq rfl, fun base _ _ => ok_law F51 T⟩
end Gy
open PySem PySem.W PyProof.Rows
set_option maxRecDepth 100000 in
set_option maxHeartbeats 0 in
theorem PySem.Challenge.cw_grainyard_k43_whole_single_sheets_by_try_holds : PySem.Challenge.rw_grainyard_k43_whole_single_sheets_by_try.Holds := by
  w_on; o_law; k_head; (case hw => w_witness2)
  k_fill
  refine L2.walk_of (l := PySem.Challenge.rw_grainyard_k43_whole_single_sheets_by_try) (n := 63) (k := 12) (x := "_law_script") (CX := fun _ => L2.CX0) (sp := fun w => Gy.spLaw _) rfl (by decide) rfl ⟨rfl, by decide, by decide⟩ (fun w h Y => PySem.W.kIn_of Y) ?F (fun _ _ a ns hl _ hS => ⟨a, ns, rfl, hS, hl, fun _ => rfl⟩) (fun _ _ _ _ _ h => h)
  case F =>
    intro w mg fa h KX G hmg
    refine' Gy.all_mk KX G hmg ?aC_Table ?pg_Table ?hd_Table ?po_Table ?sa_Table ?mk_Table ?kc_Table ?sf_Table ?nq_Table ?n_Table_cells ?mo_Table ?ne_Table ?ca_Table ?hn ?ht ?x_Table_rmul ?i_mul ?i_rmul ?is_Table ?aC_Heap ?pg_Heap ?hd_Heap ?po_Heap ?sa_Heap ?mk_Heap ?kc_Heap ?sf_Heap ?nq_Heap ?n_Heap_held_root ?n_Heap_copies ?a0 ?l0 ?c0 ?k0 ?a1 ?l1 ?c1 ?k1 ?a2 ?l2 ?c2 ?k2 ?a3 ?l3 ?c3 ?k3 ?a4 ?l4 ?c4 ?k4 ?a5 ?l5 ?c5 ?k5 ?a6 ?l6 ?c6 ?k6 ?a7 ?l7 ?c7 ?k7 ?a8 ?l8 ?c8 ?k8 ?a9 ?i9 ?l9 ?c9 ?k9 ?t9 ?y9a ?y9b ?y9c ?a10 ?i10 ?l10 ?c10 ?k10 ?a11 ?i11 ?l11 ?c11 ?k11 ?kd11 ?a12 ?i12 ?l12 ?c12 ?k12 ?a13 ?i13 ?l13 ?c13 ?k13 ?a14 ?i14 ?l14 ?c14 ?k14 ?a15 ?i15 ?l15 ?c15 ?k15 ?a16 ?i16 ?l16 ?c16 ?k16 ?a17 ?i17 ?l17 ?c17 ?k17 ?a18 ?i18 ?l18 ?c18 ?k18 ?a19 ?l19 ?c19 ?k19 ?a20 ?l20 ?c20 ?k20 ?a21 ?l21 ?c21 ?k21 ?a22 ?l22 ?c22 ?k22 ?a23 ?l23 ?c23 ?k23 ?a24 ?i24 ?l24 ?c24 ?k24 ?t24 ?y24a ?a25 ?gp25 ?tp25 ?rp25 ?l25 ?c25 ?k25 ?a26 ?i26 ?l26 ?c26 ?k26 ?a27 ?i27 ?l27 ?c27 ?k27 ?a28 ?i28 ?l28 ?c28 ?k28 ?a29 ?l29 ?c29 ?k29 ?a30 ?l30 ?c30 ?k30 ?a31 ?l31 ?c31 ?k31 ?a32 ?l32 ?c32 ?k32 ?a33 ?l33 ?c33 ?k33 ?a34 ?l34 ?c34 ?k34 ?kd34 ?a35 ?l35 ?c35 ?k35 ?a36 ?l36 ?c36 ?k36 ?kd36 ?a37 ?l37 ?c37 ?k37 ?a38 ?l38 ?c38 ?k38 ?a39 ?l39 ?c39 ?k39 ?a40 ?l40 ?c40 ?k40 ?a41 ?l41 ?c41 ?k41 ?a42 ?l42 ?c42 ?k42 ?a43 ?l43 ?c43 ?k43 ?a44 ?l44 ?c44 ?k44 ?a45 ?l45 ?c45 ?k45 ?a46 ?l46 ?c46 ?k46 ?a47 ?l47 ?c47 ?k47 ?a48 ?l48 ?c48 ?k48 ?a49 ?l49 ?c49 ?k49 ?a50 ?l50 ?c50 ?k50 ?a51 ?l51 ?c51 ?k51 ?z0 ?z1 ?z2 ?z3 ?z4 ?z5 ?z6 ?z7 ?z8 ?z9 ?z10 ?z11 ?z12 ?z13 ?z14 ?a_MOST_DIVISOR
    (case aC_Table => k_is); (case pg_Table => k_is); (case hd_Table => k_is); (case po_Table => k_is); (case sa_Table => k_is); (case mk_Table => k_is); (case kc_Table => k_is); (case sf_Table => k_is); (case nq_Table => k_is); (case n_Table_cells => k_is); (case mo_Table => k_is); (case ne_Table => k_is); (case ca_Table => k_is); (case hn => k_is); (case ht => k_is); (case x_Table_rmul => k_is); (case i_mul => k_is); (case i_rmul => k_is); (case is_Table => k_is); (case aC_Heap => k_is); (case pg_Heap => k_is); (case hd_Heap => k_is); (case po_Heap => k_is); (case sa_Heap => k_is); (case mk_Heap => k_is); (case kc_Heap => k_is); (case sf_Heap => k_is); (case nq_Heap => k_is); (case n_Heap_held_root => k_is); (case n_Heap_copies => k_is); (case a0 => k_is); (case l0 => k_is); (case c0 => k_is); (case k0 => k_is); (case a1 => k_is); (case l1 => k_is); (case c1 => k_is); (case k1 => k_is); (case a2 => k_is); (case l2 => k_is); (case c2 => k_is); (case k2 => k_is); (case a3 => k_is); (case l3 => k_is); (case c3 => k_is); (case k3 => k_is); (case a4 => k_is); (case l4 => k_is); (case c4 => k_is); (case k4 => k_is); (case a5 => k_is); (case l5 => k_is); (case c5 => k_is); (case k5 => k_is); (case a6 => k_is); (case l6 => k_is); (case c6 => k_is); (case k6 => k_is); (case a7 => k_is); (case l7 => k_is); (case c7 => k_is); (case k7 => k_is); (case a8 => k_is); (case l8 => k_is); (case c8 => k_is); (case k8 => k_is); (case a9 => k_is); (case i9 => k_is); (case l9 => k_is); (case c9 => k_is); (case k9 => k_is); (case t9 => k_is); (case y9a => k_is); (case y9b => k_is); (case y9c => k_is); (case a10 => k_is); (case i10 => k_is); (case l10 => k_is); (case c10 => k_is); (case k10 => k_is); (case a11 => k_is); (case i11 => k_is); (case l11 => k_is); (case c11 => k_is); (case k11 => k_is); (case kd11 => k_is); (case a12 => k_is); (case i12 => k_is); (case l12 => k_is); (case c12 => k_is); (case k12 => k_is); (case a13 => k_is); (case i13 => k_is); (case l13 => k_is); (case c13 => k_is); (case k13 => k_is); (case a14 => k_is); (case i14 => k_is); (case l14 => k_is); (case c14 => k_is); (case k14 => k_is); (case a15 => k_is); (case i15 => k_is); (case l15 => k_is); (case c15 => k_is); (case k15 => k_is); (case a16 => k_is); (case i16 => k_is); (case l16 => k_is); (case c16 => k_is); (case k16 => k_is); (case a17 => k_is); (case i17 => k_is); (case l17 => k_is); (case c17 => k_is); (case k17 => k_is); (case a18 => k_is); (case i18 => k_is); (case l18 => k_is); (case c18 => k_is); (case k18 => k_is); (case a19 => k_is); (case l19 => k_is); (case c19 => k_is); (case k19 => k_is); (case a20 => k_is); (case l20 => k_is); (case c20 => k_is); (case k20 => k_is); (case a21 => k_is); (case l21 => k_is); (case c21 => k_is); (case k21 => k_is); (case a22 => k_is); (case l22 => k_is); (case c22 => k_is); (case k22 => k_is); (case a23 => k_is); (case l23 => k_is); (case c23 => k_is); (case k23 => k_is); (case a24 => k_is); (case i24 => k_is); (case l24 => k_is); (case c24 => k_is); (case k24 => k_is); (case t24 => k_is); (case y24a => k_is); (case a25 => k_is); (case gp25 => k_is); (case tp25 => k_is); (case rp25 => k_is); (case l25 => k_is); (case c25 => k_is); (case k25 => k_is); (case a26 => k_is); (case i26 => k_is); (case l26 => k_is); (case c26 => k_is); (case k26 => k_is); (case a27 => k_is); (case i27 => k_is); (case l27 => k_is); (case c27 => k_is); (case k27 => k_is); (case a28 => k_is); (case i28 => k_is); (case l28 => k_is); (case c28 => k_is); (case k28 => k_is); (case a29 => k_is); (case l29 => k_is); (case c29 => k_is); (case k29 => k_is); (case a30 => k_is); (case l30 => k_is); (case c30 => k_is); (case k30 => k_is); (case a31 => k_is); (case l31 => k_is); (case c31 => k_is); (case k31 => k_is); (case a32 => k_is); (case l32 => k_is); (case c32 => k_is); (case k32 => k_is); (case a33 => k_is); (case l33 => k_is); (case c33 => k_is); (case k33 => k_is); (case a34 => k_is); (case l34 => k_is); (case c34 => k_is); (case k34 => k_is); (case kd34 => k_is); (case a35 => k_is); (case l35 => k_is); (case c35 => k_is); (case k35 => k_is); (case a36 => k_is); (case l36 => k_is); (case c36 => k_is); (case k36 => k_is); (case kd36 => k_is); (case a37 => k_is); (case l37 => k_is); (case c37 => k_is); (case k37 => k_is); (case a38 => k_is); (case l38 => k_is); (case c38 => k_is); (case k38 => k_is); (case a39 => k_is); (case l39 => k_is); (case c39 => k_is); (case k39 => k_is); (case a40 => k_is); (case l40 => k_is); (case c40 => k_is); (case k40 => k_is); (case a41 => k_is); (case l41 => k_is); (case c41 => k_is); (case k41 => k_is); (case a42 => k_is); (case l42 => k_is); (case c42 => k_is); (case k42 => k_is); (case a43 => k_is); (case l43 => k_is); (case c43 => k_is); (case k43 => k_is); (case a44 => k_is); (case l44 => k_is); (case c44 => k_is); (case k44 => k_is); (case a45 => k_is); (case l45 => k_is); (case c45 => k_is); (case k45 => k_is); (case a46 => k_is); (case l46 => k_is); (case c46 => k_is); (case k46 => k_is); (case a47 => k_is); (case l47 => k_is); (case c47 => k_is); (case k47 => k_is); (case a48 => k_is); (case l48 => k_is); (case c48 => k_is); (case k48 => k_is); (case a49 => k_is); (case l49 => k_is); (case c49 => k_is); (case k49 => k_is); (case a50 => k_is); (case l50 => k_is); (case c50 => k_is); (case k50 => k_is); (case a51 => k_is); (case l51 => k_is); (case c51 => k_is); (case k51 => k_is); (case z0 => k_is); (case z1 => k_is); (case z2 => k_is); (case z3 => k_is); (case z4 => k_is); (case z5 => k_is); (case z6 => k_is); (case z7 => k_is); (case z8 => k_is); (case z9 => k_is); (case z10 => k_is); (case z11 => k_is); (case z12 => k_is); (case z13 => k_is); (case z14 => k_is); (case a_MOST_DIVISOR => k_is)

