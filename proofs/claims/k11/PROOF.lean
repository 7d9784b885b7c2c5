import PyProof.Rows.All
import Wide.All
import OpenK.AllK
import Wide.FinOn
import HandS.ForMost
import HandS.Wide
import HandS.WideBits
import HandS.IsInst
import HandS.Defaults
import HandS.Star
import HandS.Evl
import HandS.NoneIn
import HandS.Style
import HandS.SlotsOwn
import HandS.MakeKwOnly
import HandS.ForExc
import HandS.ExcInit
import HandS.MapJoin
import HandS.NestedK
import HandS.Lambda
import HandS.EndTab
import HandS.TryMany
import HandS.HotCalls
import HandS.ExcField
import HandS.ClsMeth
import KE.KExcSuper
import KE.KExcIs
import KE.KOpsOwn
import KE.KNestM
import HandS.Property
import KE.DataEq
import HandS.Deep
import HandS.TupAny
import HandS.Zip
import HandS.Dict
import HandS.More
import HandS.FStr
import HandS.Text
import HandS.RaiseMore
import HandS.DictComp
import HandS.DictTup
import HandS.Conv
import HandS.Comp
import KE.KDictKeyed
import KE.KeyNested
import KE.SortData
import KE.KDictItemsList
import KE.GoesMore
import HandS.Walk
import HandS.StrMore
import PySem.Challenge.RW_grainyard_k11_tables_and_their_signs
set_option Elab.async false
set_option linter.all false
set_option maxRecDepth 100000
set_option maxHeartbeats 4000000
namespace Gy
open PySem PySem.Spec PyProof.Rows L2
theorem sq_nn (x : Int) : 0 ≤ x * x := by
  rcases Int.le_total 0 x with h | h
  · exact Int.mul_nonneg h h
  · exact Int.mul_nonneg_of_nonpos_of_nonpos h h
theorem sq_le {x y : Int} (h0 : 0 ≤ x) (h : x ≤ y) : x * x ≤ y * y := Int.mul_le_mul h h h0 (Int.le_trans h0 h)
theorem sq_lt {x y : Int} (h0 : 0 ≤ x) (h : x < y) : x * x < y * y := by
  have h1 : (x + 1) * (x + 1) ≤ y * y := sq_le (by omega) (by omega)
  grind
theorem lt_of_sq {x y : Int} (h0 : 0 ≤ y) (h : x * x < y * y) : x < y := by
  rcases Int.lt_or_le x y with z | z
  · exact z
  · have := sq_le h0 z
    omega
theorem le_of_sq {x y : Int} (h0 : 0 ≤ y) (h : x * x ≤ y * y) : x ≤ y := by
  rcases Int.lt_or_le y x with z | z
  · have := sq_lt h0 z
    omega
  · exact z
/-- Newton's step from above -/
theorem newton_up {g n : Int} (hg : 0 < g) (hn : 0 ≤ n) : n < ((g + n / g) / 2 + 1) * ((g + n / g) / 2 + 1) := by
  have hq : 0 ≤ n / g := Int.ediv_nonneg hn (by omega)
  have h1 : n < g * (n / g + 1) := by
    have := Int.lt_ediv_add_one_mul_self n hg
    grind
  generalize n / g = q at hq h1 ⊢
  have h2 : g + q + 1 ≤ 2 * ((g + q) / 2 + 1) := by omega
  generalize (g + q) / 2 = r at h2 ⊢
  have h3 := sq_nn (g - (q + 1))
  have h4 := sq_le (show 0 ≤ g + q + 1 by omega) h2
  grind
theorem newton_dn {g n : Int} (hg : 0 < g) (h : n < g * g) : (g + n / g) / 2 < g := by
  have h1 : n / g < g := Int.ediv_lt_of_lt_mul hg h
  omega
theorem newton_nn {g n : Int} (hg : 0 < g) (hn : 0 ≤ n) : 0 ≤ (g + n / g) / 2 := by
  have hq : 0 ≤ n / g := Int.ediv_nonneg hn (by omega)
  omega
/-- no root times a square is a square -/
theorem no_square {d k : Int} (hk : 0 ≤ k) (h1 : k * k < d) (h2 : d < (k + 1) * (k + 1)) : ∀ (n : Nat) (b w : Int), 0 < b → 0 ≤ w → b.toNat ≤ n → w * w ≠ d * b * b
  | 0, b, w, hb, _, hn => by omega
  | n + 1, b, w, hb, hw, hn => fun e => by
    have hbb : 0 < b * b := Int.mul_pos hb hb
    have l1 : (k * b) * (k * b) < w * w := by
      have := Int.mul_lt_mul_of_pos_right h1 hbb
      grind
    have l2 : w * w < ((k + 1) * b) * ((k + 1) * b) := by
      have := Int.mul_lt_mul_of_pos_right h2 hbb
      grind
    have m1 : k * b < w := lt_of_sq hw l1
    have m2 : w < (k + 1) * b := lt_of_sq (Int.mul_nonneg (by omega) (by omega)) l2
    have m3 : w - k * b < b := by grind
    refine no_square hk h1 h2 n (w - k * b) (d * b - k * w) (by omega) ?_ (by omega) (by grind)
    have : (k * w) * b ≤ (d * b) * b := by
      have z := Int.mul_le_mul_of_nonneg_right (Int.le_of_lt m1) hw
      grind
    have z : k * w ≤ d * b := Int.le_of_mul_le_mul_right this hb
    omega
/-! ### defs with defaults, methods by keywords -/
inductive Dflt (K : PySem.W.Frag) (r : Addr) : Prop
  | mk {y1 y2 : Addr} {d e f : Option Addr} {m n o : Nat} {s t u : Array (Option Value)} {v w x y : Tok} (a : K.lookup r = some ⟨.type "tuple", d, .seq #[.ref y1, .ref y2] m, s⟩)
      (b : K.lookup y1 = some ⟨.type "tuple", e, .seq #[.int 0 v, .int 0 w] n, t⟩) (c : K.lookup y2 = some ⟨.type "tuple", f, .seq #[.int 0 x, .int 0 y] o, u⟩) : Dflt K r
section
variable {K : PySem.W.Frag} {f T D : Addr} {oc tc u : Value} {od td : Option Addr} {fd : FuncData} {sl ts : Array (Option Value)} {tn : Nat} {its : Array Value} {ps : List Str} {x : Str}
theorem bd_given (l : K.lookup f = some ⟨oc, od, .func fd, sl⟩) (t : K.lookup T = some ⟨tc, td, .seq its tn, ts⟩) (h : ∀ us : List Value, us.length = ps.length → ∃ k, bindArgs fd ⟨us, []⟩ = seqItems? (.ref T) >>= k ∧ k (some its) = pure (ps.zip us)) : Binds K fd ps [] := fun s us X hl => by
  rw [List.append_nil] at hl ⊢
  obtain ⟨k, e1, e2⟩ := h us hl
  refine BindsTo.of_looks fun M => ?_
  rw [e1]
  exact looks_items X t rfl (.of_pure e2)
theorem bd_dflt {v : Value} (l : K.lookup f = some ⟨oc, od, .func fd, sl⟩) (t : K.lookup T = some ⟨tc, td, .seq #[v] tn, ts⟩) (h : ∀ us : List Value, us.length + 1 = ps.length → ∃ k, bindArgs fd ⟨us, []⟩ = seqItems? (.ref T) >>= k ∧ k (some #[v]) = pure (ps.zip (us ++ [v]))) : Binds K fd ps [v] := fun s us X hl => by
  rw [List.length_append] at hl
  obtain ⟨k, e1, e2⟩ := h us hl
  refine BindsTo.of_looks fun M => ?_
  rw [e1]
  exact looks_items X t rfl (.of_pure e2)
theorem bd_kw (l : K.lookup f = some ⟨oc, od, .func fd, sl⟩) (kd : PySem.W.nsIn K D x = some (some u)) (h : ∀ us : List Value, us.length + 1 = ps.length → KwChain D [(x, u)] (bindArgs fd ⟨us, []⟩) (ps.zip (us ++ [u]))) : Binds K fd ps [u] := fun s us X hl => by
  rw [List.length_append] at hl
  refine BindsTo.of_looks fun M => ?_
  refine KwChain.looks X ?_ (h us hl)
  intro q hq
  rcases List.mem_cons.mp hq with e | e
  · rw [e]
    exact kd
  · cases e
end
section
variable {X : Cx} {CX : CXT} {k : Nat} {f C : Addr} {fd : FuncData} {ps ks : List Str} {sp : Sp} {E : XK} {m : Str} {pos apos : Pos} {o : Expr} {kws : List Keyword} {ta : TE} {tk : TA}
theorem pe_methK0 {pl : Sem Bool} {g : List Value → List Value → List Value} {gV : List V → List V → List V} (he : PE X o ta) (c : Cls X.K C) (hm : Meth X.K C m f) (F : FnOk X.prog X.w X.K X.mg X.base CX k f fd ps sp) (hr : Room k X.A) (hb : KBn X.K fd ps 1 ks g gV) (hx : Passes CX X E) (hkw : PK X kws tk)
    (hall : (backToKw pos (keywordEach kws X.env)).all (·.1.isSome) = true := by rfl)
    (hks : (backToKw pos (keywordEach kws X.env)).filterMap (·.1) = ks := by rfl)
    (hpl : ((backTo pos (starEach [] X.env)).any (·.1) || (backToKw pos (keywordEach kws X.env)).any (·.1.isNone)) = false := by rfl)
    (ht : eval (.Call (.Attribute o m apos) [] kws pos) X.env = (do
      let ov ← eval o X.env
      standAt apos.atName
      let (f, first) ← holding [ov] (getMethod ov m pl)
      callWith pos f first (backTo pos (starEach [] X.env)) (backToKw pos (keywordEach kws X.env))) := by rfl) :
    PE X (.Call (.Attribute o m apos) [] kws pos) (fun σ H Q => ta σ H fun x H1 => ∃ a dx fs, x = .ref a ∧ H1 a = some (.ins C dx fs) ∧ fs.lookup m = none ∧ tk σ H1 fun zs H2 => zs.length = ks.length ∧ sp (gV [.ref a] zs) H2 Q E) := by
  refine ⟨fun pins s σ H Q I h => ?_⟩
  refine PySem.W.methodCall_KW (pl := pl) (thn (he.run pins s σ H _ I h) fun u s1 ⟨x, H1, I1, rx, a, dx, fs, ex, ea, l, q⟩ => ?_) ht
  subst ex
  obtain rfl : u = Value.ref a := rx
  refine getmeth_ok I1 ea c hm l ?_
  refine PySem.W.callWith_KW0 (first := [.ref a]) (h₀ := X.base) I.ok.mod.kin hm.kp hall ?_ hpl
  refine thn (hkw.run pos pins s1 σ H1 _ I1 q) fun ws s2 ⟨zs, H2, I2, rz, l2, q2⟩ => ⟨I2.kIn, ?_⟩
  rw [hks]
  exact run_fnN (us := [.ref a]) (vs := [.ref a]) F hr hb hx I2 (.cons rfl .nil) rz rfl l2 q2
end
/-! ### operators of an own class -/
section
variable {X : Cx} {CX : CXT} {n : Nat} {C g : Addr} {fd : FuncData} {ps : List Str} {sp : Sp} {E : XK}
theorem inst_of {pins : List (Addr × Obj)} {σ : L2.St} {H : Hp} {s : Shared} {a dx : Addr} {fs : List (Str × V)} (I : Inv X pins σ H s) (ha : H a = some (.ins C dx fs)) : ∃ ox od, PySem.W.InstAt s.heap a ox C od := by
  obtain ⟨mA, J, _⟩ := ins_get I.hok ha
  obtain ⟨od, J, _⟩ := J.look
  exact ⟨_, _, J⟩
/-- x op y of two instances -/
def rOwn2 (C : Addr) (sp : Sp) (E : XK) : R2 := fun x y H Q => ∃ a dx fs b dy gs, x = .ref a ∧ y = .ref b ∧ H a = some (.ins C dx fs) ∧ H b = some (.ins C dy gs) ∧ sp [x, y] H Q E
theorem op_bin {op : Operator} {nm : Str} (m : Meth X.K C nm g) (sf : PySem.W.selfFirst X.K C = true) (F : FnOk X.prog X.w X.K X.mg X.base CX n g fd ps sp) (hr : Room n X.A) (hb : Binds X.K fd ps []) (hx : Passes CX X E)
    (hn : PySem.dunder op.info.2 = nm := by decide +kernel) : OpR X (binaryOp op) (rOwn2 C sp E) := by
  intro pins s σ H x y v u Q I rx ry h
  obtain ⟨a, dx, fs, b, dy, gs, rfl, rfl, ha, hb', q⟩ := h
  cases (show v = Value.ref a from rx)
  cases (show u = Value.ref b from ry)
  obtain ⟨ox, od, J⟩ := inst_of I ha
  obtain ⟨oy, od', J'⟩ := inst_of I hb'
  obtain ⟨mm, hF⟩ := I.fr
  refine PySem.W.binop_K (op := op) hF I.ok.mod.kin J J'.type sf (by rw [hn]; exact m.at_) m.fn ?_
  refine wpAny_mono (run_fn (us := [.ref a, .ref b]) (vs := [.ref a, .ref b]) F hr hb .nil hx I (.cons rfl (.cons rfl .nil)) q) (fun w s' z => ?_) fun _ _ x => x
  obtain ⟨z', H', I', rz, qz⟩ := z
  exact SlX.cmpback rz ⟨z', H', I', rz, qz⟩
/-- x op i -/
def rOwnI (C : Addr) (sp : Sp) (E : XK) : R2 := fun x y H Q => ∃ a dx fs i, x = .ref a ∧ y = .int i ∧ H a = some (.ins C dx fs) ∧ sp [x, y] H Q E
theorem op_binI {op : Operator} {nm nr : Str} {fo ro : Option Value} (m : Meth X.K C nm g) (sf : PySem.W.selfFirst X.K C = true) (h0 : PySem.W.findIn X.K (.ref C) nr = some none) (h1 : PySem.W.findIn X.K (.type "int") nm = some fo) (h2 : PySem.W.findIn X.K (.type "int") nr = some ro)
    (h3 : PySem.W.subIn X.K (.type "int") (.ref C) = some false) (F : FnOk X.prog X.w X.K X.mg X.base CX n g fd ps sp) (hr : Room n X.A) (hb : Binds X.K fd ps []) (hx : Passes CX X E)
    (hn : PySem.dunder op.info.2 = nm := by decide +kernel) (hq : PySem.dunderR op.info.2 = nr := by decide +kernel) : OpR X (binaryOp op) (rOwnI C sp E) := by
  intro pins s σ H x y v u Q I rx ry h
  obtain ⟨a, dx, fs, i, rfl, rfl, ha, q⟩ := h
  cases (show v = Value.ref a from rx)
  obtain ⟨t, e⟩ := (show ∃ t, u = Value.int i t from ry)
  cases e
  obtain ⟨ox, od, J⟩ := inst_of I ha
  obtain ⟨mm, hF⟩ := I.fr
  refine PySem.W.ksp_binT (op := op) (T := "int") hF I.ok.mod.kin J rfl sf (by rw [hn]; exact m.at_) m.fn (by rw [hq]; exact h0) (.inl rfl) (by rw [hn]; exact h1) (by rw [hq]; exact h2) h3 ?_
  refine wpAny_mono (run_fn (us := [.ref a, .int i t]) (vs := [.ref a, .int i]) F hr hb .nil hx I (.cons rfl (.cons ⟨t, rfl⟩ .nil)) q) (fun w s' z => ?_) fun _ _ x => x
  obtain ⟨z', H', I', rz, qz⟩ := z
  exact SlX.cmpback rz ⟨z', H', I', rz, qz⟩
/-- -x -/
def rOwn1 (C : Addr) (sp : Sp) (E : XK) : V → Hp → VK → Prop := fun x H Q => ∃ a dx fs, x = .ref a ∧ H a = some (.ins C dx fs) ∧ sp [x] H Q E
theorem un_own (m : Meth X.K C "__neg__" g) (F : FnOk X.prog X.w X.K X.mg X.base CX n g fd ps sp) (hr : Room n X.A) (hb : Binds X.K fd ps []) (hx : Passes CX X E) : UnR X (unaryOp .USub) (rOwn1 C sp E) := by
  intro pins s σ H x v Q I rx h
  obtain ⟨a, dx, fs, rfl, ha, q⟩ := h
  cases (show v = Value.ref a from rx)
  obtain ⟨ox, od, J⟩ := inst_of I ha
  obtain ⟨mm, hF⟩ := I.fr
  exact PySem.W.ksp_neg hF I.ok.mod.kin J m.at_ m.fn (run_fn (us := [.ref a]) (vs := [.ref a]) F hr hb .nil hx I (.cons rfl .nil) q)
/-- x == y, y anything whose class does not come first -/
def rOwnE (K : PySem.W.Frag) (C : Addr) (sp : Sp) (E : XK) : R2 := fun x y H Q => ∃ a dx fs tb, x = .ref a ∧ H a = some (.ins C dx fs) ∧ TyX K H y tb ∧ PySem.W.notFirst K C tb = true ∧ sp [x, y] H Q E
theorem op_eqO2 (m : Meth X.K C "__eq__" g) (F : FnOk X.prog X.w X.K X.mg X.base CX n g fd ps sp) (hr : Room n X.A) (hb : Binds X.K fd ps []) (hx : Passes CX X E) : OpR X (compareOp .Eq) (rOwn2 C sp E) := by
  intro pins s σ H x y v u Q I rx ry h
  obtain ⟨a, dx, fs, b, dy, gs, rfl, rfl, ha, hb', q⟩ := h
  cases (show v = Value.ref a from rx)
  cases (show u = Value.ref b from ry)
  obtain ⟨ox, od, J⟩ := inst_of I ha
  obtain ⟨oy, od', J'⟩ := inst_of I hb'
  obtain ⟨mm, hF⟩ := I.fr
  show wpAny _ _ (richCompare .Eq (.ref a) (.ref b)) _ _ s
  refine PySem.W.cmp_K (op := .Eq) (tb := .ref C) hr.units0 hF I.ok.mod.kin J J'.type (by simp [PySem.W.notFirst]) m.at_ m.fn ?_
  refine wpAny_mono (run_fn (us := [.ref a, .ref b]) (vs := [.ref a, .ref b]) F hr hb .nil hx I (.cons rfl (.cons rfl .nil)) q) (fun w s' z => ?_) fun _ _ x => x
  obtain ⟨z', H', I', rz, qz⟩ := z
  exact SlX.cmpback rz ⟨z', H', I', rz, qz⟩
/-- below a built-in: the callee runs -/
theorem run_in {A : Around} {pins : List (Addr × Obj)} {σ : L2.St} {H : Hp} {s : Shared} {Q : VK} {us : List Value} {ws : List V} (F : FnOk X.prog X.w X.K X.mg X.base CX n g fd ps sp) (hr : Room n A) (e0 : Env0 X.prog X.w X.K X.mg X.base A X.stack s H) (hb : Binds X.K fd ps []) (hx : Passes CX X E) (I : Inv X pins σ H s) (r : Vals ws us) (h : sp ws H Q E) :
    wpAny (model X.prog X.w) A (call (.ref g) us) (EP X pins σ Q) X.xe s := by
  have hl : (us ++ []).length = ps.length := by rw [List.append_nil, ← r.length]; exact F.len _ _ _ _ h
  have b0 := hb s us I.kIn hl
  rw [List.append_nil] at b0
  refine wpAny_call (codeAny_mono (F.run A X.stack s H ⟨us, []⟩ us ws Q E hr e0 b0 r h) fun r s' hq => ?_)
  cases r with
  | error e => exact hx pins σ H s e s' I hq
  | ok fl =>
    cases fl with
    | ret u => exact I.after hq
    | next => exact False.elim hq
    | brk => exact False.elim hq
    | cont => exact False.elim hq
end
section
variable {prog : Program} {w : World} {A : Around} {E : Value → Shared → Prop} {s : Shared} {K : PySem.W.Frag} {x y C f : Addr} {ox : Obj} {od : Option Obj}
theorem ifBound_objNe {M : Model} {args : List Value} {Q : Option Value → Shared → Prop} (X : K.In s.heap) (I : PySem.W.InstAt s.heap x ox C od) (hs : PySem.W.findIn K (.ref C) "__ne__" = some (some (.builtin "object.__ne__")))
    (h : wpAny M A (call (.builtin "object.__ne__") (.ref x :: args)) (fun v => Q (some v)) E s) : wpAny M A (callSpecialIfBound? (.ref x) "__ne__" args) Q E s := by
  simp only [callSpecialIfBound?, bindSpecialIfBound?]
  refine wpAny_holding (wpAny_bind (wpAny_bind (wpAny_bind (I.type.here ((PySem.W.looks_findIn X hs).here ?_)))))
  refine wpAny_bind (wpAny_askSetting (wpAny_ite ?_))
  have fin : wpAny M A (call (.builtin "object.__ne__") ([.ref x] ++ args) >>= fun v => pure (some v)) Q E s := wpAny_bind (wpAny_mono h (fun v s' h' => wpAny_pure h') fun _ _ h' => h')
  split
  · exact wpAny_bind (wpAny_of_eq (F.cmp_object.ne.bind _) (wpAny_pure (by exact fin)))
  · exact wpAny_tryCatch (wpAny_bind (wpAny_of_eq (F.cmp_object.ne.bind _) (wpAny_pure (by exact fin))))
theorem ne_entry {b : Value} {Q : Fin → Shared → Prop} (hu : A.units < cLine) (X : K.In s.heap) (I : PySem.W.InstAt s.heap x ox C od) (hs : PySem.W.findIn K (.ref C) "__eq__" = some (some (.ref f))) (hf : PySem.W.isFn K (.ref f) = true)
    (h : wpAny (model prog w) A (call (.ref f) [.ref x, b]) (fun r s' => ∃ k, r = .bool k ∧ Q (.done (.ret (.bool (!k)))) s') E s) : wpAny (model prog w) A (Builtin.«object.__ne__» ⟨[.ref x, b], []⟩) Q E s := by
  unfold Builtin.«object.__ne__»
  refine wpAny_bind (wpAny_of_eq (a := (Value.ref x, [b])) rfl ?_)
  refine wpAny_bind (wpAny_cRoomFor hu ?_)
  refine wpAny_bind (PySem.W.ifBound_K X I hs hf (wpAny_mono h (fun r s' hr => ?_) fun _ _ z => z))
  obtain ⟨k, rfl, q⟩ := hr
  exact wpAny_bind (wpAny_truthy_bool (wpAny_pure q))
theorem call_objNe {b : Value} {Q : Value → Shared → Prop} (hu : A.in1.units < cLine) (X : K.In s.heap) (I : PySem.W.InstAt s.heap x ox C od) (hm : PySem.W.mroIn K C (.type "object") = some true) (hs : PySem.W.findIn K (.ref C) "__eq__" = some (some (.ref f))) (hf : PySem.W.isFn K (.ref f) = true)
    (h : wpAny (model prog w) A.in1 (call (.ref f) [.ref x, b]) (fun r s' => ∃ k, r = .bool k ∧ Q (.bool (!k)) s') E s) : wpAny (model prog w) A (call (.builtin "object.__ne__") [.ref x, b]) Q E s :=
  wpAny_call (codeAny_call_builtin F.cmp_object.ne.plain F.cmpEntry_ne (PySem.W.check_slot F.cmpKind_ne F.cmpSplit_ne (I.type.andThen (PySem.W.looks_mroIn X hm)) (F.cmpArgs_ne _ _) (ne_entry hu X I hs hf h)))
theorem rc_ne {oy : Obj} {od' : Option Obj} {Q : Value → Shared → Prop} (hu : A.in1.units < cLine) (hu0 : A.units < cLine) (X : K.In s.heap) (I : PySem.W.InstAt s.heap x ox C od) (J : PySem.W.InstAt s.heap y oy C od') (hm : PySem.W.mroIn K C (.type "object") = some true)
    (hn : PySem.W.findIn K (.ref C) "__ne__" = some (some (.builtin "object.__ne__"))) (hs : PySem.W.findIn K (.ref C) "__eq__" = some (some (.ref f))) (hf : PySem.W.isFn K (.ref f) = true)
    (h : wpAny (model prog w) A.in1 (call (.ref f) [.ref x, .ref y]) (fun r s' => ∃ k, r = .bool k ∧ Q (.bool (!k)) s') E s) : wpAny (model prog w) A (richCompare .NotEq (.ref x) (.ref y)) Q E s := by
  have one : wpAny (model prog w) A (tryCompare (.ref x) "__ne__" (.ref y)) (fun r s' => ∃ v, r = some v ∧ Q v s') E s := by
    unfold tryCompare
    refine wpAny_bind (ifBound_objNe X I hn (call_objNe hu X I hm hs hf (wpAny_mono h (fun r s' hr => ?_) fun _ _ e => e)))
    obtain ⟨k, rfl, q⟩ := hr
    exact ⟨k, rfl, wpAny_pure ⟨_, rfl, q⟩⟩
  unfold richCompare
  simp only [oneThing_ref]
  refine wpAny_holding (wpAny_bind (wpAny_cRoomFor hu0 ?_))
  refine wpAny_bind (I.type.here (wpAny_bind (J.type.here ?_)))
  simp only [bne_self_eq_false, Bool.false_eq_true, if_false]
  refine wpAny_bind (wpAny_pure ?_)
  simp only [Bool.false_eq_true, if_false]
  refine wpAny_bind (wpAny_mono one (fun r s' z => ?_) fun _ _ e => e)
  obtain ⟨v, rfl, hq⟩ := z
  exact wpAny_pure hq
theorem bool_own {Q : Value → Shared → Prop} (X : K.In s.heap) (I : PySem.W.InstAt s.heap x ox C od) (hs : PySem.W.findIn K (.ref C) "__bool__" = some (some (.ref f))) (hf : PySem.W.isFn K (.ref f) = true)
    (h : wpAny (model prog w) A.in1.in1 (call (.ref f) [.ref x]) (fun r s₁ => ∃ k, r = Value.bool k ∧ Q r s₁) E s) : wpAny (model prog w) A (call (.type "bool") [.ref x]) Q E s := by
  refine callType_codes (T := "bool") (Bi := Builtin.«object.__init__») (Q₁ := fun r s₁ => ∃ k, r = Value.bool k ∧ Q r s₁) PySem.F.called_bool (PySem.F.typeCall_bool_1 _) PySem.F.entry_object_init ?_ ?_
  · refine codeAny_of_tree ?_
    show wpAny _ A.in1.in1 (do checkBuiltinCall "bool.__new__" ⟨[.type "bool", .ref x], []⟩; again (.builtin "bool.__new__" ⟨[.type "bool", .ref x], []⟩)) _ _ s
    refine wpAny_bind (wpAny_of_eq (PySem.F.newCall_bool_1 _) (wpAny_pure ⟨plainId_quiet (by decide +kernel) _, codeAny_builtin PySem.F.entry_bool_new ?_⟩))
    rw [Around.under_plainId (by decide +kernel) _]
    have tr : wpAny (model prog w) A.in1.in1 (truthy (.ref x)) (fun k s₁ => Q (.bool k) s₁) E s := by
      unfold truthy
      refine wpAny_bind (m := callSpecial? (.ref x) (Str.ofString "__bool__")) (PySem.W.special_fn X I hs (beq_iff_eq.mp hf) (wpAny_mono h (fun r s' hr => ?_) fun _ _ y => y))
      obtain ⟨k, rfl, q⟩ := hr
      exact wpAny_pure q
    obtain ⟨hp, g, d, tk, os⟩ := s
    have f1 := F.conv_sub_bool
    repeat (any_goals (first | assumption | (with_reducible refine wpAny_mono tr (fun k s₁ q => ?_) fun _ _ z => z) | wp_step))
    all_goals first | exact ⟨_, rfl, q⟩ | skip
  · rintro obj s₁ ⟨k, rfl, hq⟩
    exact ⟨rfl, PySem.F.args_object_init_2 _ _, object_init_meets PySem.F.called_bool.init.lookup PySem.F.called_bool.made (by decide) prog w A.in1 _ s₁ ⟨rfl, rfl, hq⟩⟩
end
section
variable {X : Cx} {CX : CXT} {n : Nat} {C g : Addr} {fd : FuncData} {ps : List Str} {sp : Sp} {E : XK}
/-- x != y by the own == -/
def rOwnN (C : Addr) (sp : Sp) (E : XK) : R2 := fun x y H Q => ∃ a dx fs b dy gs, x = .ref a ∧ y = .ref b ∧ H a = some (.ins C dx fs) ∧ H b = some (.ins C dy gs) ∧ sp [x, y] H (fun z H' => ∃ k, z = .bl k ∧ Q (.bl (!k)) H') E
theorem op_neO2 (m : Meth X.K C "__eq__" g) (hm : PySem.W.mroIn X.K C (.type "object") = some true) (hn : PySem.W.findIn X.K (.ref C) "__ne__" = some (some (.builtin "object.__ne__"))) (F : FnOk X.prog X.w X.K X.mg X.base CX n g fd ps sp) (hr : Room (n + 1) X.A) (hb : Binds X.K fd ps []) (hx : Passes CX X E) :
    OpR X (compareOp .NotEq) (rOwnN C sp E) := by
  intro pins s σ H x y v u Q I rx ry h
  obtain ⟨a, dx, fs, b, dy, gs, rfl, rfl, ha, hb', q⟩ := h
  cases (show v = Value.ref a from rx)
  cases (show u = Value.ref b from ry)
  obtain ⟨ox, od, J⟩ := inst_of I ha
  obtain ⟨oy, od', J'⟩ := inst_of I hb'
  have hr1 : Room n X.A.in1 := Room.in1 hr
  show wpAny _ _ (richCompare .NotEq (.ref a) (.ref b)) _ _ s
  refine rc_ne hr1.units0 hr.units0 I.kIn J J' hm hn m.at_ m.fn ?_
  refine wpAny_mono (run_in (us := [.ref a, .ref b]) (ws := [.ref a, .ref b]) F hr1 I.env0.in1 hb hx I (.cons rfl (.cons rfl .nil)) q) (fun w s' z => ?_) fun _ _ x => x
  obtain ⟨z', H', I', rz, k, rfl, qz⟩ := z
  cases (show w = Value.bool k from rz)
  exact ⟨k, rfl, .bl (!k), H', I', rfl, qz⟩
/-- bool(x) -/
def rBoolO (C : Addr) (sp : Sp) (E : XK) : List V → Hp → VK → Prop := fun xs H Q => ∃ a dx fs, xs = [V.ref a] ∧ H a = some (.ins C dx fs) ∧ sp [.ref a] H (fun z H' => ∃ k, z = .bl k ∧ Q (.bl k) H') E
theorem call_boolO (m : Meth X.K C "__bool__" g) (F : FnOk X.prog X.w X.K X.mg X.base CX n g fd ps sp) (hr : Room (n + 2) X.A) (hb : Binds X.K fd ps []) (hx : Passes CX X E) : CallR X (.type "bool") (rBoolO C sp E) := by
  intro pins s σ H xs us Q I r h
  obtain ⟨a, dx, fs, rfl, ha, q⟩ := h
  obtain ⟨u, rfl, ru⟩ := r.one
  cases (show u = Value.ref a from ru)
  obtain ⟨ox, od, J⟩ := inst_of I ha
  have hr2 : Room n X.A.in1.in1 := (show Room (n + 1) X.A.in1 from Room.in1 hr).in1
  refine bool_own I.kIn J m.at_ m.fn (wpAny_mono (run_in (us := [.ref a]) (ws := [.ref a]) F hr2 I.env0.in1.in1 hb hx I (.cons rfl .nil) q) (fun w s' z => ?_) fun _ _ x => x)
  obtain ⟨z', H', I', rz, k, rfl, qz⟩ := z
  cases (show w = Value.bool k from rz)
  exact ⟨k, rfl, .bl k, H', I', rfl, qz⟩
/-- any(xs) of whole numbers -/
def rAnyI (K : PySem.W.Frag) : List V → Hp → VK → Prop := fun vs H Q => ∃ (a : Addr) (ns : List Int), vs = [V.ref a] ∧ SqL K H a (ns.map V.int) ∧ Q (.bl (ns.any fun i => i != 0)) H
theorem vals_ints : ∀ {ns : List Int} {us : List Value}, Vals (ns.map V.int) us → ∀ (i : Nat) (v : Value), us[i]? = some v → ∃ z t, ns[i]? = some z ∧ v = .int z t
  | [], us, h, i, v, hv => by
    rw [List.map_nil] at h
    cases h
    simp at hv
  | z :: ns, us, h, i, v, hv => by
    rw [List.map_cons] at h
    cases h with
    | cons r t =>
      obtain ⟨t', e⟩ := (show ∃ t, _ = Value.int z t from r)
      match i, hv with
      | 0, hv =>
        cases hv
        exact ⟨z, t', rfl, e⟩
      | i + 1, hv => exact vals_ints t i v (by simpa using hv)
theorem any_rangeI : ∀ ns : List Int, (List.range ns.length).any (fun i => ns.getD i 0 != 0) = ns.any fun i => i != 0
  | [] => rfl
  | b :: bs => by
    rw [List.length_cons, List.range_succ_eq_map, List.any_cons, List.any_map, List.any_cons, ← any_rangeI bs]
    all_goals rfl
theorem cr_anyI (hc : X.calm = true) : CallR X (.builtin "any") (rAnyI X.K) := by
  intro pins s σ H vs us Q I r h
  obtain ⟨a, ns, rfl, hs, q⟩ := h
  obtain ⟨its, rv, hl, _⟩ := I.list hs
  rw [Vals.ref1 r]
  refine call_any_walk (iter_any hl.isList fun s₂ e2 st hne => ?_)
  subst e2
  have tr : TruthOf X.prog X.w X.A.in1 (fun i v => its.toArray[i]? = some v) (fun i => ns.getD i 0 != 0) := fun i v s Q E hv hq => by
    obtain ⟨z, t, hz, rfl⟩ := vals_ints rv i v (by simpa using hv)
    have hg : ns.getD i 0 = z := by rw [List.getD_eq_getElem?_getD, hz] <;> rfl
    have hq' : Q (ns.getD i 0 != 0) s := hq
    rw [hg] at hq'
    exact P.truthy_int hq'
  refine ⟨_, _, _, _, _, _, _, rfl, Walks.list (A := X.A.in1) (I.ok.hd hc) _ a hne its.toArray, st, tr, fun h' tk hk => ?_⟩
  refine ⟨.bl _, H, I.kept fun b o eo => hk b o (fun hmem => ?_) (Heap.get?_push_of_some _ eo), ?_, q⟩
  · rcases List.mem_cons.mp hmem with e1 | hmem
    · exact absurd (e1 ▸ Heap.lt_size eo) (Nat.lt_irrefl _)
    · cases hmem
  · show Value.bool _ = Value.bool _
    have hlen := rv.length
    rw [List.length_map] at hlen
    rw [← any_rangeI, List.size_toArray, ← hlen]
end
/-! ### repr(x) by an own method, x == y where y is no instance -/
section
variable {X : Cx} {CX : CXT} {n : Nat} {C g : Addr} {fd : FuncData} {ps : List Str} {sp : Sp} {E : XK}
/-- repr(x), by an own method that gives a text -/
def rReprO (C : Addr) (sp : Sp) (E : XK) : List V → Hp → VK → Prop := fun xs H Q => ∃ a dx fs, xs = [V.ref a] ∧ H a = some (.ins C dx fs) ∧ sp [.ref a] H (fun z H' => ∃ t, z = .str t ∧ Q (.str t) H') E
theorem call_reprO (m : Meth X.K C "__repr__" g) (F : FnOk X.prog X.w X.K X.mg X.base CX n g fd ps sp) (hr : Room (n + 1) X.A) (hb : Binds X.K fd ps []) (hx : Passes CX X E) : CallR X (.builtin "repr") (rReprO C sp E) := by
  intro pins s σ H xs us Q I r h
  obtain ⟨a, dx, fs, rfl, ha, q⟩ := h
  obtain ⟨u, rfl, ru⟩ := r.one
  cases (show u = Value.ref a from ru)
  obtain ⟨ox, od, J⟩ := inst_of I ha
  obtain ⟨mm, hF⟩ := I.fr
  have room : Room n X.A.in1 := Room.in1 hr
  refine PySem.W.repr_K room.units0 hF I.ok.mod.kin J m.at_ m.fn (wpAny_mono (run_in (us := [.ref a]) (ws := [.ref a]) F room I.env0.in1 hb hx I (.cons rfl .nil) q) ?_ fun _ _ z => z)
  rintro v s' ⟨z, G, I', rz, t, rfl, qz⟩
  obtain ⟨k, rfl⟩ := rz
  exact ⟨.str t, G, I', ⟨k, rfl⟩, qz⟩
/-- x == y, y a list -/
def rOwnL (C : Addr) (sp : Sp) (E : XK) : R2 := fun x y H Q => ∃ a dx fs l zs, x = .ref a ∧ y = .ref l ∧ H a = some (.ins C dx fs) ∧ H l = some (.lst zs) ∧ sp [x, y] H Q E
theorem op_eqOL (m : Meth X.K C "__eq__" g) (nl : PySem.W.subIn X.K (.type "list") (.ref C) = some false) (F : FnOk X.prog X.w X.K X.mg X.base CX n g fd ps sp) (hr : Room n X.A) (hb : Binds X.K fd ps []) (hx : Passes CX X E) : OpR X (compareOp .Eq) (rOwnL C sp E) := by
  intro pins s σ H x y v u Q I rx ry h
  obtain ⟨a, dx, fs, l, zs, rfl, rfl, ha, hl, q⟩ := h
  cases (show v = Value.ref a from rx)
  cases (show u = Value.ref l from ry)
  obtain ⟨ox, od, J⟩ := inst_of I ha
  obtain ⟨Ps, Z, hP, _⟩ := kit_of I ry (TyX.base (TyOf.lst hl))
  obtain ⟨mm, hF⟩ := I.fr
  have first : PySem.W.notFirst X.K C (.type "list") = true := by
    unfold PySem.W.notFirst
    rw [nl]
    simp
  show wpAny _ _ (richCompare .Eq (.ref a) (.ref l)) _ _ s
  refine PySem.W.cmp_K (op := .Eq) (tb := .type "list") hr.units0 hF I.ok.mod.kin J (Z.ty _ _ I.kIn hP) first m.at_ m.fn ?_
  refine wpAny_mono (run_in (us := [.ref a, .ref l]) (ws := [.ref a, .ref l]) F hr I.env0 hb hx I (.cons rfl (.cons rfl .nil)) q) (fun w s' z => ?_) fun _ _ x => x
  obtain ⟨z', H', I', rz, qz⟩ := z
  exact SlX.cmpback rz ⟨z', H', I', rz, qz⟩
end
/-! ### the exact text of a tuple: where no text is being made around it, str writes all of it -/
section
variable {X : Cx}
theorem dp_ref {K : PySem.W.Frag} {H : Hp} {v : V} {d : PyData} (h : Dp K H v d) : ∀ {a : Addr} {u : Value}, v = .ref a → RelV v u → u = .ref a := fun e r => by
  subst e
  exact r
def rStrT (K : PySem.W.Frag) : List V → Hp → VK → Prop := fun xs H Q => ∃ (a : Addr) (d : PyData), xs = [.ref a] ∧ Dp K H (.ref a) d ∧ d.showable = true ∧ d.hasDict = false ∧ d.depth ≤ 9 ∧ d.shown.length ≤ sizeLine ∧ Q (.str d.shown) H
theorem call_strT (hg : X.A.guards = some []) (hu : X.A.units + 12 < cLine) : CallR X (.type "str") (rStrT X.K) := by
  intro pins s σ H xs us Q I vs h
  obtain ⟨a, d, rfl, hd, hs, nd, dep, len, q⟩ := h
  obtain ⟨u, us', rfl, ru, rfl⟩ : ∃ u us', us = u :: us' ∧ RelV (.ref a) u ∧ us' = [] := by
    cases vs with
    | cons r vs' =>
      cases vs'
      exact ⟨_, _, rfl, r, rfl⟩
  obtain ⟨as, rd⟩ := Dp.reads I d _ _ hd ru
  cases (show u = Value.ref a from ru)
  exact str_of_reads rd hs (PyData.noDict_hsm nd) hg (by omega) (fun _ _ e => e) (fun h' t tk hk => ⟨.str d.shown, H, I.kept hk, ⟨_, rfl⟩, q⟩) len
end
/-! ### a law whose promise may use where it is called: no text is being made around it -/
section
variable {P : Program} {w : World} {K : PySem.W.Frag} {mg mb : Str → Option Value} {fa a : Addr} {s₁ : Shared} {vs : List Value} {ns : List Int}
/-- what is told of behind the top: the script, unless it is one of the module's own objects -/
def scriptAt (K : PySem.W.Frag) (a : Addr) (vs : List Value) (ns : List Int) : Hp := fun b => if b = a ∧ K.lookup a = none then some (.frz { cls := .type "list", data := .seq vs.toArray } (.lst (ns.map V.int))) else none
theorem scriptAt_far {b : Addr} (h : ¬ (b = a ∧ K.lookup a = none)) : scriptAt K a vs ns b = none := if_neg h
theorem scriptAt_one {b : Addr} {u : HO} (h : scriptAt K a vs ns b = some u) : b = a ∧ u = .frz { cls := .type "list", data := .seq vs.toArray } (.lst (ns.map V.int)) := by
  unfold scriptAt at h
  split at h
  · next z => exact ⟨z.1, (Option.some.inj h).symm⟩
  · cases h
theorem ask_law (KX : K.In s₁.heap) (hns : s₁.heap.Ns mainGlobals mg) (hb : s₁.heap.Ns builtinsNs mb) (hbb : ∀ x : Str, x ≠ "__name__" → mb x = bootBuiltins x) (hlim : s₁.heap.NoLimit) (hg : s₁.gens = #[])
    (ha : s₁.heap.get? a = some { cls := .type "list", data := .seq vs.toArray }) (hi : IntsAre vs ns) (hl : ns.length ≤ sizeLine)
    (F : ∀ (base : Heap) (H : Hp), Env0 P w K mg base callerA [] s₁ H → SqL K H a (ns.map V.int) → codeAny (model P w) callerA (.call (.ref fa) ⟨[.ref a], []⟩) (CR L2.CX0 [] P w H s₁ (fun v _ => v = .bl true) L2.E0) s₁) :
    codeAny (model P w) callerA (.call (.ref fa) ⟨[.ref a], []⟩) (fun r s' => r = .ok (.ret (.bool true)) ∧ OldK s₁.heap s'.heap ∧ s'.os = s₁.os ∧ AllBare s'.gens) s₁ := by
  have rv := L2.vals_ints hi
  have shown : ∀ {b : Addr} {o : Obj}, s₁.heap.get? b = some o → ¬ (b = a ∧ K.lookup a = none) → (hidT s₁.heap (scriptAt K a vs ns)).get? b = some o := fun e n => hidT_get e (scriptAt_far n)
  have names : ∀ {b : Addr} {m : Str → Option Value}, s₁.heap.Ns b m → (hidT s₁.heap (scriptAt K a vs ns)).Ns b m := by
    rintro b m ⟨o, es, ep, e, d, r⟩
    refine ⟨o, es, ep, shown e fun z => ?_, d, r⟩
    rw [z.1, ha] at e
    cases e
    cases d
  have kin : K.In (hidT s₁.heap (scriptAt K a vs ns)) := fun b o e => shown (KX b o e) fun z => by
    rw [z.1, z.2] at e
    cases e
  obtain ⟨mc, lim, none_there⟩ := hlim
  have script : SqL K (scriptAt K a vs ns) a (ns.map V.int) := by
    cases hk : K.lookup a with
    | none => exact .inl (.inr ⟨_, if_pos ⟨rfl, hk⟩⟩)
    | some o =>
      cases (KX a o hk).symm.trans ha
      exact .inr ⟨_, vs.toArray, _, hk, rfl, rfl, rfl, by rw [List.size_toArray, hi.length]; exact hl, by simpa using rv⟩
  have told : HOk P w (scriptAt K a vs ns) s₁.heap := fun b u z => by
    obtain ⟨rfl, rfl⟩ := scriptAt_one z
    exact ⟨ha, by rw [List.length_map]; exact hl, vs, _, rv, ha⟩
  refine codeAny_mono (F _ _ ⟨rfl, ⟨kin, names hns, ⟨mb, names hb, hbb⟩, mc, names lim, none_there⟩, fun b o e => of_hidT e, Nat.le_of_eq (hidT_size _ _), trivial, (fun _ z => nomatch z), told, .of_eq hg⟩ script) fun r s' h => ?_
  rcases r with e | (_ | _ | _ | u)
  · exact False.elim h
  · exact False.elim h
  · exact False.elim h
  · exact False.elim h
  · obtain ⟨_, H', os, bare, un, ok', ru, rfl⟩ := h
    cases (show u = Value.bool true from ru)
    refine ⟨rfl, OldK.of_keep fun b o e => ?_, os, bare⟩
    cases q : scriptAt K a vs ns b with
    | none => exact un.keep b o e q (fun z => nomatch z) (fun z => nomatch z)
    | some u =>
      obtain ⟨rfl, rfl⟩ := scriptAt_one q
      cases ha.symm.trans e
      exact (ok' _ _ (un.frzs _ _ _ q)).1
end
/-- what is promised of a law where the top calls it -/
def AskAt (P : Program) (w : World) (K : PySem.W.Frag) (mg : Str → Option Value) (base : Heap) (n : Nat) (fa : Addr) : Prop :=
  ∀ (s : Shared) (H : Hp) (a : Addr) (ns : List Int), Env0 P w K mg base callerA [] s H → SqL K H a (ns.map V.int) → ns.length ≤ n → codeAny (model P w) callerA (.call (.ref fa) ⟨[.ref a], []⟩) (CR L2.CX0 [] P w H s (fun v _ => v = .bl true) L2.E0) s
theorem walk_at {l : PySem.W.OpenLaw} {n : Nat} {q : Program} {loose : List Str} {XP : (Str → Option Value) → Heap → Prop} {YP : World → Heap → Prop} {d : DefRec} {K : Params → PySem.W.Frag} (most : l.most = some n) (fits : n ≤ sizeLine) (plain : d.params.defaults = [])
    (own : ∀ (w : World) (h : Heap), YP w h → (K w.params).In h) (ok : ∀ (w : World) (mg : Str → Option Value) (fa : Addr) (h : Heap), (K w.params).In h → h.Ns mainGlobals mg → mg d.name = some (.ref fa) → ∀ base : Heap, (K w.params).In base → base.Ns mainGlobals mg → AskAt l.prog w (K w.params) mg base n fa) :
    PySem.W.WalkO q loose XP YP l.row.toRowW d [] (fun f vs => PySem.call f vs) := by
  refine Att.attach_call most plain fun w s₀ s₁ mg mb fa o pm cd doc a vs ns G Y ho hd hcd hmg hobj hints hlen hg => ?_
  have kin := own w _ Y
  exact ask_law kin G.T.g G.T.b G.T.builtins G.T.nolimit hg hobj hints (Nat.le_trans hlen fits) fun base H e0 hS => ok w mg fa _ kin G.T.g hmg base e0.mod.kin e0.mod.glob s₁ H a ns e0 hS hlen
/-- a def's promise, where no text is being made around its call -/
structure FnG (P : Program) (w : World) (K : PySem.W.Frag) (mg : Str → Option Value) (base : Heap) (k : Nat) (f : Addr) (fd : FuncData) (ps : List Str) (sp : Sp) : Prop where
  len : ∀ vs H Q E, sp vs H Q E → vs.length = ps.length
  run : ∀ (A : Around) (outer : List Env) (s : Shared) (H : Hp) (us : List Value) (vs : List V) (Q : VK), Room k A → A.guards = some [] → Env0 P w K mg base A outer s H → BindsTo s fd ⟨us, []⟩ (ps.zip us) → Vals vs us → sp vs H Q L2.E0 →
    codeAny (model P w) A (.call (.ref f) ⟨us, []⟩) (CR L2.CX0 outer P w H s Q L2.E0) s
section
variable {X : Cx} {k : Nat} {f : Addr} {fd : FuncData} {ps : List Str} {sp : Sp} {x : Str} {e : Expr} {p pos : Pos} {t : TA}
theorem pe_callG (F : FnG X.prog X.w X.K X.mg X.base k f fd ps sp) (hr : Room k X.A) (gd : X.A.guards = some []) (hg : Gl X x) (hm : X.mg x = some (.ref f)) (hk : PySem.W.keepIn X.K (.ref f) = true) (hb : Binds X.K fd ps []) (ha : PA X [e] t)
    (hdb : (x == ("__debug__" : Str)) = false := by decide) (one : starEach [e] X.env = (false, eval e X.env) :: starEach [] X.env := by rfl) : PE X (.Call (.Name x p) [e] [] pos) (tCall sp [] L2.E0 t) := by
  constructor
  intro pins s σ H Q I h
  apply wpAny_Call_Name_kw
  refine ld_glob I hg hm ?_ hdb
  refine PySem.W.callWith_K (h₀ := X.base) I.ok.mod.kin hk ?_ one
  refine thn (ha.run pos pins s σ H _ I h) ?_
  rintro us s1 ⟨vs, H1, I1, r1, q⟩
  rw [List.append_nil] at q
  refine ⟨I1.kIn, wpAny_call (codeAny_mono (F.run X.A X.stack s1 H1 us vs Q hr gd I1.env0 ?_ r1 q) fun r s2 hq => ?_)⟩
  · have b := hb s1 us I1.kIn (by rw [List.append_nil, ← r1.length]; exact F.len _ _ _ _ q)
    rwa [List.append_nil] at b
  · cases r with
    | error e => exact (show False from hq).elim
    | ok fl => cases fl with
      | ret u => exact I1.after hq
      | next | brk | cont => exact False.elim hq
end
/-! ### x[i] by a method of the program's own -/
section
variable {X : Cx} {CX : CXT} {n : Nat} {C g : Addr} {fd : FuncData} {ps : List Str} {sp : Sp} {E : XK} {a b : Expr} {ta tb : TE} {pos : Pos}
def rGetO (C : Addr) (sp : Sp) (E : XK) : R2 := fun x y H Q => ∃ p dx fs, x = .ref p ∧ H p = some (.ins C dx fs) ∧ sp [x, y] H Q E
theorem pe_getO (m : Meth X.K C "__getitem__" g) (fi : PySem.W.fnIn X.K g = true) (F : FnOk X.prog X.w X.K X.mg X.base CX n g fd ps sp) (hr : Room (n + 1) X.A) (hb : Binds X.K fd ps []) (hx : Passes CX X E) (ha : PE X a ta) (hi : PE X b tb)
    (way : ∀ (x : Addr) (i : Value), subscripted b true (.ref x) i = runValue (.builtin "lifetime.subscript" ⟨[.ref x, i], []⟩) := by intro _ _; with_unfolding_all rfl) : PE X (.Subscript a b pos) (tOp (rGetO C sp E) ta tb) := by
  refine ⟨fun pins s σ H Q I h => Subscript_ (binT ha hi I h fun v u s2 x y H2 I2 rx ry q => ?_)⟩
  obtain ⟨p, dx, fs, rfl, hp, q⟩ := q
  cases (show v = Value.ref p from rx)
  obtain ⟨ox, od, J⟩ := inst_of I2 hp
  obtain ⟨mm, hF⟩ := I2.fr
  exact PySem.W.sub_K hF I2.ok.mod.kin J m.at_ fi m.fn (run_in (us := [.ref p, u]) (ws := [.ref p, y]) F (Room.in1 hr) I2.env0.in1 hb hx I2 (.cons rfl (.cons ry .nil)) q) (way _ _)
/-- x == y, y anything of a built-in type -/
def rOwnA (K : PySem.W.Frag) (C : Addr) (T : String) (sp : Sp) (E : XK) : R2 := fun x y H Q => ∃ p dx fs, x = .ref p ∧ H p = some (.ins C dx fs) ∧ TyX K H y (.type T) ∧ sp [x, y] H Q E
theorem op_eqOA {T : String} (m : Meth X.K C "__eq__" g) (nl : PySem.W.subIn X.K (.type T) (.ref C) = some false) (F : FnOk X.prog X.w X.K X.mg X.base CX n g fd ps sp) (hr : Room n X.A) (hb : Binds X.K fd ps []) (hx : Passes CX X E) : OpR X (compareOp .Eq) (rOwnA X.K C T sp E) := by
  intro pins s σ H x y v u Q I rx ry h
  obtain ⟨p, dx, fs, rfl, hp, ty, q⟩ := h
  cases (show v = Value.ref p from rx)
  obtain ⟨ox, od, J⟩ := inst_of I hp
  obtain ⟨Ps, Z, hP, _⟩ := kit_of I ry ty
  obtain ⟨mm, hF⟩ := I.fr
  have first : PySem.W.notFirst X.K C (.type T) = true := by
    unfold PySem.W.notFirst
    rw [nl]
    simp
  show wpAny _ _ (richCompare .Eq (.ref p) u) _ _ s
  refine PySem.W.cmp_K (op := .Eq) (tb := .type T) hr.units0 hF I.ok.mod.kin J (Z.ty _ _ I.kIn hP) first m.at_ m.fn ?_
  refine wpAny_mono (run_in (us := [.ref p, u]) (ws := [.ref p, y]) F hr I.env0 hb hx I (.cons rfl (.cons ry .nil)) q) (fun w s' z => ?_) fun _ _ x => x
  obtain ⟨z', H', I', rz, qz⟩ := z
  exact SlX.cmpback rz ⟨z', H', I', rz, qz⟩
end
def topS (i : Nat) : Stmt := PySem.Challenge.pw_grainyard_k11_tables_and_their_signs.main.body.getD i (.Pass ⟨0, 0, 0, 0⟩)
abbrev s_decimal_text : Stmt := topS 3
theorem sc_decimal_text : FnScope ["number", "rest", "groups", "group"] ["number"] (defScope s_decimal_text) := ⟨rfl, rfl, rfl, by decide +kernel, rfl, by decide +kernel, by decide +kernel⟩
abbrev s_added : Stmt := topS 5
theorem sc_added : FnScope ["pairs", "a", "b"] ["pairs"] (defScope s_added) := ⟨rfl, rfl, rfl, by decide +kernel, rfl, by decide +kernel, by decide +kernel⟩
abbrev s_scaled : Stmt := topS 6
theorem sc_scaled : FnScope ["pair", "number", "a", "b"] ["pair", "number"] (defScope s_scaled) := ⟨rfl, rfl, rfl, by decide +kernel, rfl, by decide +kernel, by decide +kernel⟩
abbrev s_Table_init : Stmt := inClass (topS 8) 0
theorem sc_Table_init : FnScope ["self", "rows", "t00", "t01", "t10", "t11"] ["self", "rows"] (defScope s_Table_init) := ⟨rfl, rfl, rfl, by decide +kernel, rfl, by decide +kernel, by decide +kernel⟩
abbrev s_Table_rows : Stmt := inClass (topS 8) 1
theorem sc_Table_rows : FnScope ["self"] ["self"] (defScope s_Table_rows) := ⟨rfl, rfl, rfl, by decide +kernel, rfl, by decide +kernel, by decide +kernel⟩
abbrev s_Table_add : Stmt := inClass (topS 8) 6
theorem sc_Table_add : FnScope ["self", "other", "upper", "lower", "other_upper", "other_lower"] ["self", "other"] (defScope s_Table_add) := ⟨rfl, rfl, rfl, by decide +kernel, rfl, by decide +kernel, by decide +kernel⟩
abbrev s_Table_sub : Stmt := inClass (topS 8) 7
theorem sc_Table_sub : FnScope ["self", "other"] ["self", "other"] (defScope s_Table_sub) := ⟨rfl, rfl, rfl, by decide +kernel, rfl, by decide +kernel, by decide +kernel⟩
abbrev s_Table_neg : Stmt := inClass (topS 8) 8
theorem sc_Table_neg : FnScope ["self"] ["self"] (defScope s_Table_neg) := ⟨rfl, rfl, rfl, by decide +kernel, rfl, by decide +kernel, by decide +kernel⟩
abbrev s_Table_mul : Stmt := inClass (topS 8) 9
theorem sc_Table_mul : FnScope ["self", "other", "upper", "lower"] ["self", "other"] (defScope s_Table_mul) := ⟨rfl, rfl, rfl, by decide +kernel, rfl, by decide +kernel, by decide +kernel⟩
abbrev s_Table_getitem : Stmt := inClass (topS 8) 10
theorem sc_Table_getitem : FnScope ["self", "at", "i", "j"] ["self", "at"] (defScope s_Table_getitem) := ⟨rfl, rfl, rfl, by decide +kernel, rfl, by decide +kernel, by decide +kernel⟩
abbrev s_Table_eq : Stmt := inClass (topS 8) 12
theorem sc_Table_eq : FnScope ["self", "other"] ["self", "other"] (defScope s_Table_eq) := ⟨rfl, rfl, rfl, by decide +kernel, rfl, by decide +kernel, by decide +kernel⟩
abbrev s_Table_bool : Stmt := inClass (topS 8) 13
theorem sc_Table_bool : FnScope ["self", "t00", "t01", "t10", "t11"] ["self"] (defScope s_Table_bool) := ⟨rfl, rfl, rfl, by decide +kernel, rfl, by decide +kernel, by decide +kernel⟩
abbrev s_Table_repr : Stmt := inClass (topS 8) 14
theorem sc_Table_repr : FnScope ["self", "texts", "row", "entry"] ["self"] (defScope s_Table_repr) := ⟨rfl, rfl, rfl, by decide +kernel, rfl, by decide +kernel, by decide +kernel⟩
abbrev s_source : Stmt := topS 10
theorem sc_source : FnScope ["_law_script", "_law_mix", "_law_cell"] ["_law_script"] (defScope s_source) := ⟨rfl, rfl, rfl, by decide +kernel, rfl, by decide +kernel, by decide +kernel⟩
abbrev s_pull : Stmt := topS 11
theorem sc_pull : FnScope ["_law_bag", "_law_size", "_law_mix", "_law_cell", "_law_found"] ["_law_bag", "_law_size"] (defScope s_pull) := ⟨rfl, rfl, rfl, by decide +kernel, rfl, by decide +kernel, by decide +kernel⟩
abbrev s_of : Stmt := topS 12
theorem sc_of : FnScope ["_law_bag", "_law_some"] ["_law_bag", "_law_some"] (defScope s_of) := ⟨rfl, rfl, rfl, by decide +kernel, rfl, by decide +kernel, by decide +kernel⟩
abbrev s_a_number : Stmt := topS 13
theorem sc_a_number : FnScope ["_law_bag", "_law_size"] ["_law_bag"] (defScope s_a_number) := ⟨rfl, rfl, rfl, by decide +kernel, rfl, by decide +kernel, by decide +kernel⟩
abbrev s_any_entries : Stmt := topS 14
theorem sc_any_entries : FnScope ["_law_bag", "_law_found", "_law_k"] ["_law_bag"] (defScope s_any_entries) := ⟨rfl, rfl, rfl, by decide +kernel, rfl, by decide +kernel, by decide +kernel⟩
abbrev s_like : Stmt := topS 15
theorem sc_like : FnScope ["_law_found", "_law_due", "_law_k"] ["_law_found", "_law_due"] (defScope s_like) := ⟨rfl, rfl, rfl, by decide +kernel, rfl, by decide +kernel, by decide +kernel⟩
abbrev s_shown : Stmt := topS 16
theorem sc_shown : FnScope ["_law_table"] ["_law_table"] (defScope s_shown) := ⟨rfl, rfl, rfl, by decide +kernel, rfl, by decide +kernel, by decide +kernel⟩
abbrev s_law : Stmt := topS 17
theorem sc_law : FnScope ["_law_script", "_law_bag", "_law_turn", "_law_due", "_law_same", "_law_one", "_law_two", "_law_size", "_law_a", "_law_b", "_law_c", "_law_e", "_law_f", "_law_g", "_law_h", "_law_k"] ["_law_script"] (defScope s_law) := ⟨rfl, rfl, rfl, by decide +kernel, rfl, by decide +kernel, by decide +kernel⟩
set_option genInjectivity false in
set_option genSizeOf false in
structure Txt (K : PySem.W.Frag) (mg : Str → Option Value) where
  f_decimal_text : Addr
  d_decimal_text : FuncData
  F_decimal_text : Fun K "decimal_text" "decimal_text" s_decimal_text f_decimal_text d_decimal_text
  g_decimal_text : mg "decimal_text" = some (.ref f_decimal_text)
  b_decimal_text : Binds K d_decimal_text ["number"] []
  f_added : Addr
  d_added : FuncData
  F_added : Fun K "added" "added" s_added f_added d_added
  g_added : mg "added" = some (.ref f_added)
  f_scaled : Addr
  d_scaled : FuncData
  F_scaled : Fun K "scaled" "scaled" s_scaled f_scaled d_scaled
  g_scaled : mg "scaled" = some (.ref f_scaled)
  b_scaled : Binds K d_scaled ["pair", "number"] []
  C_Table : Addr
  cl_Table : Cls K C_Table
  g_Table : mg "Table" = some (.ref C_Table)
  sf_Table : PySem.W.selfFirst K C_Table = true
  nq_Table : PySem.W.noSeq K C_Table = true
  n_Table_cells : NoAttr K C_Table "cells"
  mo_Table : PySem.W.mroIn K C_Table (.type "object") = some true
  ne_Table : PySem.W.findIn K (.ref C_Table) "__ne__" = some (some (.builtin "object.__ne__"))
  ca_Table : PySem.W.findIn K (.ref C_Table) "__class__" = some (some (.builtin "object.__class__"))
  hn : PySem.W.specialIn K (.builtin "object.__class__") "__get__" = some (some (.builtin "getset_descriptor.__get__"))
  ht : PySem.W.takesIn K (.builtin "object.__class__") = some true
  x_Table_rmul : PySem.W.findIn K (.ref C_Table) "__rmul__" = some none
  i_mul : PySem.W.findIn K (.type "int") "__mul__" = some (some (.builtin "int.__mul__"))
  i_rmul : PySem.W.findIn K (.type "int") "__rmul__" = some (some (.builtin "int.__rmul__"))
  is_Table : PySem.W.subIn K (.type "int") (.ref C_Table) = some false
  nl_Table : PySem.W.subIn K (.type "list") (.ref C_Table) = some false
  ic_Table : PySem.W.isClsIn K C_Table = true
  tw_Table : PySem.W.typeIn K (.ref C_Table) = some (.type "type")
  f_Table_init : Addr
  d_Table_init : FuncData
  r0_Table_init : Addr
  F_Table_init : FunD K "__init__" "Table.__init__" (defArgs s_Table_init) (defBody s_Table_init) (defScope s_Table_init) [.ref r0_Table_init] [] f_Table_init d_Table_init
  b_Table_init : Binds K d_Table_init ["self", "rows"] []
  b0_Table_init : Binds K d_Table_init ["self", "rows"] [.ref r0_Table_init]
  v0_Table_init : Vals [.ref r0_Table_init] [.ref r0_Table_init]
  z0_Table_init : Dflt K r0_Table_init
  M_Table : Mk K C_Table f_Table_init
  f_Table_rows : Addr
  d_Table_rows : FuncData
  F_Table_rows : Fun K "rows" "Table.rows" s_Table_rows f_Table_rows d_Table_rows
  b_Table_rows : Binds K d_Table_rows ["self"] []
  m_Table_rows : Meth K C_Table "rows" f_Table_rows
  f_Table_add : Addr
  d_Table_add : FuncData
  F_Table_add : Fun K "__add__" "Table.__add__" s_Table_add f_Table_add d_Table_add
  b_Table_add : Binds K d_Table_add ["self", "other"] []
  m_Table_add : Meth K C_Table "__add__" f_Table_add
  f_Table_sub : Addr
  d_Table_sub : FuncData
  F_Table_sub : Fun K "__sub__" "Table.__sub__" s_Table_sub f_Table_sub d_Table_sub
  b_Table_sub : Binds K d_Table_sub ["self", "other"] []
  m_Table_sub : Meth K C_Table "__sub__" f_Table_sub
  f_Table_neg : Addr
  d_Table_neg : FuncData
  F_Table_neg : Fun K "__neg__" "Table.__neg__" s_Table_neg f_Table_neg d_Table_neg
  b_Table_neg : Binds K d_Table_neg ["self"] []
  m_Table_neg : Meth K C_Table "__neg__" f_Table_neg
  f_Table_mul : Addr
  d_Table_mul : FuncData
  F_Table_mul : Fun K "__mul__" "Table.__mul__" s_Table_mul f_Table_mul d_Table_mul
  b_Table_mul : Binds K d_Table_mul ["self", "other"] []
  m_Table_mul : Meth K C_Table "__mul__" f_Table_mul
  f_Table_getitem : Addr
  d_Table_getitem : FuncData
  F_Table_getitem : Fun K "__getitem__" "Table.__getitem__" s_Table_getitem f_Table_getitem d_Table_getitem
  b_Table_getitem : Binds K d_Table_getitem ["self", "at"] []
  m_Table_getitem : Meth K C_Table "__getitem__" f_Table_getitem
  f_Table_eq : Addr
  d_Table_eq : FuncData
  F_Table_eq : Fun K "__eq__" "Table.__eq__" s_Table_eq f_Table_eq d_Table_eq
  b_Table_eq : Binds K d_Table_eq ["self", "other"] []
  m_Table_eq : Meth K C_Table "__eq__" f_Table_eq
  f_Table_bool : Addr
  d_Table_bool : FuncData
  F_Table_bool : Fun K "__bool__" "Table.__bool__" s_Table_bool f_Table_bool d_Table_bool
  b_Table_bool : Binds K d_Table_bool ["self"] []
  m_Table_bool : Meth K C_Table "__bool__" f_Table_bool
  f_Table_repr : Addr
  d_Table_repr : FuncData
  F_Table_repr : Fun K "__repr__" "Table.__repr__" s_Table_repr f_Table_repr d_Table_repr
  b_Table_repr : Binds K d_Table_repr ["self"] []
  m_Table_repr : Meth K C_Table "__repr__" f_Table_repr
  f_source : Addr
  d_source : FuncData
  F_source : Fun K "_law_source" "_law_source" s_source f_source d_source
  g_source : mg "_law_source" = some (.ref f_source)
  b_source : Binds K d_source ["_law_script"] []
  f_pull : Addr
  d_pull : FuncData
  F_pull : Fun K "_law_pull" "_law_pull" s_pull f_pull d_pull
  g_pull : mg "_law_pull" = some (.ref f_pull)
  b_pull : Binds K d_pull ["_law_bag", "_law_size"] []
  f_of : Addr
  d_of : FuncData
  F_of : Fun K "_law_of" "_law_of" s_of f_of d_of
  g_of : mg "_law_of" = some (.ref f_of)
  b_of : Binds K d_of ["_law_bag", "_law_some"] []
  f_a_number : Addr
  d_a_number : FuncData
  F_a_number : Fun K "_law_a_number" "_law_a_number" s_a_number f_a_number d_a_number
  g_a_number : mg "_law_a_number" = some (.ref f_a_number)
  b_a_number : Binds K d_a_number ["_law_bag"] []
  f_any_entries : Addr
  d_any_entries : FuncData
  F_any_entries : Fun K "_law_any_entries" "_law_any_entries" s_any_entries f_any_entries d_any_entries
  g_any_entries : mg "_law_any_entries" = some (.ref f_any_entries)
  b_any_entries : Binds K d_any_entries ["_law_bag"] []
  f_like : Addr
  d_like : FuncData
  F_like : Fun K "_law_like" "_law_like" s_like f_like d_like
  g_like : mg "_law_like" = some (.ref f_like)
  b_like : Binds K d_like ["_law_found", "_law_due"] []
  f_shown : Addr
  d_shown : FuncData
  F_shown : Fun K "_law_shown" "_law_shown" s_shown f_shown d_shown
  g_shown : mg "_law_shown" = some (.ref f_shown)
  b_shown : Binds K d_shown ["_law_table"] []
  n_range : mg "range" = none
  n_isinstance : mg "isinstance" = none
  n_str : mg "str" = none
  n_sum : mg "sum" = none
  n_any : mg "any" = none
  n_list : mg "list" = none
  n_tuple : mg "tuple" = none
  n_len : mg "len" = none
  n_all : mg "all" = none
  n_bool : mg "bool" = none
  n_repr : mg "repr" = none
  u_GROUP : Value
  g_GROUP : mg "GROUP" = some u_GROUP
  rv_GROUP : RelV (.int (10 ^ 64)) u_GROUP
  fi_get : PySem.W.fnIn K f_Table_getitem = true
  nn_Table : PySem.W.subIn K (.type "NoneType") (.ref C_Table) = some false
  nt_Table : PySem.W.subIn K (.type "tuple") (.ref C_Table) = some false
  kb_Table_init_rows : KBn K d_Table_init ["self", "rows"] 1 ["rows"] (fun us ws : List Value => [us.getD 0 .none, ws.getD 0 .none]) (fun us ws : List V => [us.getD 0 .non, ws.getD 0 .non])
theorem vals_getD : ∀ {zs : List V} {ws : List Value} (_ : Vals zs ws) (i : Nat), RelV (zs.getD i .non) (ws.getD i .none) := by
  intro zs ws h
  induction h with
  | nil => exact fun _ => rfl
  | cons r t ih =>
    intro i
    cases i with
    | zero => exact r
    | succ i => exact ih i
theorem kbn_Table_init_rows {K : PySem.W.Frag} {f : Addr} {fd : FuncData} {r : Addr} (F : FunD K "__init__" "Table.__init__" (defArgs s_Table_init) (defBody s_Table_init) (defScope s_Table_init) [.ref r] [] f fd) : KBn K fd ["self", "rows"] 1 ["rows"] (fun us ws : List Value => [us.getD 0 .none, ws.getD 0 .none]) (fun us ws : List V => [us.getD 0 .non, ws.getD 0 .non]) := by
  obtain ⟨oc, od, dV, kV, doc, pm, an, cdv, ct, osl, rfl, lk, hcd, hD, hK⟩ := F.ex
  rcases hD with ⟨e, _⟩ | ⟨_, T, o, its, m, rfl, lT, oT, rT⟩
  · cases e
  · refine ⟨fun s us ws X l1 l2 => ?_, fun r1 r2 => .cons (vals_getD r1 0) (.cons (vals_getD r2 0) (.nil))⟩
    match us, ws, its, l1, l2, rT.length with
    | [_], [_], [_], _, _, _ =>
      refine BindsTo.of_looks fun M => ?_
      exact looks_items X lT oT (.of_pure rfl)
/-! ### heaps, and the bag that the draws change -/
def Keep (b : Addr) (H H' : Hp) : Prop := ∀ a o, a ≠ b → H a = some o → H' a = some o
theorem Keep.refl {b : Addr} (H : Hp) : Keep b H H := fun _ _ _ e => e
theorem Keep.trans {b : Addr} {H H1 H2 : Hp} (x : Keep b H H1) (y : Keep b H1 H2) : Keep b H H2 := fun a o n e => y a o n (x a o n e)
theorem keep_put {b : Addr} {H : Hp} {o : HO} : Keep b H (upd H b o) := fun a u n e => (upd_ne n).trans e
theorem keep_new {b p : Addr} {H : Hp} {o : HO} (hp : H p = none) : Keep b H (upd H p o) := fun a u _ e => (upd_ne (ne_of_none e hp)).trans e
theorem same_new {p : Addr} {H : Hp} {o : HO} (hp : H p = none) : Same H (upd H p o) := fun a u e => (upd_ne (ne_of_none e hp)).trans e
theorem keep_of {b : Addr} {H H' : Hp} (s : Same H H') : Keep b H H' := fun a o _ e => s a o e
theorem Same.keep {b : Addr} {H H1 H2 : Hp} (s : Same H H1) (k : Keep b H1 H2) (hb : H b = none) : Same H H2 := fun a o e => k a o (ne_of_none e hb) (s a o e)
structure BagAt (H : Hp) (b s : Addr) (ns : List Int) (i j m c : Int) : Prop where
  hb : H b = some (.lst [.ref s, .int i, .int j, .int m, .int c])
  hs : H s = some (.lst (ns.map V.int))
  i0 : 0 ≤ i
  i1 : i ≤ (ns.length : Int)
  m0 : 0 ≤ m
  m1 : m < 2147483399
def Bag (H : Hp) (b sb : Addr) : Prop := ∃ (ns : List Int) (i j m c : Int), BagAt H b sb ns i j m c
theorem BagAt.ne {H : Hp} {b s : Addr} {ns : List Int} {i j m c : Int} (B : BagAt H b s ns i j m c) : s ≠ b := ne_of B.hs B.hb (by
  intro e
  injection e with e
  cases ns with
  | nil => simp at e
  | cons x r => simp at e)
theorem BagAt.put {H : Hp} {b s : Addr} {ns : List Int} {i j m c : Int} (B : BagAt H b s ns i j m c) {i' j' m' c' : Int} (h0 : 0 ≤ i') (h1 : i' ≤ (ns.length : Int)) (h2 : 0 ≤ m') (h3 : m' < 2147483399) :
    BagAt (upd H b (.lst [.ref s, .int i', .int j', .int m', .int c'])) b s ns i' j' m' c' := ⟨upd_same, (upd_ne B.ne).trans B.hs, h0, h1, h2, h3⟩
theorem BagAt.same {H H' : Hp} {b s : Addr} {ns : List Int} {i j m c : Int} (B : BagAt H b s ns i j m c) (e : Same H H') : BagAt H' b s ns i j m c := ⟨e _ _ B.hb, e _ _ B.hs, B.i0, B.i1, B.m0, B.m1⟩
theorem Bag.same {H H' : Hp} {b sb : Addr} (B : Bag H b sb) (e : Same H H') : Bag H' b sb := by
  obtain ⟨ns, i, j, m, c, B⟩ := B
  exact ⟨ns, i, j, m, c, B.same e⟩
theorem Bag.new {H : Hp} {b sb p : Addr} {o : HO} (B : Bag H b sb) (hp : H p = none) : Bag (upd H p o) b sb := B.same (same_new hp)
theorem Bag.ne {H : Hp} {b sb p : Addr} (B : Bag H b sb) (hp : H p = none) : p ≠ b := by
  obtain ⟨ns, i, j, m, c, B⟩ := B
  exact (ne_of_none B.hb hp).symm
theorem Bag.ne2 {H : Hp} {b sb p : Addr} (B : Bag H b sb) (hp : H p = none) : p ≠ sb := by
  obtain ⟨ns, i, j, m, c, B⟩ := B
  exact (ne_of_none B.hs hp).symm
theorem Bag.tup {H : Hp} {b sb p : Addr} {xs : List V} (B : Bag H b sb) (hp : H p = some (.tup xs)) : p ≠ b := by
  obtain ⟨ns, i, j, m, c, B⟩ := B
  exact ne_of hp B.hb (by intro z; cases z)
theorem Bag.put {H : Hp} {b sb l : Addr} {o : HO} (B : Bag H b sb) (h1 : l ≠ b) (h2 : l ≠ sb) : Bag (upd H l o) b sb := by
  obtain ⟨ns, i, j, m, c, B⟩ := B
  exact ⟨ns, i, j, m, c, (upd_ne h1.symm).trans B.hb, (upd_ne h2.symm).trans B.hs, B.i0, B.i1, B.m0, B.m1⟩
theorem Keep.list {K : PySem.W.Frag} {H H' : Hp} {b p : Addr} {xs : List V} (k : Keep b H H') (hp : p ≠ b) (h : H p = some (.lst xs)) : SqL K H' p xs := SqL.of (k _ _ hp h)
theorem at_some {α : Type} {xs : List α} {i : Int} (h0 : 0 ≤ i) (h1 : i < (xs.length : Int)) : ∃ v, xs[i.toNat]? = some v ∧ atI xs i = some v := by
  obtain ⟨n, rfl⟩ := Int.eq_ofNat_of_zero_le h0
  have hl : n < xs.length := by omega
  exact ⟨xs[n], by simp [hl], atI_nat (by simp [hl])⟩
theorem at_ex {ns : List Int} {i : Int} (h0 : 0 ≤ i) (h1 : i < (ns.length : Int)) : ∃ z, atI (ns.map V.int) i = some (.int z) := by
  obtain ⟨n, rfl⟩ := Int.eq_ofNat_of_zero_le h0
  have hl : n < ns.length := by omega
  exact ⟨ns[n], atI_nat (by simp [hl])⟩
/-! ### f(k = v, ..): keywords alone -/
section
variable {X : Cx}
theorem pe_kwOnly {CX : CXT} {k : Nat} {f : Addr} {fd : FuncData} {ps ks : List Str} {sp : Sp} {E : XK} {x : Str} {p pos : Pos} {kws : List Keyword} {tk : TA} {g : List Value → List Value → List Value} {gV : List V → List V → List V}
    (F : FnOk X.prog X.w X.K X.mg X.base CX k f fd ps sp) (hr : Room k X.A) (hg : Gl X x) (hm : X.mg x = some (.ref f))
    (hk : PySem.W.keepIn X.K (.ref f) = true) (hb : KBn X.K fd ps 0 ks g gV) (hx : Passes CX X E) (hkw : PK X kws tk)
    (hall : (backToKw pos (keywordEach kws X.env)).all (·.1.isSome) = true := by rfl)
    (hks : (backToKw pos (keywordEach kws X.env)).filterMap (·.1) = ks := by rfl)
    (hdb : (x == ("__debug__" : Str)) = false := by decide)
    (hpl : ((backTo pos (starEach [] X.env)).any (·.1) || (backToKw pos (keywordEach kws X.env)).any (·.1.isNone)) = false := by rfl) :
    PE X (.Call (.Name x p) [] kws pos) (fun σ H Q => tk σ H fun zs H2 => zs.length = ks.length ∧ sp (gV [] zs) H2 Q E) := by
  refine ⟨fun pins s σ H Q I h => wpAny_Call_Name_kw (ld_glob I hg hm ?_ hdb)⟩
  refine PySem.W.callWith_KW0 (h₀ := X.base) I.ok.mod.kin hk hall ?_ hpl
  refine thn (hkw.run pos pins s σ H _ I h) fun ws s2 ⟨zs, H2, I2, rz, l2, q2⟩ => ⟨I2.kIn, ?_⟩
  rw [hks]
  exact run_fnN (us := []) (vs := []) F hr hb hx I2 .nil rz rfl l2 q2
end
/-! ### the law's own draws -/
section
variable {base : Heap} {K : PySem.W.Frag} {mg : Str → Option Value} {P : Program} {w : World}
def spPull : Sp := fun vs H Q _ => ∃ (b sb : Addr) (n : Int), vs = [.ref b, .int n] ∧ Bag H b sb ∧ 0 < n ∧ n.natAbs < 2 ^ 100 ∧ ∀ z H', 0 ≤ z → z < n → Bag H' b sb → Keep b H H' → Q (.int z) H'
theorem ok_pull (T : Txt K mg) : FnOk P w K mg base CX0 1 T.f_pull T.d_pull ["_law_bag", "_law_size"] spPull := by
  refine T.F_pull.ok sc_pull (fun vs H Q E h => ?_) (fun cdv A outer s H vs Q E hr h => ?_)
  · obtain ⟨b, sb, n, rfl, _⟩ := h
    rfl
  · obtain ⟨b, s1, n, rfl, ⟨ns, i, j, m, c, B⟩, h0, h1, q⟩ := h
    refine ⟨_, (pss_cons (ps_asg (pe_op op_add (pe_ix ix_list (pv 0) pe_int (fun _ _ => rfl)) pe_int) (pg_sub (pv 0) pe_int set_list))
      (Evl.pss_cut (ps_if (PW.pt (pw_and (pt_cmpR op_eq (pe_ix ix_list (pv 0) pe_int (fun _ _ => rfl)) pe_int (nomark _)) (pw_and1 (pt_cmpR op_lt (pe_ix ix_list (pv 0) pe_int (fun _ _ => rfl)) (pe_callB call_len_seq (by rfl) T.n_len (by decide +kernel) (pa_cons (pe_ix ix_list (pv 0) pe_int (fun _ _ => rfl)) pa_nil)) (nomark _))))) (pss_cons (ps_set (i := 3) sc_pull.nd rfl (Or.inl rfl) (pe_ix ix_list (pe_ix ix_list (pv 0) pe_int (fun _ _ => rfl)) (pe_ix ix_list (pv 0) pe_int (fun _ _ => rfl)) (fun _ _ => rfl)))
      (pss_cons (ps_asg (pe_op op_add (pe_ix ix_list (pv 0) pe_int (fun _ _ => rfl)) pe_int) (pg_sub (pv 0) pe_int set_list))
      (pss_one (ps_if (pt_cmpR op_ge (pv 3) (pe_op op_pow pe_int pe_int) (nomark _)) (pss_one (ps_asg (pv 3) (pg_sub (pv 0) pe_int set_list))) (pss_cons (ps_set (i := 2) sc_pull.nd rfl (Or.inl rfl) (pe_op op_add (pe_op op_mul (pe_ix ix_list (pv 0) pe_int (fun _ _ => rfl)) pe_int) (pe_op op_mul (pe_op op_mod (pv 3) pe_int) pe_int)))
      (pss_one (ps_asg (pe_op op_mod (pe_op op_add (pv 2) pe_int) pe_int) (pg_sub (pv 0) pe_int set_list)))))))) pss_nil)
      (pss_cons (ps_if (pt_cmpR op_gt (pe_ix ix_list (pv 0) pe_int (fun _ _ => rfl)) pe_int (nomark _)) (pss_cons (ps_set (i := 4) sc_pull.nd rfl (Or.inl rfl) (pe_op op_mod (pe_ix ix_list (pv 0) pe_int (fun _ _ => rfl)) (pv 1)))
      (pss_cons (ps_asg (pe_op op_fdivW (pe_ix ix_list (pv 0) pe_int (fun _ _ => rfl)) (pv 1)) (pg_sub (pv 0) pe_int set_list))
      (pss_one (ps_ret (pv 4))))) pss_nil)
      (pss_cons (ps_set (i := 2) sc_pull.nd rfl (Or.inl rfl) (pe_op op_add (pe_op op_mul (pe_op op_mul (pe_ix ix_list (pv 0) pe_int (fun _ _ => rfl)) (pe_ix ix_list (pv 0) pe_int (fun _ _ => rfl))) pe_int) (pe_op op_mul (pe_ix ix_list (pv 0) pe_int (fun _ _ => rfl)) pe_int)))
      (pss_cons (ps_asg (pe_op op_mod (pe_op op_add (pv 2) (pe_op op_mul pe_int (pe_ix ix_list (pv 0) pe_int (fun _ _ => rfl)))) pe_int) (pg_sub (pv 0) pe_int set_list))
      (pss_one (ps_ret (pe_op op_mod (pe_op op_fdiv (pe_ix ix_list (pv 0) pe_int (fun _ _ => rfl)) pe_int) (pv 1))))))))), ?_⟩
    -- the count of the draws
    have B1 := B.put (j' := j) (c' := c + 1) B.i0 B.i1 B.m0 B.m1
    refine ⟨.ref b, rfl, b, _, 4, .int c, rfl, rfl, SqL.of B.hb, atI_nat (j := 4) rfl, c, 1, rfl, rfl, .ref b, rfl, b, _, 4, 4, rfl, rfl, B.hb, rfl, ?_⟩
    refine ⟨fun σ H' => ∃ y2 y3 y4, σ = [some (.ref b), some (.int n), y2, y3, y4] ∧ Bag H' b s1 ∧ Keep b H H', ?_, ?_⟩
    · -- the next cell of the script
      refine ⟨.ref b, rfl, b, _, 2, .int j, rfl, rfl, SqL.of B1.hb, atI_nat (j := 2) rfl, rfl, _, rfl, ite2 (fun e => ?_) (fun e => ?_)⟩
      · refine ⟨.ref b, rfl, b, _, 1, .int i, rfl, rfl, SqL.of B1.hb, atI_nat (j := 1) rfl, .ref b, rfl, b, _, 0, .ref s1, rfl, rfl, SqL.of B1.hb, atI_nat (j := 0) rfl, s1, _, rfl, .inl (SqL.of B1.hs), i, _, rfl, rfl, _, rfl, ite2 (fun e2 => ?_) (fun e2 => ?_)⟩
        · have e3 : i < (ns.length : Int) := by
            have := of_decide_eq_true e2
            rw [List.length_map] at this
            exact this
          obtain ⟨z, hz⟩ := at_ex B.i0 e3
          have B2 := B1.put (j' := j) (c' := c + 1) (show 0 ≤ i + 1 by have := B.i0; omega) (show i + 1 ≤ (ns.length : Int) by omega) B.m0 B.m1
          refine ⟨.ref b, rfl, b, _, 0, .ref s1, rfl, rfl, SqL.of B1.hb, atI_nat (j := 0) rfl, .ref b, rfl, b, _, 1, .int i, rfl, rfl, SqL.of B1.hb, atI_nat (j := 1) rfl, s1, _, i, _, rfl, rfl, SqL.of B1.hs, hz, ?_⟩
          refine ⟨.ref b, rfl, b, _, 1, .int i, rfl, rfl, SqL.of B1.hb, atI_nat (j := 1) rfl, i, 1, rfl, rfl, .ref b, rfl, b, _, 1, 1, rfl, rfl, B1.hb, rfl, ?_⟩
          refine ⟨_, rfl, 10, 18, rfl, rfl, ⟨by decide, by decide, by decide⟩, z, _, rfl, rfl, _, rfl, ite2 (fun e4 => ?_) (fun e4 => ?_)⟩
          · have B3 := B2.put (j' := z) (c' := c + 1) (show 0 ≤ i + 1 by have := B.i0; omega) (show i + 1 ≤ (ns.length : Int) by omega) B.m0 B.m1
            refine ⟨_, rfl, .ref b, rfl, b, _, 2, 2, rfl, rfl, B2.hb, rfl, ?_⟩
            exact ⟨_, _, _, rfl, ⟨ns, _, _, _, _, B3⟩, keep_put.trans (keep_put.trans keep_put)⟩
          · refine ⟨.ref b, rfl, b, _, 3, .int m, rfl, rfl, SqL.of B2.hb, atI_nat (j := 3) rfl, m, 40014, rfl, rfl, .inr ⟨by decide, by decide⟩, _, rfl, z, 2147483399, rfl, rfl, (by show (0 : Int) < 2147483399; decide), _, 69069, rfl, rfl, .inr ⟨by decide, by decide⟩, _, _, rfl, rfl, ?_⟩
            refine ⟨_, rfl, _, 11, rfl, rfl, _, 2147483399, rfl, rfl, (by show (0 : Int) < 2147483399; decide), .ref b, rfl, b, _, 3, 3, rfl, rfl, B2.hb, rfl, ?_⟩
            have B3 := B2.put (j' := j) (m' := (m * 40014 + z % 2147483399 * 69069 + 11) % 2147483399) (c' := c + 1) (show 0 ≤ i + 1 by have := B.i0; omega) (show i + 1 ≤ (ns.length : Int) by omega) (by omega) (by omega)
            exact ⟨_, _, _, rfl, ⟨ns, _, _, _, _, B3⟩, keep_put.trans (keep_put.trans keep_put)⟩
        · exact ⟨_, _, _, rfl, ⟨ns, _, _, _, _, B1⟩, keep_put⟩
      · exact ⟨_, _, _, rfl, ⟨ns, _, _, _, _, B1⟩, keep_put⟩
    · rintro σ H' ⟨y2, y3, y4, rfl, ⟨ns2, i2, j2, m2, c2, B2⟩, k2⟩
      refine ⟨.ref b, rfl, b, _, 2, .int j2, rfl, rfl, SqL.of B2.hb, atI_nat (j := 2) rfl, j2, 0, rfl, rfl, _, rfl, ite2 (fun e => ?_) (fun e => ?_)⟩
      · have B3 := B2.put (j' := j2 / n) (c' := c2) B2.i0 B2.i1 B2.m0 B2.m1
        refine ⟨.ref b, rfl, b, _, 2, .int j2, rfl, rfl, SqL.of B2.hb, atI_nat (j := 2) rfl, .int n, rfl, j2, n, rfl, rfl, h0, ?_⟩
        refine ⟨.ref b, rfl, b, _, 2, .int j2, rfl, rfl, SqL.of B2.hb, atI_nat (j := 2) rfl, .int n, rfl, j2, n, rfl, rfl, wide_div h0 h1 (by decide) (by decide), .ref b, rfl, b, _, 2, 2, rfl, rfl, B2.hb, rfl, ?_⟩
        exact ⟨_, rfl, q _ _ (Int.emod_nonneg _ (by omega)) (Int.emod_lt_of_pos _ h0) ⟨ns2, _, _, _, _, B3⟩ (k2.trans keep_put)⟩
      · have hm : -(2 ^ 64) < m2 ∧ m2 < 2 ^ 64 := ⟨by have := B2.m0; omega, by have := B2.m1; omega⟩
        refine ⟨.ref b, rfl, b, _, 3, .int m2, rfl, rfl, SqL.of B2.hb, atI_nat (j := 3) rfl, .ref b, rfl, b, _, 3, .int m2, rfl, rfl, SqL.of B2.hb, atI_nat (j := 3) rfl, m2, m2, rfl, rfl, .inl hm, _, 7, rfl, rfl, .inr ⟨by decide, by decide⟩,
          .ref b, rfl, b, _, 3, .int m2, rfl, rfl, SqL.of B2.hb, atI_nat (j := 3) rfl, m2, 40692, rfl, rfl, .inr ⟨by decide, by decide⟩, _, _, rfl, rfl, ?_⟩
        refine ⟨_, rfl, .ref b, rfl, b, _, 4, .int c2, rfl, rfl, SqL.of B2.hb, atI_nat (j := 4) rfl, 1013904223, c2, rfl, rfl, .inl ⟨by decide, by decide⟩, _, _, rfl, rfl, _, 2147483399, rfl, rfl, (by show (0 : Int) < 2147483399; decide), .ref b, rfl, b, _, 3, 3, rfl, rfl, B2.hb, rfl, ?_⟩
        have B3 := B2.put (j' := j2) (m' := (m2 * m2 * 7 + m2 * 40692 + 1013904223 * c2) % 2147483399) (c' := c2) B2.i0 B2.i1 (Int.emod_nonneg _ (by decide)) (Int.emod_lt_of_pos _ (by decide))
        refine ⟨.ref b, rfl, b, _, 3, _, rfl, rfl, SqL.of B3.hb, atI_nat (j := 3) rfl, _, 37, rfl, rfl, ⟨by decide, by decide⟩, .int n, rfl, _, n, rfl, rfl, h0, ?_⟩
        exact q _ _ (Int.emod_nonneg _ (by omega)) (Int.emod_lt_of_pos _ h0) ⟨ns2, _, _, _, _, B3⟩ (k2.trans keep_put)
def spOf : Sp := fun vs H Q _ => ∃ (b sb l : Addr) (xs : List V), vs = [.ref b, .ref l] ∧ Bag H b sb ∧ H l = some (.lst xs) ∧ l ≠ b ∧ 0 < xs.length ∧ xs.length ≤ 1000 ∧ ∀ (i : Nat) (v : V) (H' : Hp), xs[i]? = some v → Bag H' b sb → Keep b H H' → Q v H'
theorem ok_of (T : Txt K mg) : FnOk P w K mg base CX0 2 T.f_of T.d_of ["_law_bag", "_law_some"] spOf := by
  refine T.F_of.ok sc_of (fun vs H Q E h => ?_) (fun cdv A outer s H vs Q E hr h => ?_)
  · obtain ⟨b, sb, l, xs, rfl, _⟩ := h
    rfl
  · obtain ⟨b, sb, l, xs, rfl, B, hl, nl, h0, h1, q⟩ := h
    refine ⟨_, (pss_one (ps_ret (pe_ix ix_list (pv 1) (pe_call (ok_pull T) (hr.mono (by decide)) (by rfl) T.g_pull T.F_pull.kp T.b_pull .nil pass0 (pa_cons (pv 0) (pa_cons (pe_callB call_len_seq (by rfl) T.n_len (by decide +kernel) (pa_cons (pv 1) pa_nil)) pa_nil))) (fun _ _ => rfl)))), ?_⟩
    have hn : ((xs.length : Int)).natAbs < 2 ^ 100 := Nat.lt_of_le_of_lt (show (xs.length : Int).natAbs ≤ 1000 by omega) (by decide)
    refine ⟨.ref l, rfl, .ref b, rfl, .ref l, rfl, l, xs, rfl, .inl (SqL.of hl), b, sb, _, rfl, B, (by show (0 : Int) < (xs.length : Int); omega), hn, fun z H' z0 z1 B' k' => ?_⟩
    obtain ⟨v, e1, e2⟩ := at_some z0 z1
    exact ⟨l, xs, z, v, rfl, rfl, k'.list nl hl, e2, q _ _ _ e1 B' k'⟩
end
section
variable {base : Heap} {K : PySem.W.Frag} {mg : Str → Option Value} {P : Program} {w : World}
def spANumber : Sp := fun vs H Q _ => ∃ b sb : Addr, vs = [.ref b] ∧ Bag H b sb ∧ ∀ x H', -(10 ^ 18) ≤ x → x ≤ 10 ^ 18 → Bag H' b sb → Keep b H H' → Q (.int x) H'
theorem ok_a_number (T : Txt K mg) : FnOk P w K mg base CX0 3 T.f_a_number T.d_a_number ["_law_bag"] spANumber := by
  refine T.F_a_number.ok sc_a_number (fun vs H Q E h => ?_) (fun cdv A outer s H vs Q E hr h => ?_)
  · obtain ⟨b, sb, rfl, _⟩ := h
    rfl
  · obtain ⟨b, sb, rfl, B, q⟩ := h
    refine ⟨_, (pss_cons (ps_set (i := 1) sc_a_number.nd rfl (Or.inl rfl) (pe_call (ok_of T) (hr.mono (by decide)) (by rfl) T.g_of T.F_of.kp T.b_of .nil pass0 (pa_cons (pv 0) (pa_cons (pe_lst (pa_cons pe_int (pa_cons pe_int (pa_cons pe_int (pa_cons pe_int (pa_cons pe_int (pa_cons (pe_op op_pow pe_int pe_int) (pa_cons (pe_op op_pow pe_int pe_int) pa_nil)))))))) pa_nil))))
      (pss_one (ps_ret (pe_op op_sub (pe_call (ok_pull T) (hr.mono (by decide)) (by rfl) T.g_pull T.F_pull.kp T.b_pull .nil pass0 (pa_cons (pv 0) (pa_cons (pe_op op_add (pe_op op_mul pe_int (pv 1)) pe_int) pa_nil))) (pv 1))))), ?_⟩
    refine ⟨.ref b, rfl, 10, 9, rfl, rfl, ⟨by decide, by decide, by decide⟩, 10, 18, rfl, rfl, ⟨by decide, by decide, by decide⟩, (by show 7 ≤ sizeLine; decide), fun l hl => ?_⟩
    refine ⟨b, sb, l, _, rfl, B.new hl, upd_same, B.ne hl, by decide, by decide, fun i v H1 hv B1 k1 => ?_⟩
    obtain ⟨n, rfl, n0, n1⟩ : ∃ n : Int, v = .int n ∧ 1 ≤ n ∧ n ≤ 10 ^ 18 := by
      match i, hv with
      | 0, hv => cases hv; exact ⟨3, rfl, by decide, by decide⟩
      | 1, hv => cases hv; exact ⟨7, rfl, by decide, by decide⟩
      | 2, hv => cases hv; exact ⟨13, rfl, by decide, by decide⟩
      | 3, hv => cases hv; exact ⟨60, rfl, by decide, by decide⟩
      | 4, hv => cases hv; exact ⟨1000, rfl, by decide, by decide⟩
      | 5, hv => cases hv; exact ⟨10 ^ 9, rfl, by decide, by decide⟩
      | 6, hv => cases hv; exact ⟨10 ^ 18, rfl, by decide, by decide⟩
      | n + 7, hv => simp at hv
    have hn : (2 * n + 1).natAbs < 2 ^ 100 := Nat.lt_of_le_of_lt (show (2 * n + 1).natAbs ≤ 2000000000000000001 by omega) (by decide)
    refine ⟨.ref b, rfl, _, rfl, 2, n, rfl, rfl, .inl ⟨by decide, by decide⟩, _, 1, rfl, rfl, b, sb, _, rfl, B1, (show (0 : Int) < 2 * n + 1 by omega), hn, fun z H2 z0 z1 B2 k2 => ?_⟩
    exact ⟨_, rfl, z, n, rfl, rfl, q _ _ (by omega) (by omega) B2 ((keep_new hl).trans (k1.trans k2))⟩
end
section
variable {base : Heap} {K : PySem.W.Frag} {mg : Str → Option Value} {P : Program} {w : World}
def spSource (K : PySem.W.Frag) : Sp := fun vs H Q _ => ∃ (a : Addr) (ns : List Int), vs = [.ref a] ∧ SqL K H a (ns.map V.int) ∧ ns.length ≤ 63 ∧ ∀ b sb H', H b = none → Same H H' → Bag H' b sb → Q (.ref b) H'
theorem ok_source (T : Txt K mg) : FnOk P w K mg base CX0 1 T.f_source T.d_source ["_law_script"] (spSource K) := by
  refine T.F_source.ok sc_source (fun vs H Q E h => ?_) (fun cdv A outer s H vs Q E hr h => ?_)
  · obtain ⟨a, ns, rfl, _⟩ := h
    rfl
  · obtain ⟨a, ns, rfl, hS, hlen, q⟩ := h
    refine ⟨_, (pss_cons (ps_set (i := 1) sc_source.nd rfl (Or.inl rfl) pe_int)
      (pss_cons (ps_for PassesOwn.never rfl (pi_list (pe_slice sl_list (pv 0) po_none (po_some pe_int))) (pg_name (i := 2) sc_source.nd rfl (Or.inl rfl)) (pss_one (ps_set (i := 1) sc_source.nd rfl (Or.inl rfl) (pe_op op_mod (pe_op op_add (pe_op op_add (pe_op op_mul (pv 1) pe_int) (pe_op op_mod (pv 2) pe_int)) pe_int) pe_int))))
      (pss_one (ps_ret (pe_lst (pa_cons (pe_callTy call_list_of (by rfl) T.n_list (by decide +kernel) (pa_cons (pe_slice sl_list (pv 0) po_none (po_some pe_int)) pa_nil)) (pa_cons pe_int (pa_cons pe_int (pa_cons (pv 1) (pa_cons pe_int pa_nil)))))))))), ?_⟩
    have hcut : cutV (ns.map V.int) none (some 63) = ns.map V.int := by
      unfold cutV
      rw [HT.sIx_none, show HT.sIx (ns.map V.int).length (ns.map V.int).length (some 63) = min 63 (ns.map V.int).length from HT.sIx_nat _ _ 63]
      rw [List.drop_zero, List.length_map, Nat.sub_zero, Nat.min_eq_right hlen]
      exact List.take_of_length_le (by rw [List.length_map]; exact Nat.le_refl _)
    refine ⟨.ref a, rfl, 63, rfl, a, _, rfl, hS, fun p hp => ?_⟩
    rw [hcut]
    refine ⟨p, rfl, ⟨_, SqL.of upd_same⟩, for_list (K := K) (a := p) (xs := ns.map V.int) (fun i σ H2 => ∃ (m : Int) (y : Option V), σ = [some (.ref a), some (.int m), y] ∧ 0 ≤ m ∧ m < 2147483399 ∧ H2 = upd H p (.lst (ns.map V.int)))
      ⟨3812, none, rfl, by decide, by decide, rfl⟩ (fun i σ H2 _ ⟨_, _, _, _, _, e⟩ => by rw [e]; exact SqL.of upd_same) ?_ ?_⟩
    · rintro i x σ H2 hx ⟨m, y, rfl, m0, m1, rfl⟩
      obtain ⟨z, rfl⟩ : ∃ z, x = V.int z := by
        rw [List.getElem?_map] at hx
        cases e : ns[i]? with
        | none =>
          rw [e] at hx
          cases hx
        | some z =>
          rw [e] at hx
          exact ⟨z, (Option.some.inj hx).symm⟩
      refine ⟨_, rfl, m, 40692, rfl, rfl, .inr ⟨by decide, by decide⟩, _, rfl, z, 2147483399, rfl, rfl, (by show (0 : Int) < 2147483399; decide), _, _, rfl, rfl, _, 17, rfl, rfl, _, 2147483399, rfl, rfl, (by show (0 : Int) < 2147483399; decide), ?_⟩
      exact ⟨_, _, rfl, Int.emod_nonneg _ (by decide), Int.emod_lt_of_pos _ (by decide), rfl⟩
    · rintro σ H2 ⟨m, y, rfl, m0, m1, rfl⟩
      have hS2 : SqL K (upd H p (.lst (ns.map V.int))) a (ns.map V.int) := (same_new hp).seq hS
      refine ⟨.ref a, rfl, 63, rfl, a, _, rfl, hS2, fun p2 hp2 => ?_⟩
      rw [hcut]
      refine ⟨p2, _, rfl, .inl (SqL.of upd_same), fun l hl => ?_⟩
      refine ⟨_, rfl, (by show 5 ≤ sizeLine; decide), fun b hb => ?_⟩
      have sm : Same H (upd (upd (upd (upd H p (.lst (ns.map V.int))) p2 (.lst (ns.map V.int))) l (.lst (ns.map V.int))) b (.lst [.ref l, .int 0, .int 0, .int m, .int 0])) := (same_new hp).trans ((same_new hp2).trans ((same_new hl).trans (same_new hb)))
      exact q b l _ (((same_new hp).trans ((same_new hp2).trans (same_new hl))).free hb) sm ⟨ns, 0, 0, m, 0, upd_same, same_new hb _ _ upd_same, Int.le_refl _, by omega, m0, m1⟩
end
/-! ### calls of a def with a star parameter -/
section
variable {X : Cx}
theorem pe_callR {CX : CXT} {k : Nat} {f : Addr} {sp : Sp} {E : XK} {x : Str} {p pos : Pos} {e : Expr} {es : List Expr} {t : TA}
    (F : FnR X.prog X.w X.K X.mg X.base CX k f sp) (hr : Room k X.A) (hg : Gl X x) (hm : X.mg x = some (.ref f)) (hk : PySem.W.keepIn X.K (.ref f) = true) (hx : Passes CX X E) (ha : PA X (e :: es) t)
    (hdb : (x == ("__debug__" : Str)) = false := by decide) (he : starEach (e :: es) X.env = (false, eval e X.env) :: starEach es X.env := by rfl)
    (hpl : (backTo pos (starEach es X.env)).any (·.1) = false := by rfl) :
    PE X (.Call (.Name x p) (e :: es) [] pos) (fun σ H Q => t σ H fun vs H1 => sp vs H1 Q E) :=
  ⟨fun pins s σ H Q I h => wpAny_Call_Name_kw (ld_glob I hg hm (PySem.W.callWith_K (h₀ := X.base) I.ok.mod.kin hk
    (thn (ha.run pos pins s σ H _ I h) fun us s1 ⟨vs, H1, I1, r, q⟩ => ⟨I1.kIn, wpAny_call (run_fnR F hr hx I1 r q)⟩) he hpl) hdb)⟩
theorem pe_callR0 {CX : CXT} {k : Nat} {f : Addr} {sp : Sp} {E : XK} {x : Str} {p pos : Pos}
    (F : FnR X.prog X.w X.K X.mg X.base CX k f sp) (hr : Room k X.A) (hg : Gl X x) (hm : X.mg x = some (.ref f)) (hk : PySem.W.keepIn X.K (.ref f) = true) (hx : Passes CX X E)
    (hdb : (x == ("__debug__" : Str)) = false := by decide) : PE X (.Call (.Name x p) [] [] pos) (fun _ H Q => sp [] H Q E) :=
  ⟨fun pins s σ H Q I h => wpAny_Call_Name_kw (ld_glob I hg hm (PySem.W.callWith_K0 I.kIn hk (wpAny_call (run_fnR (us := []) F hr hx I .nil h))) hdb)⟩
end
/-! ### lists of ints that comprehensions make -/
def Pt (H : Hp) (D : Addr) (ns : List Int) (i : Nat) (H' : Hp) : Prop := Same H H' ∧ H' D = some (.lst ((ns.take i).map V.int))
theorem pt_step {H H' : Hp} {D : Addr} {ns : List Int} {i : Nat} {z : Int} (h : Pt H D ns i H') (hD : H D = none) (hz : ns[i]? = some z) : Pt H D ns (i + 1) (upd H' D (.lst ((ns.take i).map V.int ++ [.int z]))) := by
  refine ⟨fun a o e => (upd_ne (ne_of_none e hD)).trans (h.1 a o e), ?_⟩
  rw [upd_same, List.take_add_one, hz, List.map_append]
  rfl
theorem pt_size {ns : List Int} {i : Nat} (h : ns.length ≤ 1000) : ((ns.take i).map V.int).length < sizeLine := by
  rw [List.length_map, List.length_take]
  exact small1000 (by omega)
theorem pt_end {H H' : Hp} {D : Addr} {ns : List Int} {i : Nat} (h : Pt H D ns i H') (hi : ns.length ≤ i) : Same H H' ∧ H' D = some (.lst (ns.map V.int)) := by
  have := h.2
  rw [List.take_of_length_le hi] at this
  exact ⟨h.1, this⟩
/-! ### pairs -/
def PairAt (K : PySem.W.Frag) (H : Hp) (v : V) (x y : Int) : Prop := ∃ t : Addr, v = .ref t ∧ SqT K H t [.int x, .int y]
theorem PairAt.same {K : PySem.W.Frag} {H H' : Hp} {v : V} {x y : Int} (h : PairAt K H v x y) (s : Same H H') : PairAt K H' v x y := by
  obtain ⟨t, e, h⟩ := h
  exact ⟨t, e, Evl.ex_t (show Evl.Ex H H' from s) h⟩
inductive PairsAt (K : PySem.W.Frag) (H : Hp) : List V → List (Int × Int) → Prop
  | nil : PairsAt K H [] []
  | cons {v : V} {vs : List V} {x y : Int} {ps : List (Int × Int)} : PairAt K H v x y → PairsAt K H vs ps → PairsAt K H (v :: vs) ((x, y) :: ps)
theorem PairsAt.get {K : PySem.W.Frag} {H : Hp} : ∀ {vs : List V} {ps : List (Int × Int)}, PairsAt K H vs ps → ∀ {i : Nat} {v : V}, vs[i]? = some v → ∃ x y, ps[i]? = some (x, y) ∧ PairAt K H v x y := by
  intro vs ps h
  induction h with
  | nil =>
    intro i v h
    simp at h
  | cons p t ih =>
    intro i v h
    cases i with
    | zero =>
      cases h
      exact ⟨_, _, rfl, p⟩
    | succ i => exact ih (i := i) (by simpa using h)
theorem PairsAt.same {K : PySem.W.Frag} {H H' : Hp} (s : Same H H') : ∀ {vs : List V} {ps : List (Int × Int)}, PairsAt K H vs ps → PairsAt K H' vs ps := by
  intro vs ps h
  induction h with
  | nil => exact .nil
  | cons p t ih => exact .cons (p.same s) ih
theorem PairsAt.len {K : PySem.W.Frag} {H : Hp} : ∀ {vs : List V} {ps : List (Int × Int)}, PairsAt K H vs ps → vs.length = ps.length
  | _, _, .nil => rfl
  | _, _, .cons p t => congrArg Nat.succ t.len
def s1 (ps : List (Int × Int)) : Int := (ps.map (·.1)).sum
def s2 (ps : List (Int × Int)) : Int := (ps.map (·.2)).sum
/-- a new pair -/
def NewPair (H : Hp) (x y : Int) (Q : VK) : Prop := ∀ p H', H p = none → Same H H' → H' p = some (.tup [.int x, .int y]) → Q (.ref p) H'
/-! ### added -/
section
variable {base : Heap} {K : PySem.W.Frag} {mg : Str → Option Value} {P : Program} {w : World}
def spAdded (K : PySem.W.Frag) : Sp := fun vs H Q _ => ∃ ps : List (Int × Int), PairsAt K H vs ps ∧ ps.length ≤ 1000 ∧ NewPair H (s1 ps) (s2 ps) Q
def spAddedB (K : PySem.W.Frag) : Sp := fun vs H Q _ => ∃ (t : Addr) (xs : List V) (ps : List (Int × Int)), vs = [.ref t] ∧ H t = some (.tup xs) ∧ PairsAt K H xs ps ∧ ps.length ≤ 1000 ∧ NewPair H (s1 ps) (s2 ps) Q
theorem ok_added (T : Txt K mg) : FnR P w K mg base CX0 1 T.f_added (spAdded K) := by
  obtain ⟨o1, o2, v1, v2, v3, a1, v4, v5, sl1, e1, r1, r2⟩ := T.F_added.ex
  have r1' := r1
  rw [e1] at r1'
  refine FnR.imp (StX.fn_star (ps := []) (pv := "pairs") (sp := spAddedB K) (N := ["pairs", "a", "b"]) r1' r2 sc_added StX.cxUp_none ?_ ?_) ?_
  · intro us rest hu
    match us, rest, hu with
    | [], [], _ => rfl
    | [], _ :: _, _ => rfl
  · intro A outer s H vs Q E hr h
    obtain ⟨t, xs, ps, rfl, ht, hp, hn, q⟩ := h
    refine ⟨_, PSs.nox (pss_one (ps_ret (pe_tup (pa_cons (pe_callB (cr_sum rfl) (by rfl) T.n_sum (by decide +kernel) (pa_cons (pe_lc (own := [("a", 1), ("b", 2)]) (g := (gTup K 2 (gCons (gName 1) (gCons (gName 2) gNil)))) (tt := tYes) (by rfl) sc_added.nd (pi_tup (pv 0)) (blkOk_by (own := [("a", 1), ("b", 2)]) (N := ["pairs", "a", "b"]) (sc := defScope s_added) (by decide +kernel)) (fun _ _ _ _ _ => (pg_tup (by rfl) (pgs_cons (pg_name (i := 1) sc_added.nd rfl (Or.inl rfl)) (pgs_cons (pg_name (i := 2) sc_added.nd rfl (Or.inl rfl)) pgs_nil)))) (fun _ _ _ _ _ => pts_nil) (fun _ _ _ _ _ => (pv 1))) pa_nil)) (pa_cons (pe_callB (cr_sum rfl) (by rfl) T.n_sum (by decide +kernel) (pa_cons (pe_lc (own := [("a", 1), ("b", 2)]) (g := (gTup K 2 (gCons (gName 1) (gCons (gName 2) gNil)))) (tt := tYes) (by rfl) sc_added.nd (pi_tup (pv 0)) (blkOk_by (own := [("a", 1), ("b", 2)]) (N := ["pairs", "a", "b"]) (sc := defScope s_added) (by decide +kernel)) (fun _ _ _ _ _ => (pg_tup (by rfl) (pgs_cons (pg_name (i := 1) sc_added.nd rfl (Or.inl rfl)) (pgs_cons (pg_name (i := 2) sc_added.nd rfl (Or.inl rfl)) pgs_nil)))) (fun _ _ _ _ _ => pts_nil) (fun _ _ _ _ _ => (pv 2))) pa_nil)) pa_nil))))), ?_⟩
    have hl := hp.len
    refine ⟨_, rfl, t, rfl, ⟨_, SqT.of ht⟩, fun D hD => lc_tup (K := K) (a := t) (xs := xs) (Pt H D (ps.map (·.1))) ⟨same_new hD, upd_same⟩ (fun i H' _ h => SqT.of (h.1 _ _ ht)) (fun i x H' hx hP => ?_) (fun H1 hP => ?_)⟩
    · obtain ⟨c, e, hc, u, rfl, hu⟩ := hp.get hx
      refine ⟨u, _, rfl, Evl.ex_t (show Evl.Ex H H' from hP.1) hu, rfl, .int c, [.int e], rfl, .int e, [], rfl, rfl, rfl, ⟨_, rfl, _, hP.2, pt_size (by rw [List.length_map]; exact hn), pt_step hP hD ?_⟩⟩
      rw [List.getElem?_map, hc]
      rfl
    obtain ⟨e1, f1⟩ := pt_end hP (by rw [List.length_map]; omega)
    refine ⟨D, _, rfl, SqL.of f1, ?_⟩
    refine ⟨_, rfl, t, rfl, ⟨_, SqT.of (e1 _ _ ht)⟩, fun D2 hD2 => lc_tup (K := K) (a := t) (xs := xs) (Pt H1 D2 (ps.map (·.2))) ⟨same_new hD2, upd_same⟩ (fun i H' _ h => SqT.of (h.1 _ _ (e1 _ _ ht))) (fun i x H' hx hP => ?_) (fun H2 hP => ?_)⟩
    · obtain ⟨c, e, hc, u, rfl, hu⟩ := hp.get hx
      refine ⟨u, _, rfl, Evl.ex_t (show Evl.Ex H H' from e1.trans hP.1) hu, rfl, .int c, [.int e], rfl, .int e, [], rfl, rfl, rfl, ⟨_, rfl, _, hP.2, pt_size (by rw [List.length_map]; exact hn), pt_step hP hD2 ?_⟩⟩
      rw [List.getElem?_map, hc]
      rfl
    obtain ⟨e2, f2⟩ := pt_end hP (by rw [List.length_map]; omega)
    exact ⟨D2, _, rfl, SqL.of f2, by show 2 ≤ sizeLine; decide, fun p hp => q p _ ((e1.trans e2).free hp) ((e1.trans e2).trans (same_new hp)) upd_same⟩
  · rintro vs H Q E ⟨ps, hp, hl, q⟩
    refine ⟨[], vs, rfl, rfl, Nat.le_of_lt (small1000 (by rw [hp.len]; exact hl)), fun p hpn => ⟨p, vs, ps, rfl, upd_same, hp.same (same_new hpn), hl, fun p' H' hp' sm h' => ?_⟩⟩
    exact q p' H' ((same_new hpn).free hp') ((same_new hpn).trans sm) h'
end
/-! ### scaled -/
section
variable {base : Heap} {K : PySem.W.Frag} {mg : Str → Option Value} {P : Program} {w : World}
def spScaled (K : PySem.W.Frag) : Sp := fun vs H Q _ => ∃ (v : V) (x y n : Int), vs = [v, .int n] ∧ PairAt K H v x y ∧ x.natAbs < 2 ^ 9000 ∧ y.natAbs < 2 ^ 9000 ∧ n.natAbs < 2 ^ 9000 ∧ NewPair H (x * n) (y * n) Q
theorem ok_scaled (T : Txt K mg) : FnOk P w K mg base CX0 1 T.f_scaled T.d_scaled ["pair", "number"] (spScaled K) := by
  refine T.F_scaled.ok sc_scaled (fun vs H Q E h => ?_) (fun cdv A outer s H vs Q E hr h => ?_)
  · obtain ⟨v, x, y, n, rfl, _⟩ := h
    rfl
  · obtain ⟨v, x, y, n, rfl, ⟨t, rfl, ht⟩, x1, y1, n1, q⟩ := h
    refine ⟨_, (pss_cons (ps_asg (pv 0) (pg_tup (by rfl) (pgs_cons (pg_name (i := 2) sc_scaled.nd rfl (Or.inl rfl)) (pgs_cons (pg_name (i := 3) sc_scaled.nd rfl (Or.inl rfl)) pgs_nil))))
      (pss_one (ps_ret (pe_tup (pa_cons (pe_op op_mulW (pv 2) (pv 1)) (pa_cons (pe_op op_mulW (pv 3) (pv 1)) pa_nil)))))), ?_⟩
    refine ⟨_, rfl, t, _, rfl, ht, rfl, .int x, [.int y], rfl, .int y, [], rfl, rfl, ?_⟩
    exact ⟨_, rfl, _, rfl, x, n, rfl, rfl, wide_mul x1 n1 (by decide) (by decide) (by decide), _, rfl, _, rfl, y, n, rfl, rfl, wide_mul y1 n1 (by decide) (by decide) (by decide), by show 2 ≤ sizeLine; decide, fun p hp => q p _ hp (same_new hp) upd_same⟩
end
/-! ### tables -/
/-- two pairs, as they are handed in -/
def CellsK (K : PySem.W.Frag) (H : Hp) (r : V) (a b c e : Int) : Prop := ∃ t u v : Addr, r = .ref t ∧ SqT K H t [.ref u, .ref v] ∧ SqT K H u [.int a, .int b] ∧ SqT K H v [.int c, .int e]
/-- two pairs that the program has made -/
def CellsAt (H : Hp) (t : Addr) (a b c e : Int) : Prop := ∃ u v : Addr, H t = some (.tup [.ref u, .ref v]) ∧ H u = some (.tup [.int a, .int b]) ∧ H v = some (.tup [.int c, .int e])
def TabAt (C : Addr) (H : Hp) (p : Addr) (a b c e : Int) : Prop := ∃ dx t : Addr, H p = some (.ins C dx [("cells", .ref t)]) ∧ CellsAt H t a b c e
theorem CellsAt.same {H H' : Hp} {t : Addr} {a b c e : Int} (h : CellsAt H t a b c e) (s : Same H H') : CellsAt H' t a b c e := by
  obtain ⟨u, v, h1, h2, h3⟩ := h
  exact ⟨u, v, s _ _ h1, s _ _ h2, s _ _ h3⟩
theorem CellsAt.k {K : PySem.W.Frag} {H : Hp} {t : Addr} {a b c e : Int} (h : CellsAt H t a b c e) : CellsK K H (.ref t) a b c e := by
  obtain ⟨u, v, h1, h2, h3⟩ := h
  exact ⟨t, u, v, rfl, SqT.of h1, SqT.of h2, SqT.of h3⟩
theorem TabAt.same {C : Addr} {H H' : Hp} {p : Addr} {a b c e : Int} (h : TabAt C H p a b c e) (s : Same H H') : TabAt C H' p a b c e := by
  obtain ⟨dx, t, h1, h2⟩ := h
  exact ⟨dx, t, s _ _ h1, h2.same s⟩
theorem CellsAt.keep {H H' : Hp} {bg sb t : Addr} {a b c e : Int} (h : CellsAt H t a b c e) (B : Bag H bg sb) (k : Keep bg H H') : CellsAt H' t a b c e := by
  obtain ⟨u, v, h1, h2, h3⟩ := h
  exact ⟨u, v, k _ _ (B.tup h1) h1, k _ _ (B.tup h2) h2, k _ _ (B.tup h3) h3⟩
theorem TabAt.keep {C : Addr} {H H' : Hp} {bg sb p : Addr} {a b c e : Int} (h : TabAt C H p a b c e) (B : Bag H bg sb) (k : Keep bg H H') : TabAt C H' p a b c e := by
  obtain ⟨dx, t, h1, h2⟩ := h
  refine ⟨dx, t, k _ _ ?_ h1, h2.keep B k⟩
  obtain ⟨ns, i, j, m, c', B⟩ := B
  exact ne_of h1 B.hb (by intro z; cases z)
section
variable {base : Heap} {K : PySem.W.Frag} {mg : Str → Option Value} {P : Program} {w : World}
def spTInit (K : PySem.W.Frag) (C : Addr) : Sp := fun vs H Q _ => ∃ (p dx : Addr) (r : V) (a b c e : Int), vs = [.ref p, r] ∧ H p = some (.ins C dx []) ∧ CellsK K H r a b c e ∧ ∀ H', TabAt C H' p a b c e → (∀ q o, H q = some o → q ≠ p → H' q = some o) → Q .non H'
theorem ok_Table_init (T : Txt K mg) : FnOk P w K mg base CX0 1 T.f_Table_init T.d_Table_init ["self", "rows"] (spTInit K T.C_Table) := by
  refine T.F_Table_init.ok sc_Table_init (fun vs H Q E h => ?_) (fun cdv A outer s H vs Q E hr h => ?_)
  · obtain ⟨p, dx, r, a, b, c, e, rfl, _⟩ := h
    rfl
  · obtain ⟨p, dx, r, a, b, c, e, rfl, hp, ⟨t, u, v, rfl, ht, hu, hv⟩, q⟩ := h
    refine ⟨_, PSs.nox (pss_cons (ps_asg (pv 1) (pg_tup (by rfl) (pgs_cons (pg_tup (by rfl) (pgs_cons (pg_name (i := 2) sc_Table_init.nd rfl (Or.inl rfl)) (pgs_cons (pg_name (i := 3) sc_Table_init.nd rfl (Or.inl rfl)) pgs_nil))) (pgs_cons (pg_tup (by rfl) (pgs_cons (pg_name (i := 4) sc_Table_init.nd rfl (Or.inl rfl)) (pgs_cons (pg_name (i := 5) sc_Table_init.nd rfl (Or.inl rfl)) pgs_nil))) pgs_nil))))
      (pss_one (ps_fld (pv 0) (pe_tup (pa_cons (pe_tup (pa_cons (pv 2) (pa_cons (pv 3) pa_nil))) (pa_cons (pe_tup (pa_cons (pv 4) (pa_cons (pv 5) pa_nil))) pa_nil))) rfl))), ?_⟩
    refine ⟨_, rfl, t, _, rfl, ht, rfl, .ref u, _, rfl, u, _, rfl, hu, rfl, .int a, _, rfl, .int b, _, rfl, rfl, .ref v, _, rfl, v, _, rfl, hv, rfl, .int c, _, rfl, .int e, _, rfl, rfl, rfl, ?_⟩
    refine ⟨_, rfl, _, rfl, by show 2 ≤ sizeLine; decide, fun u1 n1 => ⟨_, rfl, _, rfl, by show 2 ≤ sizeLine; decide, fun v1 n2 => ⟨by show 2 ≤ sizeLine; decide, fun t1 n3 => ?_⟩⟩⟩
    have e1 := same_new (o := .tup [.int a, .int b]) n1
    have e2 := same_new (o := .tup [.int c, .int e]) n2
    have e3 := same_new (o := .tup [.ref u1, .ref v1]) n3
    have ee := e1.trans (e2.trans e3)
    refine ⟨_, rfl, p, T.C_Table, dx, [], rfl, ee _ _ hp, T.cl_Table, T.n_Table_cells, (by show 0 < 1000; decide), ?_⟩
    have np1 : u1 ≠ p := (ne_of_none hp n1).symm
    have np2 : v1 ≠ p := (ne_of_none (e1 _ _ hp) n2).symm
    have np3 : t1 ≠ p := (ne_of_none ((e1.trans e2) _ _ hp) n3).symm
    refine q _ ⟨dx, t1, upd_same, u1, v1, (upd_ne np3).trans upd_same, (upd_ne np1).trans ((e2.trans e3) _ _ upd_same), (upd_ne np2).trans (e3 _ _ upd_same)⟩ fun q1 o h1 h2 => (upd_ne h2).trans (ee _ _ h1)
theorem mk_tab {C : Addr} {H : Hp} {r : V} {a b c e : Int} {R : Addr → Hp → Prop} {E : XK} (hr : CellsK K H r a b c e) (q : ∀ x H', H x = none → Same H H' → TabAt C H' x a b c e → R x H') :
    ∀ x dx, H x = none → H dx = none → dx ≠ x → spTInit K C [.ref x, r] (upd (upd H dx (.own x)) x (.ins C dx [])) (fun v H2 => v = .non ∧ R x H2) E := by
  intro x dx nx nd ne
  have s1 : Same H (upd (upd H dx (.own x)) x (.ins C dx [])) := fun b o z => by
    rw [upd_ne (ne_of_none z nx), upd_ne (ne_of_none z nd)]
    exact z
  obtain ⟨t, u, v, rfl, h1, h2, h3⟩ := hr
  exact ⟨x, dx, _, a, b, c, e, rfl, upd_same, ⟨t, u, v, rfl, Evl.ex_t s1 h1, Evl.ex_t s1 h2, Evl.ex_t s1 h3⟩, fun H' hT hk => ⟨rfl, q x H' nx (fun p o z => hk p o (s1 p o z) (ne_of_none z nx)) hT⟩⟩
def spRows (C : Addr) : Sp := fun vs H Q _ => ∃ (p : Addr) (a b c e : Int), vs = [.ref p] ∧ TabAt C H p a b c e ∧ ∀ t, CellsAt H t a b c e → Q (.ref t) H
theorem ok_Table_rows (T : Txt K mg) : FnOk P w K mg base CX0 1 T.f_Table_rows T.d_Table_rows ["self"] (spRows T.C_Table) := by
  refine T.F_Table_rows.ok sc_Table_rows (fun vs H Q E h => ?_) (fun cdv A outer s H vs Q E hr h => ?_)
  · obtain ⟨p, a, b, c, e, rfl, _⟩ := h
    rfl
  · obtain ⟨p, a, b, c, e, rfl, ⟨dx, t, hp, ht⟩, q⟩ := h
    exact ⟨_, (pss_one (ps_ret (pe_fld (pv 0) rfl))), _, rfl, p, T.C_Table, dx, _, _, rfl, hp, T.cl_Table, T.n_Table_cells, rfl, q t ht⟩
end
/-! ### bounds -/
def Bd (n : Nat) (xs : List Int) : Prop := ∀ x ∈ xs, x.natAbs < 2 ^ n
theorem bd_w {n m : Nat} {x : Int} (h : x.natAbs < 2 ^ n) (l : n ≤ m) : x.natAbs < 2 ^ m := Nat.lt_of_lt_of_le h (Nat.pow_le_pow_right (by decide) l)
theorem bd_a {n : Nat} {x y : Int} (h1 : x.natAbs < 2 ^ n) (h2 : y.natAbs < 2 ^ n) : (x + y).natAbs < 2 ^ (n + 1) := by
  rw [Nat.pow_succ]
  omega
def NewTab (C : Addr) (H : Hp) (a b c e : Int) (Q : VK) : Prop := ∀ x H', H x = none → Same H H' → TabAt C H' x a b c e → Q (.ref x) H'
/-! ### the signs of tables -/
theorem eqv4 (a b c e a' b' c' e' : Int) : PyData.eqv (.tuple [.tuple [.int a, .int b], .tuple [.int c, .int e]]) (.tuple [.tuple [.int a', .int b'], .tuple [.int c', .int e']]) = decide (a = a' ∧ b = b' ∧ c = c' ∧ e = e') := by
  simp [PyData.eqv, PyData.eqvAll]
  first | rfl | (by_cases h1 : a = a' <;> by_cases h2 : b = b' <;> by_cases h3 : c = c' <;> by_cases h4 : e = e' <;> simp [h1, h2, h3, h4])
theorem CellsAt.dp {K : PySem.W.Frag} {H : Hp} {t : Addr} {a b c e : Int} (h : CellsAt H t a b c e) : Dp K H (.ref t) (.tuple [.tuple [.int a, .int b], .tuple [.int c, .int e]]) := by
  obtain ⟨u, v, h1, h2, h3⟩ := h
  exact .tup (SqT.of h1) (.cons (.tup (SqT.of h2) (.cons (.int a) (.cons (.int b) .nil))) (.cons (.tup (SqT.of h3) (.cons (.int c) (.cons (.int e) .nil))) .nil))
section
variable {base : Heap} {K : PySem.W.Frag} {mg : Str → Option Value} {P : Program} {w : World}
def spAdd (C : Addr) : Sp := fun vs H Q _ => ∃ (p q : Addr) (a b c e a' b' c' e' : Int), vs = [.ref p, .ref q] ∧ TabAt C H p a b c e ∧ TabAt C H q a' b' c' e' ∧ NewTab C H (a + a') (b + b') (c + c') (e + e') Q
theorem ok_Table_add (T : Txt K mg) : FnOk P w K mg base CX0 3 T.f_Table_add T.d_Table_add ["self", "other"] (spAdd T.C_Table) := by
  refine T.F_Table_add.ok sc_Table_add (fun vs H Q E h => ?_) (fun cdv A outer s H vs Q E hr h => ?_)
  · obtain ⟨p, q, a, b, c, e, a', b', c', e', rfl, _⟩ := h
    rfl
  · obtain ⟨p, q, a, b, c, e, a', b', c', e', rfl, ⟨dx, t, hp, u, v, ht, hu, hv⟩, ⟨dy, t', hq, u', v', ht', hu', hv'⟩, k⟩ := h
    refine ⟨_, (pss_cons (ps_asg (pe_fld (pv 0) rfl) (pg_tup (by rfl) (pgs_cons (pg_name (i := 2) sc_Table_add.nd rfl (Or.inl rfl)) (pgs_cons (pg_name (i := 3) sc_Table_add.nd rfl (Or.inl rfl)) pgs_nil))))
      (pss_cons (ps_asg (pe_fld (pv 1) rfl) (pg_tup (by rfl) (pgs_cons (pg_name (i := 4) sc_Table_add.nd rfl (Or.inl rfl)) (pgs_cons (pg_name (i := 5) sc_Table_add.nd rfl (Or.inl rfl)) pgs_nil))))
      (pss_one (ps_ret (pe_make T.M_Table (ok_Table_init T) (hr.mono (by decide)) (by rfl) T.g_Table T.b_Table_init .nil pass0 (pa_cons (pe_tup (pa_cons (pe_callR (ok_added T) (hr.mono (by decide)) (by rfl) T.g_added T.F_added.kp pass0 (pa_cons (pv 2) (pa_cons (pv 4) pa_nil))) (pa_cons (pe_callR (ok_added T) (hr.mono (by decide)) (by rfl) T.g_added T.F_added.kp pass0 (pa_cons (pv 3) (pa_cons (pv 5) pa_nil))) pa_nil))) pa_nil)))))), ?_⟩
    refine ⟨_, rfl, p, T.C_Table, dx, _, _, rfl, hp, T.cl_Table, T.n_Table_cells, rfl, t, _, rfl, SqT.of ht, rfl, .ref u, _, rfl, .ref v, _, rfl, rfl, ?_⟩
    refine ⟨_, rfl, q, T.C_Table, dy, _, _, rfl, hq, T.cl_Table, T.n_Table_cells, rfl, t', _, rfl, SqT.of ht', rfl, .ref u', _, rfl, .ref v', _, rfl, rfl, ?_⟩
    refine ⟨_, rfl, _, rfl, [(a, b), (a', b')], .cons ⟨u, rfl, SqT.of hu⟩ (.cons ⟨u', rfl, SqT.of hu'⟩ .nil), by simp, fun p1 H1 n1 e1 f1 => ?_⟩
    refine ⟨_, rfl, _, rfl, [(c, e), (c', e')], .cons ⟨v, rfl, SqT.of (e1 _ _ hv)⟩ (.cons ⟨v', rfl, SqT.of (e1 _ _ hv')⟩ .nil), by simp, fun p2 H2 n2 e2 f2 => ?_⟩
    rw [show Gy.s1 [(a, b), (a', b')] = a + a' by simp [Gy.s1], show Gy.s2 [(a, b), (a', b')] = b + b' by simp [Gy.s2]] at f1
    rw [show Gy.s1 [(c, e), (c', e')] = c + c' by simp [Gy.s1], show Gy.s2 [(c, e), (c', e')] = e + e' by simp [Gy.s2]] at f2
    refine ⟨by show 2 ≤ sizeLine; decide, fun p3 n3 => ?_⟩
    have e3 := same_new (o := .tup [.ref p1, .ref p2]) n3
    refine mk_tab (K := K) ⟨p3, p1, p2, rfl, SqT.of upd_same, SqT.of ((e2.trans e3) _ _ f1), SqT.of (e3 _ _ f2)⟩ fun x H' nx sx hx => ?_
    exact k x H' ((e1.trans (e2.trans e3)).free nx) ((e1.trans (e2.trans e3)).trans sx) hx
def spMul (C : Addr) : Sp := fun vs H Q _ => ∃ (p : Addr) (a b c e n : Int), vs = [.ref p, .int n] ∧ TabAt C H p a b c e ∧ Bd 9000 [a, b, c, e, n] ∧ NewTab C H (a * n) (b * n) (c * n) (e * n) Q
theorem ok_Table_mul (T : Txt K mg) : FnOk P w K mg base CX0 3 T.f_Table_mul T.d_Table_mul ["self", "other"] (spMul T.C_Table) := by
  refine T.F_Table_mul.ok sc_Table_mul (fun vs H Q E h => ?_) (fun cdv A outer s H vs Q E hr h => ?_)
  · obtain ⟨p, a, b, c, e, n, rfl, _⟩ := h
    rfl
  · obtain ⟨p, a, b, c, e, n, rfl, ⟨dx, t, hp, u, v, ht, hu, hv⟩, bd, k⟩ := h
    have ba := bd a (by simp)
    have bb := bd b (by simp)
    have bc := bd c (by simp)
    have be := bd e (by simp)
    have bn := bd n (by simp)
    refine ⟨_, (pss_cons (ps_asg (pe_fld (pv 0) rfl) (pg_tup (by rfl) (pgs_cons (pg_name (i := 2) sc_Table_mul.nd rfl (Or.inl rfl)) (pgs_cons (pg_name (i := 3) sc_Table_mul.nd rfl (Or.inl rfl)) pgs_nil))))
      (pss_one (ps_ret (pe_make T.M_Table (ok_Table_init T) (hr.mono (by decide)) (by rfl) T.g_Table T.b_Table_init .nil pass0 (pa_cons (pe_tup (pa_cons (pe_call (ok_scaled T) (hr.mono (by decide)) (by rfl) T.g_scaled T.F_scaled.kp T.b_scaled .nil pass0 (pa_cons (pv 2) (pa_cons (pv 1) pa_nil))) (pa_cons (pe_call (ok_scaled T) (hr.mono (by decide)) (by rfl) T.g_scaled T.F_scaled.kp T.b_scaled .nil pass0 (pa_cons (pv 3) (pa_cons (pv 1) pa_nil))) pa_nil))) pa_nil))))), ?_⟩
    refine ⟨_, rfl, p, T.C_Table, dx, _, _, rfl, hp, T.cl_Table, T.n_Table_cells, rfl, t, _, rfl, SqT.of ht, rfl, .ref u, _, rfl, .ref v, _, rfl, rfl, ?_⟩
    refine ⟨_, rfl, _, rfl, _, a, b, n, rfl, ⟨u, rfl, SqT.of hu⟩, ba, bb, bn, fun p1 H1 n1 e1 f1 => ?_⟩
    refine ⟨_, rfl, _, rfl, _, c, e, n, rfl, ⟨v, rfl, SqT.of (e1 _ _ hv)⟩, bc, be, bn, fun p2 H2 n2 e2 f2 => ?_⟩
    refine ⟨by show 2 ≤ sizeLine; decide, fun p3 n3 => ?_⟩
    have e3 := same_new (o := .tup [.ref p1, .ref p2]) n3
    refine mk_tab (K := K) ⟨p3, p1, p2, rfl, SqT.of upd_same, SqT.of ((e2.trans e3) _ _ f1), SqT.of (e3 _ _ f2)⟩ fun x H' nx sx hx => ?_
    exact k x H' ((e1.trans (e2.trans e3)).free nx) ((e1.trans (e2.trans e3)).trans sx) hx
def spNeg (C : Addr) : Sp := fun vs H Q _ => ∃ (p : Addr) (a b c e : Int), vs = [.ref p] ∧ TabAt C H p a b c e ∧ Bd 9000 [a, b, c, e] ∧ NewTab C H (-a) (-b) (-c) (-e) Q
theorem Bd.nil {n : Nat} : Bd n [] := fun _ h => nomatch h
theorem Bd.cons {n : Nat} {x : Int} {xs : List Int} (h : x.natAbs < 2 ^ n) (t : Bd n xs) : Bd n (x :: xs) := fun y hy => by
  rcases List.mem_cons.mp hy with rfl | e
  · exact h
  · exact t y e
theorem Bd.b4 {n : Nat} {a b c e : Int} (h : Bd n [a, b, c, e]) : a.natAbs < 2 ^ n ∧ b.natAbs < 2 ^ n ∧ c.natAbs < 2 ^ n ∧ e.natAbs < 2 ^ n := ⟨h a (by simp), h b (by simp), h c (by simp), h e (by simp)⟩
theorem mk4 {n : Nat} {a b c e : Int} (h1 : a.natAbs < 2 ^ n) (h2 : b.natAbs < 2 ^ n) (h3 : c.natAbs < 2 ^ n) (h4 : e.natAbs < 2 ^ n) : Bd n [a, b, c, e] := .cons h1 (.cons h2 (.cons h3 (.cons h4 .nil)))
theorem mk5 {n : Nat} {a b c e x : Int} (h : Bd n [a, b, c, e]) (h5 : x.natAbs < 2 ^ n) : Bd n [a, b, c, e, x] := by
  obtain ⟨h1, h2, h3, h4⟩ := h.b4
  exact .cons h1 (.cons h2 (.cons h3 (.cons h4 (.cons h5 .nil))))
theorem one_bd {n : Nat} (h : 1 ≤ n) : (1 : Int).natAbs < 2 ^ n := Nat.lt_of_lt_of_le (show 1 < 2 ^ 1 by decide) (Nat.pow_le_pow_right (by decide) h)
theorem ok_Table_neg (T : Txt K mg) : FnOk P w K mg base CX0 4 T.f_Table_neg T.d_Table_neg ["self"] (spNeg T.C_Table) := by
  refine T.F_Table_neg.ok sc_Table_neg (fun vs H Q E h => ?_) (fun cdv A outer s H vs Q E hr h => ?_)
  · obtain ⟨p, a, b, c, e, rfl, _⟩ := h
    rfl
  · obtain ⟨p, a, b, c, e, rfl, hT, bd, k⟩ := h
    obtain ⟨dx, t, hp, _⟩ := id hT
    refine ⟨_, (pss_one (ps_ret (pe_op (op_binI T.m_Table_mul T.sf_Table T.x_Table_rmul T.i_mul T.i_rmul T.is_Table (ok_Table_mul T) (hr.mono (by decide)) T.b_Table_mul pass0) (pv 0) (pe_un un_neg pe_int)))), ?_⟩
    refine ⟨_, rfl, 1, rfl, p, dx, _, -1, rfl, rfl, hp, p, a, b, c, e, -1, rfl, hT, mk5 bd (by simpa using one_bd (by decide)), fun x H' nx sx hx => k x H' nx sx ?_⟩
    simpa using hx
def spSub (C : Addr) : Sp := fun vs H Q _ => ∃ (p q : Addr) (a b c e a' b' c' e' : Int), vs = [.ref p, .ref q] ∧ TabAt C H p a b c e ∧ TabAt C H q a' b' c' e' ∧ Bd 9000 [a', b', c', e'] ∧ NewTab C H (a - a') (b - b') (c - c') (e - e') Q
theorem ok_Table_sub (T : Txt K mg) : FnOk P w K mg base CX0 5 T.f_Table_sub T.d_Table_sub ["self", "other"] (spSub T.C_Table) := by
  refine T.F_Table_sub.ok sc_Table_sub (fun vs H Q E h => ?_) (fun cdv A outer s H vs Q E hr h => ?_)
  · obtain ⟨p, q, a, b, c, e, a', b', c', e', rfl, _⟩ := h
    rfl
  · obtain ⟨p, q, a, b, c, e, a', b', c', e', rfl, hT, hU, bd, k⟩ := h
    obtain ⟨dx, t, hp, _⟩ := id hT
    obtain ⟨dy, t', hq, _⟩ := id hU
    refine ⟨_, (pss_one (ps_ret (pe_op (op_bin T.m_Table_add T.sf_Table (ok_Table_add T) (hr.mono (by decide)) T.b_Table_add pass0) (pv 0) (pe_un (un_own T.m_Table_neg (ok_Table_neg T) (hr.mono (by decide)) T.b_Table_neg pass0) (pv 1))))), ?_⟩
    refine ⟨_, rfl, _, rfl, q, dy, _, rfl, hq, q, a', b', c', e', rfl, hU, bd, fun x H1 n1 e1 hx => ?_⟩
    obtain ⟨dz, tz, hz, _⟩ := id hx
    refine ⟨p, dx, _, x, dz, _, rfl, rfl, e1 _ _ hp, hz, p, x, a, b, c, e, -a', -b', -c', -e', rfl, hT.same e1, hx, fun y H2 n2 e2 hy => k y H2 (e1.free n2) (e1.trans e2) ?_⟩
    simpa [Int.sub_eq_add_neg] using hy
def spEqT (K : PySem.W.Frag) (C : Addr) : Sp := fun vs H Q _ => ∃ (p : Addr) (y : V) (a b c e : Int), vs = [.ref p, y] ∧ TabAt C H p a b c e ∧
  ((∃ (q : Addr) (a' b' c' e' : Int), y = .ref q ∧ TabAt C H q a' b' c' e' ∧ Q (.bl (decide (a = a' ∧ b = b' ∧ c = c' ∧ e = e'))) H) ∨ (∃ t, TyX K H y t ∧ PySem.W.kitOne K t (.ref C) = some false ∧ Q (.bl false) H))
theorem ok_Table_eq (T : Txt K mg) : FnOk P w K mg base CX0 1 T.f_Table_eq T.d_Table_eq ["self", "other"] (spEqT K T.C_Table) := by
  refine T.F_Table_eq.ok sc_Table_eq (fun vs H Q E h => ?_) (fun cdv A outer s H vs Q E hr h => ?_)
  · obtain ⟨p, y, a, b, c, e, rfl, _⟩ := h
    rfl
  · obtain ⟨p, y, a, b, c, e, rfl, ⟨dx, t, hp, hc⟩, h⟩ := h
    refine ⟨_, (pss_one (ps_ret (pe_and (pe_callB call_isi (by rfl) T.n_isinstance (by decide +kernel) (pa_cons (pv 1) (pa_cons (pe_glob (v := .ref T.C_Table) (by rfl) T.g_Table rfl) pa_nil))) (pe_one (pe_cmpR (op_eqD hr.units) (pe_fld (pv 0) rfl) (pe_fld (pv 1) rfl) (nomark _)))))), ?_⟩
    rcases h with ⟨q, a', b', c', e', rfl, ⟨dy, t', hq, hc'⟩, k⟩ | ⟨ty, h1, h2, k⟩
    · refine ⟨_, rfl, .ref q, .ref T.C_Table, .ref T.C_Table, .ref T.C_Table, true, rfl, ClsV.own _, TyX.base (TyOf.ins hq T.cl_Table T.ca_Table T.hn T.ht T.mo_Table), by simp [PySem.W.kitOne], true, rfl, iteT ?_⟩
      refine ⟨_, rfl, p, T.C_Table, dx, _, _, rfl, hp, T.cl_Table, T.n_Table_cells, rfl, _, rfl, q, T.C_Table, dy, _, _, rfl, hq, T.cl_Table, T.n_Table_cells, rfl, _, _, hc.dp, hc'.dp, rfl, rfl, ?_⟩
      rw [eqv4]
      exact k
    · exact ⟨_, rfl, y, .ref T.C_Table, ty, .ref T.C_Table, false, rfl, ClsV.own _, h1, h2, false, rfl, iteF k⟩
def spBoolT (C : Addr) : Sp := fun vs H Q _ => ∃ (p : Addr) (a b c e : Int), vs = [.ref p] ∧ TabAt C H p a b c e ∧ ∀ H', Same H H' → Q (.bl ([a, b, c, e].any fun i => i != 0)) H'
theorem ok_Table_bool (T : Txt K mg) : FnOk P w K mg base CX0 1 T.f_Table_bool T.d_Table_bool ["self"] (spBoolT T.C_Table) := by
  refine T.F_Table_bool.ok sc_Table_bool (fun vs H Q E h => ?_) (fun cdv A outer s H vs Q E hr h => ?_)
  · obtain ⟨p, a, b, c, e, rfl, _⟩ := h
    rfl
  · obtain ⟨p, a, b, c, e, rfl, ⟨dx, t, hp, u, v, ht, hu, hv⟩, q⟩ := h
    refine ⟨_, (pss_cons (ps_asg (pe_fld (pv 0) rfl) (pg_tup (by rfl) (pgs_cons (pg_tup (by rfl) (pgs_cons (pg_name (i := 1) sc_Table_bool.nd rfl (Or.inl rfl)) (pgs_cons (pg_name (i := 2) sc_Table_bool.nd rfl (Or.inl rfl)) pgs_nil))) (pgs_cons (pg_tup (by rfl) (pgs_cons (pg_name (i := 3) sc_Table_bool.nd rfl (Or.inl rfl)) (pgs_cons (pg_name (i := 4) sc_Table_bool.nd rfl (Or.inl rfl)) pgs_nil))) pgs_nil))))
      (pss_one (ps_ret (pe_callB (cr_anyI rfl) (by rfl) T.n_any (by decide +kernel) (pa_cons (pe_lst (pa_cons (pv 1) (pa_cons (pv 2) (pa_cons (pv 3) (pa_cons (pv 4) pa_nil))))) pa_nil))))), ?_⟩
    refine ⟨_, rfl, p, T.C_Table, dx, _, _, rfl, hp, T.cl_Table, T.n_Table_cells, rfl, t, _, rfl, SqT.of ht, rfl, .ref u, _, rfl, u, _, rfl, SqT.of hu, rfl, .int a, _, rfl, .int b, _, rfl, rfl, .ref v, _, rfl, v, _, rfl, SqT.of hv, rfl, .int c, _, rfl, .int e, _, rfl, rfl, rfl, ?_⟩
    exact ⟨_, rfl, _, rfl, _, rfl, _, rfl, by show 4 ≤ sizeLine; decide, fun l hl => ⟨l, [a, b, c, e], rfl, SqL.of upd_same, q _ (same_new hl)⟩⟩
end
/-! ### the signs, used -/
theorem Dflt.cells {K : PySem.W.Frag} {H : Hp} {r : Addr} (h : Dflt K r) : CellsK K H (.ref r) 0 0 0 0 := by
  obtain ⟨a, b, c⟩ := h
  exact ⟨_, _, _, rfl, .inr ⟨_, _, _, a, rfl, rfl, by show 2 ≤ sizeLine; decide, .cons rfl (.cons rfl .nil)⟩, .inr ⟨_, _, _, b, rfl, rfl, by show 2 ≤ sizeLine; decide, .cons ⟨_, rfl⟩ (.cons ⟨_, rfl⟩ .nil)⟩, .inr ⟨_, _, _, c, rfl, rfl, by show 2 ≤ sizeLine; decide, .cons ⟨_, rfl⟩ (.cons ⟨_, rfl⟩ .nil)⟩⟩
theorem wn {x : Int} (h : x.natAbs ≤ 10 ^ 18) : x.natAbs < 2 ^ 60 := Nat.lt_of_le_of_lt h (by decide)
theorem nc : ∀ {t : Addr} {m : Str}, ¬ m = "cells" → ([(("cells" : Str), V.ref t)] : List (Str × V)).lookup m = none := by
  intro t m h
  rw [List.lookup_cons, show (m == "cells") = false from beq_eq_false_iff_ne.mpr h]
  rfl
theorem Bd.up {n m : Nat} {xs : List Int} (h : Bd n xs) (l : n ≤ m) : Bd m xs := fun x hx => bd_w (h x hx) l
theorem Bd.add {n : Nat} {a b c e a' b' c' e' : Int} (h : Bd n [a, b, c, e]) (h' : Bd n [a', b', c', e']) : Bd (n + 1) [a + a', b + b', c + c', e + e'] := by
  obtain ⟨h1, h2, h3, h4⟩ := h.b4
  obtain ⟨k1, k2, k3, k4⟩ := h'.b4
  exact mk4 (bd_a h1 k1) (bd_a h2 k2) (bd_a h3 k3) (bd_a h4 k4)
theorem Bd.sub {n : Nat} {a b c e a' b' c' e' : Int} (h : Bd n [a, b, c, e]) (h' : Bd n [a', b', c', e']) : Bd (n + 1) [a - a', b - b', c - c', e - e'] := by
  obtain ⟨h1, h2, h3, h4⟩ := h.b4
  obtain ⟨k1, k2, k3, k4⟩ := h'.b4
  have g : ∀ x y : Int, x.natAbs < 2 ^ n → y.natAbs < 2 ^ n → (x - y).natAbs < 2 ^ (n + 1) := fun x y hx hy => by
    rw [Nat.pow_succ]
    omega
  exact mk4 (g _ _ h1 k1) (g _ _ h2 k2) (g _ _ h3 k3) (g _ _ h4 k4)
theorem Bd.mul {n m : Nat} {a b c e x : Int} (h : Bd n [a, b, c, e]) (hx : x.natAbs < 2 ^ m) : Bd (n + m) [a * x, b * x, c * x, e * x] := by
  obtain ⟨h1, h2, h3, h4⟩ := h.b4
  exact mk4 (wide_lt h1 hx) (wide_lt h2 hx) (wide_lt h3 hx) (wide_lt h4 hx)
section
variable {K : PySem.W.Frag} {C : Addr} {H : Hp} {E : XK} {Q : VK} {p q : Addr} {a b c e a' b' c' e' n : Int}
theorem add_do (hX : TabAt C H p a b c e) (hY : TabAt C H q a' b' c' e') (k : NewTab C H (a + a') (b + b') (c + c') (e + e') Q) : rOwn2 C (spAdd C) E (.ref p) (.ref q) H Q := by
  obtain ⟨dx, t, hp, _⟩ := id hX
  obtain ⟨dy, t', hq, _⟩ := id hY
  exact ⟨p, dx, _, q, dy, _, rfl, rfl, hp, hq, p, q, a, b, c, e, a', b', c', e', rfl, hX, hY, k⟩
theorem sub_do {m : Nat} (hX : TabAt C H p a b c e) (hY : TabAt C H q a' b' c' e') (bd : Bd m [a', b', c', e']) (hm : m ≤ 9000) (k : NewTab C H (a - a') (b - b') (c - c') (e - e') Q) : rOwn2 C (spSub C) E (.ref p) (.ref q) H Q := by
  obtain ⟨dx, t, hp, _⟩ := id hX
  obtain ⟨dy, t', hq, _⟩ := id hY
  exact ⟨p, dx, _, q, dy, _, rfl, rfl, hp, hq, p, q, a, b, c, e, a', b', c', e', rfl, hX, hY, bd.up hm, k⟩
theorem mul_do {m : Nat} (hX : TabAt C H p a b c e) (bd : Bd m [a, b, c, e]) (bn : n.natAbs < 2 ^ 9000) (hm : m ≤ 9000) (k : NewTab C H (a * n) (b * n) (c * n) (e * n) Q) : rOwnI C (spMul C) E (.ref p) (.int n) H Q := by
  obtain ⟨dx, t, hp, _⟩ := id hX
  exact ⟨p, dx, _, n, rfl, rfl, hp, p, a, b, c, e, n, rfl, hX, mk5 (bd.up hm) bn, k⟩
theorem neg_do {m : Nat} (hX : TabAt C H p a b c e) (bd : Bd m [a, b, c, e]) (hm : m ≤ 9000) (k : NewTab C H (-a) (-b) (-c) (-e) Q) : rOwn1 C (spNeg C) E (.ref p) H Q := by
  obtain ⟨dx, t, hp, _⟩ := id hX
  exact ⟨p, dx, _, rfl, hp, p, a, b, c, e, rfl, hX, bd.up hm, k⟩
theorem neq_do (hX : TabAt C H p a b c e) (hY : TabAt C H q a' b' c' e') (k : Q (.bl (!decide (a = a' ∧ b = b' ∧ c = c' ∧ e = e'))) H) : rOwnN C (spEqT K C) E (.ref p) (.ref q) H Q := by
  obtain ⟨dx, t, hp, _⟩ := id hX
  obtain ⟨dy, t', hq, _⟩ := id hY
  exact ⟨p, dx, _, q, dy, _, rfl, rfl, hp, hq, p, .ref q, a, b, c, e, rfl, hX, .inl ⟨q, a', b', c', e', rfl, hY, _, rfl, k⟩⟩
theorem ne_do (hX : TabAt C H p a b c e) (hY : TabAt C H q a' b' c' e') (e1 : a = a') (e2 : b = b') (e3 : c = c') (e4 : e = e') (k : Q (.bl false) H) : rOwnN C (spEqT K C) E (.ref p) (.ref q) H Q := by
  refine neq_do hX hY ?_
  rw [decide_eq_true ⟨e1, e2, e3, e4⟩]
  exact k
theorem eq_do (hX : TabAt C H p a b c e) (hY : TabAt C H q a' b' c' e') (k : Q (.bl (decide (a = a' ∧ b = b' ∧ c = c' ∧ e = e'))) H) : rOwn2 C (spEqT K C) E (.ref p) (.ref q) H Q := by
  obtain ⟨dx, t, hp, _⟩ := id hX
  obtain ⟨dy, t', hq, _⟩ := id hY
  exact ⟨p, dx, _, q, dy, _, rfl, rfl, hp, hq, p, .ref q, a, b, c, e, rfl, hX, .inl ⟨q, a', b', c', e', rfl, hY, k⟩⟩
theorem bool_do (hX : TabAt C H p a b c e) (k : ∀ H', Same H H' → Q (.bl ([a, b, c, e].any fun i => i != 0)) H') : rBoolO C (spBoolT C) E [.ref p] H Q := by
  obtain ⟨dx, t, hp, _⟩ := id hX
  exact ⟨p, dx, _, rfl, hp, p, a, b, c, e, rfl, hX, fun H' s => ⟨_, rfl, k H' s⟩⟩
end
theorem any4 (a b c e a' b' c' e' : Int) : ([a - a', b - b', c - c', e - e'].any fun i => i != 0) = !decide (a = a' ∧ b = b' ∧ c = c' ∧ e = e') := by
  have h : ∀ x y : Int, (x - y != 0) = !decide (x = y) := fun x y => by
    by_cases h : x = y
    · subst h
      simp
    · have : x - y ≠ 0 := fun z => h (by omega)
      simp [h, this]
  simp only [List.any_cons, List.any_nil, h, Bool.or_false]
  by_cases h1 : a = a' <;> by_cases h2 : b = b' <;> by_cases h3 : c = c' <;> by_cases h4 : e = e' <;> simp [h1, h2, h3, h4]
/-- tables that were drawn -/
inductive Tabs (C : Addr) (H : Hp) : List V → List (Int × Int × Int × Int) → Prop
  | nil : Tabs C H [] []
  | cons {p : Addr} {vs : List V} {a b c e : Int} {ts : List (Int × Int × Int × Int)} : TabAt C H p a b c e → Bd 60 [a, b, c, e] → Tabs C H vs ts → Tabs C H (.ref p :: vs) ((a, b, c, e) :: ts)
theorem Tabs.inv {C : Addr} {H : Hp} {v : V} {vs : List V} {ts : List (Int × Int × Int × Int)} (h : Tabs C H (v :: vs) ts) : ∃ (p : Addr) (a b c e : Int) (ts' : List (Int × Int × Int × Int)), v = .ref p ∧ ts = (a, b, c, e) :: ts' ∧ TabAt C H p a b c e ∧ Bd 60 [a, b, c, e] ∧ Tabs C H vs ts' := by
  cases h with
  | cons h b t => exact ⟨_, _, _, _, _, _, rfl, rfl, h, b, t⟩
theorem Tabs.mono {C : Addr} {H H' : Hp} (k : ∀ p a b c e, TabAt C H p a b c e → TabAt C H' p a b c e) : ∀ {vs : List V} {ts : List (Int × Int × Int × Int)}, Tabs C H vs ts → Tabs C H' vs ts
  | _, _, .nil => .nil
  | _, _, .cons h b t => .cons (k _ _ _ _ _ h) b (t.mono k)
theorem Tabs.snoc {C : Addr} {H : Hp} {p : Addr} {a b c e : Int} (h : TabAt C H p a b c e) (bd : Bd 60 [a, b, c, e]) : ∀ {vs : List V} {ts : List (Int × Int × Int × Int)}, Tabs C H vs ts → Tabs C H (vs ++ [.ref p]) (ts ++ [(a, b, c, e)])
  | _, _, .nil => .cons h bd .nil
  | _, _, .cons h' b' t => .cons h' b' (t.snoc h bd)
theorem TabAt.put {C : Addr} {H : Hp} {p l : Addr} {a b c e : Int} {ys zs : List V} (hl : H l = some (.lst ys)) (h : TabAt C H p a b c e) : TabAt C (upd H l (.lst zs)) p a b c e := by
  obtain ⟨dx, t, h1, u, v, h2, h3, h4⟩ := h
  exact ⟨dx, t, (upd_ne (ne_of h1 hl (by intro z; cases z))).trans h1, u, v, (upd_ne (ne_of h2 hl (by intro z; cases z))).trans h2, (upd_ne (ne_of h3 hl (by intro z; cases z))).trans h3, (upd_ne (ne_of h4 hl (by intro z; cases z))).trans h4⟩
theorem dpair {K : PySem.W.Frag} {H : Hp} {p : Addr} {x y : Int} (h : H p = some (.tup [.int x, .int y])) : Dp K H (.ref p) (.tuple [.int x, .int y]) := .tup (SqT.of h) (.cons (.int x) (.cons (.int y) .nil))
theorem eqv2 (a b c e : Int) : PyData.eqv (.tuple [.int a, .int b]) (.tuple [.int c, .int e]) = (decide (a = c) && decide (b = e)) := by
  simp [PyData.eqv, PyData.eqvAll]
  first | rfl | (by_cases h1 : a = c <;> by_cases h2 : b = e <;> simp [h1, h2])
theorem ne_pair {a b c e : Int} (h1 : a = c) (h2 : b = e) : (!PyData.eqv (.tuple [.int a, .int b]) (.tuple [.int c, .int e])) = false := by
  rw [eqv2, decide_eq_true h1, decide_eq_true h2]
  rfl
theorem dtri {K : PySem.W.Frag} {H : Hp} {p : Addr} {x y z : Int} (h : H p = some (.tup [.int x, .int y, .int z])) : Dp K H (.ref p) (.tuple [.int x, .int y, .int z]) := .tup (SqT.of h) (.cons (.int x) (.cons (.int y) (.cons (.int z) .nil)))
theorem ne_tri {a b c a' b' c' : Int} (h1 : a = a') (h2 : b = b') (h3 : c = c') : (!PyData.eqv (.tuple [.int a, .int b, .int c]) (.tuple [.int a', .int b', .int c'])) = false := by
  subst h1 h2 h3
  simp [PyData.eqv, PyData.eqvAll]
/-! ### like -/
def Flat (x y : V) : Prop := (∃ i, x = .int i ∧ y = .int i) ∨ (∃ b, x = .bl b ∧ y = .bl b) ∨ (x = .non ∧ y = .non) ∨ (∃ t, x = .str t ∧ y = .str t)
def Two (H : Hp) (p q : Addr) (xs ys : List V) : Prop := (H p = some (.tup xs) ∧ H q = some (.tup ys)) ∨ (H p = some (.lst xs) ∧ H q = some (.lst ys))
def Lk (H : Hp) : Nat → V → V → Prop
  | 0, x, y => Flat x y
  | n + 1, x, y => Flat x y ∨ ∃ (p q : Addr) (xs ys : List V), x = .ref p ∧ y = .ref q ∧ Two H p q xs ys ∧ xs.length = ys.length ∧ xs.length ≤ 1000 ∧ ∀ (i : Nat) (x y : V), xs[i]? = some x → ys[i]? = some y → Lk H n x y
theorem Two.same {H H' : Hp} {p q : Addr} {xs ys : List V} (h : Two H p q xs ys) (s : Same H H') : Two H' p q xs ys := by
  rcases h with ⟨a, b⟩ | ⟨a, b⟩
  · exact .inl ⟨s _ _ a, s _ _ b⟩
  · exact .inr ⟨s _ _ a, s _ _ b⟩
theorem Lk.same {H H' : Hp} (s : Same H H') : ∀ {n : Nat} {x y : V}, Lk H n x y → Lk H' n x y
  | 0, _, _, h => h
  | n + 1, _, _, h => by
    rcases h with h | ⟨p, q, xs, ys, e1, e2, t, l1, l2, a⟩
    · exact .inl h
    · exact .inr ⟨p, q, xs, ys, e1, e2, t.same s, l1, l2, fun i x y h1 h2 => (a i x y h1 h2).same s⟩
theorem Lk.flat {H : Hp} {n : Nat} {x y : V} (h : Flat x y) : Lk H n x y := match n with
  | 0 => h
  | _ + 1 => .inl h
section
variable {base : Heap} {K : PySem.W.Frag} {mg : Str → Option Value} {P : Program} {w : World}
def spLL (L : V → V → Hp → Prop) : Sp := fun vs H Q _ => ∃ x y : V, vs = [x, y] ∧ L x y H ∧ ∀ H', Same H H' → Q (.bl true) H'
theorem kit2 {a : String} {r1 r2 : Bool} (h1 : kitB a "tuple" = some r1) (h2 : kitB a "list" = some r2) : PySem.W.kitAny K (.type a) [.type "tuple", .type "list"] = some (r1 || r2) := by
  refine kitAny_cons (kit_ty h1) (fun e => ?_) (fun e => by rw [e]; rfl)
  subst e
  exact kitAny_cons (kit_ty h2) (fun e => by rw [e]; exact kitAny_nil) (fun e => by rw [e]; rfl)
theorem lk_core (T : Txt K mg) {k : Nat} {L L' : V → V → Hp → Prop} (G : FnOk P w K mg base CX0 k T.f_like T.d_like ["_law_found", "_law_due"] (spLL L')) (hs : ∀ x y H H', Same H H' → L' x y H → L' x y H')
    (hne : ∀ x y H, L x y H → Flat x y ∨ ∃ (p q : Addr) (xs ys : List V), x = .ref p ∧ y = .ref q ∧ Two H p q xs ys ∧ xs.length = ys.length ∧ xs.length ≤ 1000 ∧ ∀ (i : Nat) (x y : V), xs[i]? = some x → ys[i]? = some y → L' x y H) :
    FnOk P w K mg base CX0 (k + 1) T.f_like T.d_like ["_law_found", "_law_due"] (spLL L) := by
  refine T.F_like.ok sc_like (fun vs H Q E h => ?_) (fun cdv A outer s H vs Q E hr h => ?_)
  · obtain ⟨x, y, rfl, _⟩ := h
    rfl
  · obtain ⟨x, y, rfl, hl, qq⟩ := h
    refine ⟨_, (pss_cons (ps_if (pt_val (pe_callB call_isiT (by rfl) T.n_isinstance (by decide +kernel) (pa_cons (pv 1) (pa_cons (pe_tup (pa_cons (pe_bltn (v := .ty "tuple") (by rfl) T.n_tuple (by decide +kernel) rfl) (pa_cons (pe_bltn (v := .ty "list") (by rfl) T.n_list (by decide +kernel) rfl) pa_nil))) pa_nil)))) (pss_cons (ps_if (PW.pt (pw_or (pt_cmpR op_ne (pe_callB call_isi (by rfl) T.n_isinstance (by decide +kernel) (pa_cons (pv 0) (pa_cons (pe_bltn (v := .ty "tuple") (by rfl) T.n_tuple (by decide +kernel) rfl) pa_nil))) (pe_callB call_isi (by rfl) T.n_isinstance (by decide +kernel) (pa_cons (pv 1) (pa_cons (pe_bltn (v := .ty "tuple") (by rfl) T.n_tuple (by decide +kernel) rfl) pa_nil))) (nomark _)) (pw_or1 (pt_cmpR op_ne (pe_callB call_isi (by rfl) T.n_isinstance (by decide +kernel) (pa_cons (pv 0) (pa_cons (pe_bltn (v := .ty "list") (by rfl) T.n_list (by decide +kernel) rfl) pa_nil))) (pe_callB call_isi (by rfl) T.n_isinstance (by decide +kernel) (pa_cons (pv 1) (pa_cons (pe_bltn (v := .ty "list") (by rfl) T.n_list (by decide +kernel) rfl) pa_nil))) (nomark _))))) (pss_one (ps_ret pe_bl)) pss_nil)
      (pss_one (ps_ret (pe_and (pe_cmpR op_eq (pe_callB call_len_seq (by rfl) T.n_len (by decide +kernel) (pa_cons (pv 0) pa_nil)) (pe_callB call_len_seq (by rfl) T.n_len (by decide +kernel) (pa_cons (pv 1) pa_nil)) (nomark _)) (pe_one (pe_callB (cr_all rfl) (by rfl) T.n_all (by decide +kernel) (pa_cons (pe_lc (own := [("_law_k", 2)]) (g := (gName 2)) (tt := tYes) (te := tCall (spLL L') [] E0 (tCons (tOp (rIx K) _ _) (tCons (tOp (rIx K) _ _) _))) (by rfl) sc_like.nd (pi_range1 (by rfl) T.n_range (pa_cons (pe_callB call_len_seq (by rfl) T.n_len (by decide +kernel) (pa_cons (pv 1) pa_nil)) pa_nil)) (blkOk_by (own := [("_law_k", 2)]) (N := ["_law_found", "_law_due", "_law_k"]) (sc := defScope s_like) (by decide +kernel)) (fun _ _ _ _ _ => (pg_name (i := 2) sc_like.nd rfl (Or.inl rfl))) (fun _ _ _ _ _ => pts_nil) (fun _ _ _ _ _ => (pe_call G hr (by rfl) T.g_like T.F_like.kp T.b_like .nil pass0 (pa_cons (pe_ix ix_seq (pv 0) (pv 2) (fun _ _ => rfl)) (pa_cons (pe_ix ix_seq (pv 1) (pv 2) (fun _ _ => rfl)) pa_nil))))) pa_nil))))))) pss_nil)
      (pss_cons (ps_if (PW.pt (pw_or (pt_cmpR op_isN (pv 1) pe_non (nomark _)) (pw_or1 (pt_cmpR op_isN (pv 0) pe_non (nomark _))))) (pss_one (ps_ret (pe_and (pe_cmpR op_isN (pv 1) pe_non (nomark _)) (pe_one (pe_cmpR op_isN (pv 0) pe_non (nomark _)))))) pss_nil)
      (pss_one (ps_ret (pe_and (pe_cmpR op_eq (pe_callB call_isi (by rfl) T.n_isinstance (by decide +kernel) (pa_cons (pv 0) (pa_cons (pe_bltn (v := .ty "bool") (by rfl) T.n_bool (by decide +kernel) rfl) pa_nil))) (pe_callB call_isi (by rfl) T.n_isinstance (by decide +kernel) (pa_cons (pv 1) (pa_cons (pe_bltn (v := .ty "bool") (by rfl) T.n_bool (by decide +kernel) rfl) pa_nil))) (nomark _)) (pe_one (pe_cmpR op_eq (pv 0) (pv 1) (nomark _)))))))), ?_⟩
    refine ⟨_, rfl, by show 2 ≤ sizeLine; decide, fun tp htp => ?_⟩
    have sm := same_new (o := .tup [.ty "tuple", .ty "list"]) htp
    rcases hne x y H hl with (⟨i, rfl, rfl⟩ | ⟨b, rfl, rfl⟩ | ⟨rfl, rfl⟩ | ⟨i, rfl, rfl⟩) | ⟨p, q, xs, ys, rfl, rfl, hT, l1, l2, hA⟩
    · refine ⟨.int i, tp, [.ty "tuple", .ty "list"], .type "int", [.type "tuple", .type "list"], (false || false), rfl, upd_same, .cons (ClsV.ty _) (.cons (ClsV.ty _) .nil), TyX.base (TyOf.int _), kit2 (by decide +kernel) (by decide +kernel), _, rfl, iteF ?_⟩
      refine ⟨_, rfl, rfl, _, rfl, iteF ?_⟩
      refine ⟨_, rfl, rfl, _, rfl, iteF ?_⟩
      refine ⟨_, rfl, .int i, .ty "bool", _, _, false, rfl, ClsV.ty _, TyX.base (TyOf.int _), kit_ty (by decide +kernel), _, rfl, .int i, .ty "bool", _, _, false, rfl, ClsV.ty _, TyX.base (TyOf.int _), kit_ty (by decide +kernel), rfl, true, rfl, iteT ?_⟩
      refine ⟨_, rfl, _, rfl, rfl, ?_⟩
      rw [decide_eq_true rfl]
      exact qq _ sm
    · refine ⟨.bl b, tp, [.ty "tuple", .ty "list"], .type "bool", [.type "tuple", .type "list"], (false || false), rfl, upd_same, .cons (ClsV.ty _) (.cons (ClsV.ty _) .nil), TyX.base (TyOf.bl _), kit2 (by decide +kernel) (by decide +kernel), _, rfl, iteF ?_⟩
      refine ⟨_, rfl, rfl, _, rfl, iteF ?_⟩
      refine ⟨_, rfl, rfl, _, rfl, iteF ?_⟩
      refine ⟨_, rfl, .bl b, .ty "bool", _, _, true, rfl, ClsV.ty _, TyX.base (TyOf.bl _), kit_ty (by decide +kernel), _, rfl, .bl b, .ty "bool", _, _, true, rfl, ClsV.ty _, TyX.base (TyOf.bl _), kit_ty (by decide +kernel), rfl, true, rfl, iteT ?_⟩
      refine ⟨_, rfl, _, rfl, rfl, ?_⟩
      rw [decide_eq_true rfl]
      exact qq _ sm
    · refine ⟨.non, tp, [.ty "tuple", .ty "list"], .type "NoneType", [.type "tuple", .type "list"], (false || false), rfl, upd_same, .cons (ClsV.ty _) (.cons (ClsV.ty _) .nil), TyX.base TyOf.non, kit2 (by decide +kernel) (by decide +kernel), _, rfl, iteF ?_⟩
      refine ⟨_, rfl, rfl, _, rfl, iteT ?_⟩
      exact ⟨_, rfl, rfl, true, rfl, iteT ⟨_, rfl, rfl, qq _ sm⟩⟩
    · refine ⟨.str i, tp, [.ty "tuple", .ty "list"], .type "str", [.type "tuple", .type "list"], (false || false), rfl, upd_same, .cons (ClsV.ty _) (.cons (ClsV.ty _) .nil), TyX.base (TyOf.str _), kit2 (by decide +kernel) (by decide +kernel), _, rfl, iteF ?_⟩
      refine ⟨_, rfl, rfl, _, rfl, iteF ?_⟩
      refine ⟨_, rfl, rfl, _, rfl, iteF ?_⟩
      refine ⟨_, rfl, .str i, .ty "bool", _, _, false, rfl, ClsV.ty _, TyX.base (TyOf.str _), kit_ty (by decide +kernel), _, rfl, .str i, .ty "bool", _, _, false, rfl, ClsV.ty _, TyX.base (TyOf.str _), kit_ty (by decide +kernel), rfl, true, rfl, iteT ?_⟩
      refine ⟨_, rfl, _, rfl, rfl, ?_⟩
      rw [decide_eq_true rfl]
      exact qq _ sm
    · have hT' := hT.same sm
      rcases hT' with ⟨hp, hq⟩ | ⟨hp, hq⟩
      · refine ⟨.ref q, tp, [.ty "tuple", .ty "list"], .type "tuple", [.type "tuple", .type "list"], (true || false), rfl, upd_same, .cons (ClsV.ty _) (.cons (ClsV.ty _) .nil), TyX.base (TyOf.tup hq), kit2 (by decide +kernel) (by decide +kernel), _, rfl, iteT ?_⟩
        refine ⟨_, rfl, .ref p, .ty "tuple", _, _, true, rfl, ClsV.ty _, TyX.base (TyOf.tup hp), kit_ty (by decide +kernel), _, rfl, .ref q, .ty "tuple", _, _, true, rfl, ClsV.ty _, TyX.base (TyOf.tup hq), kit_ty (by decide +kernel), rfl, _, rfl, iteF ?_⟩
        refine ⟨_, rfl, .ref p, .ty "list", _, _, false, rfl, ClsV.ty _, TyX.base (TyOf.tup hp), kit_ty (by decide +kernel), _, rfl, .ref q, .ty "list", _, _, false, rfl, ClsV.ty _, TyX.base (TyOf.tup hq), kit_ty (by decide +kernel), rfl, _, rfl, iteF ?_⟩
        refine ⟨_, rfl, p, xs, rfl, .inr (SqT.of hp), _, rfl, q, ys, rfl, .inr (SqT.of hq), rfl, true, (by rw [l1, decide_eq_true rfl]), iteT ?_⟩
        refine ⟨_, rfl, q, ys, rfl, .inr (SqT.of hq), _, rfl, (by omega), (by omega), fun D hD => ?_⟩
        refine lc_range (lo := 0) (n := ys.length) (fun i H' => Same H H' ∧ H' D = some (.lst ((List.replicate i true).map V.bl))) ⟨sm.trans (same_new hD), upd_same⟩ ?_ ?_
        · rintro i H' hi ⟨sm', hd⟩
          obtain ⟨x1, e1, f1⟩ := at_some (xs := xs) (show 0 ≤ (0 : Int) + (i : Int) by omega) (by omega)
          obtain ⟨y1, e2, f2⟩ := at_some (xs := ys) (show 0 ≤ (0 : Int) + (i : Int) by omega) (by omega)
          rcases hT with ⟨hp0, hq0⟩ | ⟨hp0, hq0⟩
          · refine ⟨rfl, ⟨_, rfl, _, rfl, .inr (.inl ⟨p, xs, _, x1, rfl, rfl, SqT.of (sm' _ _ hp0), f1, _, rfl, _, rfl, .inr (.inl ⟨q, ys, _, y1, rfl, rfl, SqT.of (sm' _ _ hq0), f2, x1, y1, rfl, hs _ _ _ _ sm' (hA _ _ _ e1 e2), fun H2 s2 => ?_⟩)⟩)⟩⟩
            refine ⟨_, s2 _ _ hd, ?_, ?_, ?_⟩
            · rw [List.length_map, List.length_replicate]
              exact small1000 (by omega)
            · exact fun a o z => (upd_ne (ne_of_none z (sm.free hD))).trans (s2 _ _ (sm' a o z))
            · rw [upd_same, List.replicate_succ', List.map_append]
              rfl
          · exact absurd (sm _ _ hp0) (by rw [hp]; simp)
        · rintro H' ⟨sm', hd⟩
          refine ⟨D, _, rfl, SqL.of hd, ?_⟩
          rw [show (List.replicate ys.length true).all id = true by simp]
          exact qq _ sm'
      · refine ⟨.ref q, tp, [.ty "tuple", .ty "list"], .type "list", [.type "tuple", .type "list"], (false || true), rfl, upd_same, .cons (ClsV.ty _) (.cons (ClsV.ty _) .nil), TyX.base (TyOf.lst hq), kit2 (by decide +kernel) (by decide +kernel), _, rfl, iteT ?_⟩
        refine ⟨_, rfl, .ref p, .ty "tuple", _, _, false, rfl, ClsV.ty _, TyX.base (TyOf.lst hp), kit_ty (by decide +kernel), _, rfl, .ref q, .ty "tuple", _, _, false, rfl, ClsV.ty _, TyX.base (TyOf.lst hq), kit_ty (by decide +kernel), rfl, _, rfl, iteF ?_⟩
        refine ⟨_, rfl, .ref p, .ty "list", _, _, true, rfl, ClsV.ty _, TyX.base (TyOf.lst hp), kit_ty (by decide +kernel), _, rfl, .ref q, .ty "list", _, _, true, rfl, ClsV.ty _, TyX.base (TyOf.lst hq), kit_ty (by decide +kernel), rfl, _, rfl, iteF ?_⟩
        refine ⟨_, rfl, p, xs, rfl, .inl (SqL.of hp), _, rfl, q, ys, rfl, .inl (SqL.of hq), rfl, true, (by rw [l1, decide_eq_true rfl]), iteT ?_⟩
        refine ⟨_, rfl, q, ys, rfl, .inl (SqL.of hq), _, rfl, (by omega), (by omega), fun D hD => ?_⟩
        refine lc_range (lo := 0) (n := ys.length) (fun i H' => Same H H' ∧ H' D = some (.lst ((List.replicate i true).map V.bl))) ⟨sm.trans (same_new hD), upd_same⟩ ?_ ?_
        · rintro i H' hi ⟨sm', hd⟩
          obtain ⟨x1, e1, f1⟩ := at_some (xs := xs) (show 0 ≤ (0 : Int) + (i : Int) by omega) (by omega)
          obtain ⟨y1, e2, f2⟩ := at_some (xs := ys) (show 0 ≤ (0 : Int) + (i : Int) by omega) (by omega)
          rcases hT with ⟨hp0, hq0⟩ | ⟨hp0, hq0⟩
          · exact absurd (sm _ _ hp0) (by rw [hp]; simp)
          · refine ⟨rfl, ⟨_, rfl, _, rfl, .inl ⟨p, xs, _, x1, rfl, rfl, SqL.of (sm' _ _ hp0), f1, _, rfl, _, rfl, .inl ⟨q, ys, _, y1, rfl, rfl, SqL.of (sm' _ _ hq0), f2, x1, y1, rfl, hs _ _ _ _ sm' (hA _ _ _ e1 e2), fun H2 s2 => ?_⟩⟩⟩⟩
            refine ⟨_, s2 _ _ hd, ?_, ?_, ?_⟩
            · rw [List.length_map, List.length_replicate]
              exact small1000 (by omega)
            · exact fun a o z => (upd_ne (ne_of_none z (sm.free hD))).trans (s2 _ _ (sm' a o z))
            · rw [upd_same, List.replicate_succ', List.map_append]
              rfl
        · rintro H' ⟨sm', hd⟩
          refine ⟨D, _, rfl, SqL.of hd, ?_⟩
          rw [show (List.replicate ys.length true).all id = true by simp]
          exact qq _ sm'
theorem ok_likeN (T : Txt K mg) : ∀ n : Nat, FnOk P w K mg base CX0 (n + 1) T.f_like T.d_like ["_law_found", "_law_due"] (spLL fun x y H => Lk H n x y)
  | 0 => lk_core T (L' := fun _ _ _ => False) ⟨fun _ _ _ _ ⟨_, _, _, h, _⟩ => h.elim, fun _ _ _ _ _ _ _ _ _ _ _ _ _ ⟨_, _, _, h, _⟩ => h.elim⟩ (fun _ _ _ _ _ h => h) fun x y H h => .inl h
  | n + 1 => lk_core T (ok_likeN T n) (fun _ _ _ _ s h => h.same s) fun x y H h => h
theorem ok_like (T : Txt K mg) : FnOk P w K mg base CX0 4 T.f_like T.d_like ["_law_found", "_law_due"] (spLL fun x y H => Lk H 3 x y) := ok_likeN T 3
end
inductive LkAll (H : Hp) (n : Nat) : List V → List V → Prop
  | nil : LkAll H n [] []
  | cons {x y : V} {xs ys : List V} : Lk H n x y → LkAll H n xs ys → LkAll H n (x :: xs) (y :: ys)
theorem LkAll.get {H : Hp} {n : Nat} : ∀ {xs ys : List V}, LkAll H n xs ys → xs.length = ys.length ∧ ∀ (i : Nat) (x y : V), xs[i]? = some x → ys[i]? = some y → Lk H n x y := by
  intro xs ys h
  induction h with
  | nil => exact ⟨rfl, fun i x y h => by simp at h⟩
  | cons h t ih =>
    refine ⟨congrArg Nat.succ ih.1, fun i x y h1 h2 => ?_⟩
    cases i with
    | zero =>
      cases h1
      cases h2
      exact h
    | succ i => exact ih.2 i x y (by simpa using h1) (by simpa using h2)
theorem Lk.lists {H : Hp} {n : Nat} {p q : Addr} {xs ys : List V} (hp : H p = some (.lst xs)) (hq : H q = some (.lst ys)) (hl : xs.length ≤ 1000) (h : LkAll H n xs ys) : Lk H (n + 1) (.ref p) (.ref q) := .inr ⟨p, q, xs, ys, rfl, rfl, .inr ⟨hp, hq⟩, h.get.1, hl, h.get.2⟩
theorem Lk.tups {H : Hp} {n : Nat} {p q : Addr} {xs ys : List V} (hp : H p = some (.tup xs)) (hq : H q = some (.tup ys)) (hl : xs.length ≤ 1000) (h : LkAll H n xs ys) : Lk H (n + 1) (.ref p) (.ref q) := .inr ⟨p, q, xs, ys, rfl, rfl, .inl ⟨hp, hq⟩, h.get.1, hl, h.get.2⟩
theorem Lk.int {H : Hp} {n : Nat} {i j : Int} (e : i = j) : Lk H n (.int i) (.int j) := Lk.flat (.inl ⟨i, rfl, by rw [e]⟩)
theorem Lk.bl {H : Hp} {n : Nat} {i j : Bool} (e : i = j) : Lk H n (.bl i) (.bl j) := Lk.flat (.inr (.inl ⟨i, rfl, by rw [e]⟩))
theorem Lk.pair {H : Hp} {n : Nat} {p q : Addr} {x y x' y' : Int} (hp : H p = some (.tup [.int x, .int y])) (hq : H q = some (.tup [.int x', .int y'])) (e1 : x = x') (e2 : y = y') : Lk H (n + 1) (.ref p) (.ref q) :=
  .tups hp hq (by simp) (.cons (.int e1) (.cons (.int e2) .nil))
/-! ### texts: numbers, pieces of three, lines -/
def decT (n : Int) : Str := Str.ofString (toString n)
theorem neg_text {n : Int} (h : n < 0) : Str.ofString "-" ++ decT (-n) = decT n := by
  match n, h with
  | Int.negSucc m, _ =>
    apply TL.ext_tl
    rw [TL.tl_append]
    unfold decT
    rw [TL.tl_ofString, TL.tl_ofString, TL.tl_ofString, ← List.map_append, ← String.toList_append]
    rfl
def sgT (b : Int) : Str := if 0 < b then Str.ofString "+" else Str.ofString ""
def pairT (a b : Int) : Str := if b = 0 then decT a else if a = 0 then decT b ++ Str.ofString "r" else decT a ++ sgT b ++ decT b ++ Str.ofString "r"
theorem empty_str : Str.ofString "" = Str.empty := by decide +kernel
theorem join_len_le (y : Str) : ∀ ps : List Str, (Str.join y ps).length ≤ (ps.map (·.length)).sum + ps.length * y.length
  | [] => by
    show (0 : Nat) ≤ _
    exact Nat.zero_le _
  | [x] => by
    show x.length ≤ _
    simp only [List.map_cons, List.map_nil, List.sum_cons, List.sum_nil]
    omega
  | x :: z :: r => by
    have ih := join_len_le y (z :: r)
    show (x ++ y ++ Str.join y (z :: r)).length ≤ _
    rw [Str.length_append, Str.length_append]
    simp only [List.map_cons, List.sum_cons, List.length_cons, Nat.succ_mul] at ih ⊢
    omega
theorem join_snoc (x : Str) : ∀ ls : List Str, Str.join (Str.ofString "") (ls ++ [x]) = Str.join (Str.ofString "") ls ++ x
  | [] => by
    show x = Str.empty ++ x
    rw [Str.empty_append]
  | [y] => by
    show y ++ Str.ofString "" ++ x = y ++ x
    rw [empty_str, Str.append_empty]
  | y :: z :: r => by
    have ih := join_snoc x (z :: r)
    show y ++ Str.ofString "" ++ Str.join (Str.ofString "") (z :: (r ++ [x])) = y ++ Str.ofString "" ++ Str.join (Str.ofString "") (z :: r) ++ x
    rw [show z :: (r ++ [x]) = (z :: r) ++ [x] from rfl, ih, Str.append_assoc, Str.append_assoc, Str.append_assoc]
abbrev mkS (l : List Nat) : Str := ⟨l.toArray⟩
theorem mkS_len (l : List Nat) : (mkS l).length = l.length := by
  rw [TL.len_tl, TL.tl_mk]
/-- the pieces of three behind the first f signs -/
def pcs (z : List Nat) (f k : Nat) : List Str := (List.range k).map fun i => mkS ((z.drop (f + 3 * i)).take 3)
/-- the same from the end, as the law finds them -/
def pcsR (z : List Nat) (j : Nat) : List Str := (List.range j).map fun i => mkS ((z.drop (z.length - 3 * (i + 1))).take 3)
theorem pcs_rev {z : List Nat} {f k : Nat} (h : z.length = f + 3 * k) : (pcsR z k).reverse = pcs z f k := by
  apply List.ext_getElem?
  intro i
  unfold pcs pcsR
  by_cases hi : i < k
  · rw [List.getElem?_reverse (by simpa using hi), List.length_map, List.length_range, List.getElem?_map, List.getElem?_map, List.getElem?_range (by omega), List.getElem?_range hi]
    simp only [Option.map_some]
    rw [show z.length - 3 * (k - 1 - i + 1) = f + 3 * i by omega]
  · rw [List.getElem?_eq_none (by simp; omega), List.getElem?_eq_none (by simp; omega)]
def frs (n : Nat) : Nat := if n = 0 then 3 else (n - 1) % 3 + 1
def grpT (z : Str) : Str := Txt.join (Str.ofString ",") (mkS (z.cps.toList.take (frs z.length)) :: pcs z.cps.toList (frs z.length) ((z.length - 1) / 3))
theorem pcs_len {z : List Nat} {f k : Nat} : ∀ y ∈ pcs z f k, y.length ≤ 3 := by
  intro y hy
  obtain ⟨i, _, rfl⟩ := List.mem_map.mp hy
  rw [mkS_len, List.length_take]
  exact Nat.min_le_left _ _
theorem sum_le_three : ∀ {ps : List Str}, (∀ y ∈ ps, y.length ≤ 3) → (ps.map (·.length)).sum ≤ 3 * ps.length
  | [], _ => Nat.zero_le _
  | y :: ps, h => by
    have := sum_le_three fun z hz => h z (List.mem_cons_of_mem y hz)
    have := h y List.mem_cons_self
    simp only [List.map_cons, List.sum_cons, List.length_cons]
    omega
theorem frs_le (n : Nat) : frs n ≤ 3 := by
  unfold frs
  split <;> omega
theorem grp_all (z : Str) : ∀ y ∈ mkS (z.cps.toList.take (frs z.length)) :: pcs z.cps.toList (frs z.length) ((z.length - 1) / 3), y.length ≤ 3 := by
  intro y hy
  rcases List.mem_cons.mp hy with rfl | h
  · rw [mkS_len, List.length_take]
    exact Nat.le_trans (Nat.min_le_left _ _) (frs_le _)
  · exact pcs_len y h
theorem grp_len (z : Str) : (grpT z).length ≤ 4 * ((z.length - 1) / 3 + 1) := by
  unfold grpT
  rw [TL.join_eq]
  refine Nat.le_trans (join_len_le _ _) ?_
  have h := sum_le_three (grp_all z)
  have e : (Str.ofString ",").length = 1 := by decide +kernel
  rw [e]
  simp only [List.length_cons] at h ⊢
  have l : (pcs z.cps.toList (frs z.length) ((z.length - 1) / 3)).length = (z.length - 1) / 3 := by
    unfold pcs
    rw [List.length_map, List.length_range]
  rw [l] at h ⊢
  omega
theorem just_len (x : Str) (i : Int) : (Txt.ljust x i).length ≤ x.length + i.toNat ∧ (Txt.rjust x i).length ≤ x.length + i.toNat := by
  have key : ∀ {l : List Nat} {y : Str}, y.cps.toList = l → y.length = l.length := fun h => (TL.len_tl _).trans (congrArg List.length h)
  constructor
  · rw [show Txt.ljust x i = Txt.ljustF x i 32 from rfl, key (PyProof.Rows.ljustF_list x i 32), List.length_append, List.length_replicate, ← TL.len_tl]
    omega
  · rw [show Txt.rjust x i = Txt.rjustF x i 32 from rfl, key (PyProof.Rows.rjustF_list x i 32), List.length_append, List.length_replicate, ← TL.len_tl]
    omega
def lineT (x : Int × Int × Int × Int) (n wh : Int) : Str :=
  Txt.rjust (decT n) 8 ++ Str.ofString "  " ++ (Txt.ljust (pairT x.1 x.2.1) 14 ++ Str.ofString "  " ++ Txt.ljust (pairT x.2.2.1 x.2.2.2) 14) ++ Str.ofString "  " ++ Txt.rjust (grpT (decT wh)) 12 ++ Str.ofString "\n"
/-! ### the texts of numbers, of pairs -/
theorem ps_never {X : Cx} {st : Stmt} : PS X st (fun _ _ _ => False) := ⟨fun _ _ _ _ _ _ h => h.elim⟩
theorem log2_lt_of {m k : Nat} (h : m < 2 ^ k) (hk : 0 < k) : m.log2 < k := by
  by_cases z : m = 0
  · rw [z]
    simpa using hk
  · exact (Nat.log2_lt z).mpr h
theorem text_len {n : Int} (h : n.natAbs < 10 ^ 64) : n.natAbs.log2 < 1920 ∧ (decT n).length ≤ 70 := by
  refine ⟨log2_lt_of (Nat.lt_of_lt_of_le h (by decide)) (by decide), ?_⟩
  have e := int_text_length_le10 (k := 64) (by decide) h
  unfold decT
  rw [PySem.ofString_length]
  omega
theorem dV' {x y : Int} : decide (V.int x = V.int y) = decide (x = y) := by
  by_cases h : x = y
  · rw [decide_eq_true h, h, decide_eq_true rfl]
  · rw [decide_eq_false h, decide_eq_false fun z => h (V.int.inj z)]
theorem sz_eq : sizeLine = 16777216 := rfl
section
variable {base : Heap} {K : PySem.W.Frag} {mg : Str → Option Value} {P : Program} {w : World}
def spDecL (L : Int → Prop) : Sp := fun vs H Q _ => ∃ n : Int, vs = [.int n] ∧ n.natAbs < 10 ^ 64 ∧ L n ∧ ∀ H', Same H H' → Q (.str (decT n)) H'
theorem dec_core (T : Txt K mg) {k : Nat} {sp' : Sp} {L : Int → Prop} (G : FnOk P w K mg base CX0 k T.f_decimal_text T.d_decimal_text ["number"] sp')
    (neg : ∀ (n : Int) (H : Hp) (Q : VK), L n → n < 0 → n.natAbs < 10 ^ 64 → (∀ H', Same H H' → Q (.str (decT (-n))) H') → sp' [.int (-n)] H Q E0) : FnOk P w K mg base CX0 (k + 1) T.f_decimal_text T.d_decimal_text ["number"] (spDecL L) := by
  refine T.F_decimal_text.ok sc_decimal_text (fun vs H Q E h => ?_) (fun cdv A outer s H vs Q E hr h => ?_)
  · obtain ⟨n, rfl, _⟩ := h
    rfl
  · obtain ⟨n, rfl, hn, hL, q⟩ := h
    refine ⟨_, (pss_cons (ps_if (pt_cmpR op_lt (pv 0) pe_int (nomark _)) (pss_one (ps_ret (pe_joined (.cons pe_str (.cons (pe_fmt (pe_call G hr (by rfl) T.g_decimal_text T.F_decimal_text.kp T.b_decimal_text .nil pass0 (pa_cons (pe_un un_neg (pv 0)) pa_nil))) .nil))))) pss_nil)
      (pss_cons (ps_set (i := 1) sc_decimal_text.nd rfl (Or.inl rfl) (pv 0))
      (pss_cons (ps_set (i := 2) sc_decimal_text.nd rfl (Or.inl rfl) (pe_lst pa_nil))
      (pss_cons (ps_while PassesOwn.never (pt_cmpR op_ge (pv 1) (pe_glob (v := .int (10 ^ 64)) (by rfl) T.g_GROUP T.rv_GROUP) (nomark _)) (pss_cons ps_never
      (pss_one ps_never)))
      (pss_cons (ps_expr (pe_bm PySem.F.plainAttrs_list PySem.F.slot_list_append PySem.F.type_list_append mt_append (pv 2) (pa_cons (pe_callTy call_str_int (by rfl) T.n_str (by decide +kernel) (pa_cons (pv 1) pa_nil)) pa_nil)))
      (pss_one (ps_ret (pe_join pe_str (pe_revL (pv 2)))))))))), ?_⟩
    refine ⟨_, rfl, n, 0, rfl, rfl, _, rfl, ?_⟩
    by_cases hneg : n < 0
    · rw [decide_eq_true hneg]
      obtain ⟨g1, g2⟩ := text_len (n := -n) (by omega)
      have e0 : Str.empty ++ Str.ofString "-" = Str.ofString "-" := Str.empty_append _
      have l0 : (Str.ofString "-").length = 1 := by decide +kernel
      refine iteT ⟨_, rfl, by rw [e0, l0, sz_eq]; decide, _, rfl, n, rfl, neg n H _ hL hneg hn fun H' s' => .inl ⟨_, rfl, by rw [sz_eq]; omega, _, rfl, ?_, ?_⟩⟩
      · rw [e0, Str.length_append, l0, sz_eq]
        omega
      · rw [e0, neg_text hneg]
        exact q _ s'
    · rw [decide_eq_false hneg]
      obtain ⟨g1, g2⟩ := text_len hn
      refine iteF ⟨_, rfl, Nat.zero_le _, fun l hl => ?_⟩
      refine ⟨fun m σ G => m = 0 ∧ σ = [some (.int n), some (.int n), some (.ref l), none] ∧ G = upd H l (.lst []), ⟨0, rfl, rfl, rfl⟩, ?_⟩
      rintro m σ G ⟨rfl, rfl, rfl⟩
      refine ⟨_, rfl, n, 10 ^ 64, rfl, rfl, _, rfl, ?_⟩
      rw [decide_eq_false (by omega)]
      refine iteF ⟨_, rfl, .inl ⟨rfl, _, SqL.of upd_same⟩, _, rfl, n, rfl, g1, l, _, _, rfl, rfl, upd_same, by decide, ?_⟩
      refine ⟨⟨_, rfl⟩, _, rfl, l, _, rfl, SqL.of upd_same, fun p hp => ⟨_, p, [decT n], rfl, rfl, .inl (SqL.of (by rw [upd_same]; rfl)), ?_, ?_⟩⟩
      · show (decT n).length + 0 + 1 * 0 ≤ 16777216
        omega
      · have s1 : Same H (upd (upd (upd H l (.lst [])) l (.lst ([] ++ [.str (decT n)]))) p (.lst ([] ++ [V.str (decT n)]).reverse)) := fun a o z => by
          have na := ne_of_none z hl
          rw [upd_ne (ne_of_none ((upd_ne na).trans ((upd_ne na).trans z)) hp), upd_ne na, upd_ne na]
          exact z
        exact q _ s1
theorem ok_dec0 (T : Txt K mg) : FnOk P w K mg base CX0 1 T.f_decimal_text T.d_decimal_text ["number"] (spDecL fun n => 0 ≤ n) :=
  dec_core T (k := 0) (sp' := fun _ _ _ _ => False) ⟨fun _ _ _ _ h => h.elim, fun _ _ _ _ _ _ _ _ _ _ _ _ _ h => h.elim⟩ fun n H Q h0 hn _ _ => by omega
def spDec : Sp := fun vs H Q _ => ∃ n : Int, vs = [.int n] ∧ n.natAbs < 10 ^ 64 ∧ ∀ H', Same H H' → Q (.str (decT n)) H'
theorem ok_decimal_text (T : Txt K mg) : FnOk P w K mg base CX0 2 T.f_decimal_text T.d_decimal_text ["number"] spDec := by
  have h := dec_core (L := fun _ => True) T (ok_dec0 (P := P) (w := w) (base := base) T) fun n H Q _ hn hb q => ⟨-n, rfl, by omega, by omega, q⟩
  exact h.imp fun vs H Q E ⟨n, e, hb, q⟩ => ⟨n, e, hb, trivial, q⟩
end
/-! ### what a table tells by its entries, its text -/
section
variable {base : Heap} {K : PySem.W.Frag} {mg : Str → Option Value} {P : Program} {w : World}
/-- the entry in row i at j -/
def cellOf (a b c e i j : Int) : Int := if i = 0 then (if j = 0 then a else b) else (if j = 0 then c else e)
def spGet (K : PySem.W.Frag) (C : Addr) : Sp := fun vs H Q _ => ∃ (p t : Addr) (a b c e i j : Int), vs = [.ref p, .ref t] ∧ TabAt C H p a b c e ∧ SqT K H t [.int i, .int j] ∧ (i = 0 ∨ i = 1) ∧ (j = 0 ∨ j = 1) ∧ Q (.int (cellOf a b c e i j)) H
theorem ok_Table_getitem (T : Txt K mg) : FnOk P w K mg base CX0 1 T.f_Table_getitem T.d_Table_getitem ["self", "at"] (spGet K T.C_Table) := by
  refine T.F_Table_getitem.ok sc_Table_getitem (fun vs H Q E h => ?_) (fun cdv A outer s H vs Q E hr h => ?_)
  · obtain ⟨p, t, a, b, c, e, i, j, rfl, _⟩ := h
    rfl
  · obtain ⟨p, t, a, b, c, e, i, j, rfl, ⟨dx, t', hp, u, v, ht, hu, hv⟩, hat, hi, hj, q⟩ := h
    refine ⟨_, (pss_cons (ps_asg (pv 1) (pg_tup (by rfl) (pgs_cons (pg_name (i := 2) sc_Table_getitem.nd rfl (Or.inl rfl)) (pgs_cons (pg_name (i := 3) sc_Table_getitem.nd rfl (Or.inl rfl)) pgs_nil))))
      (pss_one (ps_ret (pe_ix ix_tup (pe_ix ix_tup (pe_fld (pv 0) rfl) (pv 2) (fun _ _ => rfl)) (pv 3) (fun _ _ => rfl))))), ?_⟩
    refine ⟨_, rfl, t, _, rfl, hat, rfl, .int i, _, rfl, .int j, _, rfl, rfl, ?_⟩
    refine ⟨_, rfl, p, T.C_Table, dx, _, _, rfl, hp, T.cl_Table, T.n_Table_cells, rfl, ?_⟩
    rcases hi with rfl | rfl
    · refine ⟨_, rfl, t', _, 0, .ref u, rfl, rfl, SqT.of ht, atI_nat (j := 0) rfl, ?_⟩
      rcases hj with rfl | rfl
      · exact ⟨_, rfl, u, _, 0, .int a, rfl, rfl, SqT.of hu, atI_nat (j := 0) rfl, q⟩
      · exact ⟨_, rfl, u, _, 1, .int b, rfl, rfl, SqT.of hu, atI_nat (j := 1) rfl, q⟩
    · refine ⟨_, rfl, t', _, 1, .ref v, rfl, rfl, SqT.of ht, atI_nat (j := 1) rfl, ?_⟩
      rcases hj with rfl | rfl
      · exact ⟨_, rfl, v, _, 0, .int c, rfl, rfl, SqT.of hv, atI_nat (j := 0) rfl, q⟩
      · exact ⟨_, rfl, v, _, 1, .int e, rfl, rfl, SqT.of hv, atI_nat (j := 1) rfl, q⟩
/-- over a tuple, a loop within whose turns is told by Bd -/
theorem walk_tup {t : Addr} {xs : List V} {H1 : Hp} {Qd : Hp → Prop} {Bd : V → Hp → (Hp → Prop) → Prop} (Pv : Nat → Hp → Prop) (h0 : Pv 0 H1) (hl : ∀ i G, Pv i G → SqT K G t xs) (hs : ∀ (i : Nat) (x : V) (G : Hp) (N : Hp → Prop), xs[i]? = some x → Pv i G → (∀ G', Pv (i + 1) G' → N G') → Bd x G N) (hd : ∀ G, Pv xs.length G → Qd G) :
    ∃ W : Nat → Nat → Hp → Prop, (∃ m, W 0 m H1) ∧ ∀ i m G, W i m G → ((Itt K t).stop i G ∧ Qd G) ∨ ((Itt K t).go i G ∧ ∃ Nx : Hp → Prop, (∀ G', Nx G' → ∃ m', m' < m ∧ W (i + 1) m' G') ∧ ∀ x G', (Itt K t).yld i G x G' → Bd x G' Nx) := by
  refine ⟨fun i m G => i + m = xs.length ∧ Pv i G, ⟨xs.length, Nat.zero_add _, h0⟩, fun i m G1 z => ?_⟩
  obtain ⟨im, p⟩ := z
  cases m with
  | zero =>
    cases (show i = xs.length from im)
    exact .inl ⟨⟨xs, hl _ _ p, Nat.le_refl _⟩, hd _ p⟩
  | succ m =>
    have lt : i < xs.length := by omega
    refine .inr ⟨⟨xs, xs[i], hl _ _ p, List.getElem?_eq_getElem lt⟩, Pv (i + 1), fun G' p' => ⟨m, Nat.lt_succ_self m, by omega, p'⟩, fun x G2 y => ?_⟩
    obtain ⟨rfl, y⟩ := y
    exact hs i x _ _ (y xs (hl _ _ p)) p fun G' p' => p'
/-- a table's text -/
def tabT (a b c e : Int) : Str := Str.empty ++ Str.ofString "Table(((" ++ decT a ++ Str.ofString ", " ++ decT b ++ Str.ofString "), (" ++ decT c ++ Str.ofString ", " ++ decT e ++ Str.ofString ")))"
def spTRepr (C : Addr) : Sp := fun vs H Q _ => ∃ (p : Addr) (a b c e : Int), vs = [.ref p] ∧ TabAt C H p a b c e ∧ (∀ z ∈ [a, b, c, e], z.natAbs < 10 ^ 64) ∧ ∀ H', Same H H' → Q (.str (tabT a b c e)) H'
theorem ok_Table_repr (T : Txt K mg) : FnOk P w K mg base CX0 3 T.f_Table_repr T.d_Table_repr ["self"] (spTRepr T.C_Table) := by
  refine T.F_Table_repr.ok sc_Table_repr (fun vs H Q E h => ?_) (fun cdv A outer s H vs Q E hr h => ?_)
  · obtain ⟨p, a, b, c, e, rfl, _⟩ := h
    rfl
  · obtain ⟨p, a, b, c, e, rfl, ⟨dx, t', hp, u, v, ht, hu, hv⟩, bd, q⟩ := h
    refine ⟨_, (pss_cons (ps_setLc2 (i := 1) (own := [("row", 2), ("entry", 3)]) (vs1 := [3]) (g := (gName 2)) (g1 := (gName 3)) (wi1 := iTup K (tVar 2)) (tt := tYes) (by rfl) sc_Table_repr.nd rfl rfl (sw_true rfl rfl rfl (by decide +kernel)) (pi_tup (pe_fld (pv 0) rfl)) (blkOk_by (own := [("row", 2), ("entry", 3)]) (N := ["self", "texts", "row", "entry"]) (sc := defScope s_Table_repr) (by decide +kernel)) (by decide) (fun _ _ _ _ _ => (pg_name (i := 2) sc_Table_repr.nd rfl (Or.inl rfl))) (fun _ _ _ _ _ => pts_nil) (fun _ _ _ _ _ => (pi_tup (pv 2))) (fun _ _ _ _ _ => (pg_name (i := 3) sc_Table_repr.nd rfl (Or.inl rfl))) (fun _ _ _ _ _ => pts_nil) (fun _ _ _ _ _ => (pe_call (ok_decimal_text T) (hr.mono (by decide)) (by rfl) T.g_decimal_text T.F_decimal_text.kp T.b_decimal_text .nil pass0 (pa_cons (pv 3) pa_nil))))
      (pss_one (ps_ret (pe_joined (.cons pe_str (.cons (pe_fmt (pe_ix ix_list (pv 1) pe_int (fun _ _ => rfl))) (.cons pe_str (.cons (pe_fmt (pe_ix ix_list (pv 1) pe_int (fun _ _ => rfl))) (.cons pe_str (.cons (pe_fmt (pe_ix ix_list (pv 1) pe_int (fun _ _ => rfl))) (.cons pe_str (.cons (pe_fmt (pe_ix ix_list (pv 1) pe_int (fun _ _ => rfl))) (.cons pe_str .nil))))))))))))), ?_⟩
    refine ⟨_, rfl, p, T.C_Table, dx, _, _, rfl, hp, T.cl_Table, T.n_Table_cells, rfl, ?_⟩
    refine ⟨t', rfl, ⟨_, SqT.of ht⟩, fun D hD => walk_tup (K := K) (t := t') (xs := [.ref u, .ref v]) (fun i G => Same H G ∧ G D = some (.lst (([a, b, c, e].take (2 * i)).map fun z => V.str (decT z)))) ⟨same_new hD, upd_same⟩ (fun i G z => SqT.of (z.1 _ _ ht)) ?_ ?_⟩
    · rintro i x G N hx ⟨sG, hG⟩ nx
      obtain ⟨r, y, z, rfl, hr', by', bz, le, et⟩ : ∃ (r : Addr) (y z : Int), x = .ref r ∧ H r = some (.tup [.int y, .int z]) ∧ y.natAbs < 10 ^ 64 ∧ z.natAbs < 10 ^ 64 ∧ i ≤ 1 ∧ [a, b, c, e].take (2 * (i + 1)) = [a, b, c, e].take (2 * i) ++ [y, z] := by
        match i, hx with
        | 0, hx => cases hx; exact ⟨u, a, b, rfl, hu, bd _ (by simp), bd _ (by simp), by omega, rfl⟩
        | 1, hx => cases hx; exact ⟨v, c, e, rfl, hv, bd _ (by simp), bd _ (by simp), by omega, rfl⟩
      refine ⟨rfl, _, rfl, r, rfl, ⟨_, SqT.of (sG _ _ hr')⟩, walk_tup (K := K) (t := r) (xs := [.int y, .int z]) (fun j G => Same H G ∧ G D = some (.lst (([a, b, c, e].take (2 * i) ++ [y, z].take j).map fun z => V.str (decT z)))) ⟨sG, by rw [List.take_zero, List.append_nil]; exact hG⟩ (fun j G z => SqT.of (z.1 _ _ hr')) ?_ ?_⟩
      · rintro j x G2 N2 hx ⟨s2, hD2⟩ nx2
        obtain ⟨m, rfl, bm, jl, em⟩ : ∃ m : Int, x = .int m ∧ m.natAbs < 10 ^ 64 ∧ j ≤ 1 ∧ [y, z].take (j + 1) = [y, z].take j ++ [m] := by
          match j, hx with
          | 0, hx => cases hx; exact ⟨y, rfl, by', by omega, rfl⟩
          | 1, hx => cases hx; exact ⟨z, rfl, bz, by omega, rfl⟩
        refine ⟨rfl, _, rfl, m, rfl, bm, fun G3 s3 => ⟨_, s3 _ _ hD2, ?_, nx2 _ ⟨fun o w q => (upd_ne (ne_of_none q hD)).trans (s3 _ _ (s2 _ _ q)), ?_⟩⟩⟩
        · have l1 := List.length_take_le' (2 * i) [a, b, c, e]
          have l2 := List.length_take_le' j [y, z]
          rw [List.length_map, List.length_append]
          exact small1000 (by have : [a, b, c, e].length = 4 := rfl; have : [y, z].length = 2 := rfl; omega)
        · rw [upd_same, em]
          simp only [List.map_append, List.append_assoc]
          rfl
      · rintro G2 ⟨s2, hD2⟩
        exact nx _ ⟨s2, by rw [et]; exact hD2⟩
    · rintro G ⟨sG, hG⟩
      have hG : G D = some (.lst [.str (decT a), .str (decT b), .str (decT c), .str (decT e)]) := hG
      have ga := (text_len (bd a (by simp))).2
      have gb := (text_len (bd b (by simp))).2
      have gc := (text_len (bd c (by simp))).2
      have ge := (text_len (bd e (by simp))).2
      have l1 : (Str.ofString "Table(((").length = 8 := by decide +kernel
      have l2 : (Str.ofString ", ").length = 2 := by decide +kernel
      have l3 : (Str.ofString "), (").length = 4 := by decide +kernel
      have l4 : (Str.ofString ")))").length = 3 := by decide +kernel
      have l0 : Str.empty.length = 0 := by decide +kernel
      have sz : sizeLine = 16777216 := rfl
      refine ⟨_, rfl, ?_, _, rfl, D, _, 0, _, rfl, rfl, SqL.of hG, atI_nat (j := 0) rfl, .inl ⟨_, rfl, by omega, _, rfl, ?_, _, rfl, ?_, _, rfl, D, _, 1, _, rfl, rfl, SqL.of hG, atI_nat (j := 1) rfl, .inl ⟨_, rfl, by omega, _, rfl, ?_,
        _, rfl, ?_, _, rfl, D, _, 2, _, rfl, rfl, SqL.of hG, atI_nat (j := 2) rfl, .inl ⟨_, rfl, by omega, _, rfl, ?_, _, rfl, ?_, _, rfl, D, _, 3, _, rfl, rfl, SqL.of hG, atI_nat (j := 3) rfl, .inl ⟨_, rfl, by omega, _, rfl, ?_, _, rfl, ?_, q _ sG⟩⟩⟩⟩⟩
      all_goals
        simp only [Str.length_append, l0, l1, l2, l3, l4, sz]
        omega
end
/-! ### the law's own text of a table -/
theorem tuple2 (x y : Str) : tupleText [x, y] = Str.ofString "(" ++ (x ++ Str.ofString ", " ++ y) ++ Str.ofString ")" := rfl
theorem shown_tab (a b c e : Int) : Str.ofString "Table(" ++ (PyData.tuple [.tuple [.int a, .int b], .tuple [.int c, .int e]]).shown ++ Str.ofString ")" = tabT a b c e := by
  have e1 : Str.empty ++ Str.ofString "Table(((" = Str.ofString "Table(" ++ Str.ofString "(" ++ Str.ofString "(" := by kernel_rfl
  have e2 : Str.ofString "), (" = Str.ofString ")" ++ Str.ofString ", " ++ Str.ofString "(" := by kernel_rfl
  have e3 : Str.ofString ")))" = Str.ofString ")" ++ Str.ofString ")" ++ Str.ofString ")" := by kernel_rfl
  unfold tabT decT
  rw [e1, e2, e3]
  simp only [PyData.shown, PyData.shownAll, tuple2, Str.append_assoc]
theorem tabT_len {a b c e : Int} (bd : ∀ z ∈ [a, b, c, e], z.natAbs < 10 ^ 64) : (tabT a b c e).length ≤ 299 := by
  have ga := (text_len (bd a (by simp))).2
  have gb := (text_len (bd b (by simp))).2
  have gc := (text_len (bd c (by simp))).2
  have ge := (text_len (bd e (by simp))).2
  have l1 : (Str.ofString "Table(((").length = 8 := by decide +kernel
  have l2 : (Str.ofString ", ").length = 2 := by decide +kernel
  have l3 : (Str.ofString "), (").length = 4 := by decide +kernel
  have l4 : (Str.ofString ")))").length = 3 := by decide +kernel
  have l0 : Str.empty.length = 0 := by decide +kernel
  unfold tabT
  simp only [Str.length_append, l0, l1, l2, l3, l4]
  omega
section
variable {base : Heap} {K : PySem.W.Frag} {mg : Str → Option Value} {P : Program} {w : World}
def spShown (C : Addr) : Sp := fun vs H Q _ => ∃ (p : Addr) (a b c e : Int), vs = [.ref p] ∧ TabAt C H p a b c e ∧ (∀ z ∈ [a, b, c, e], z.natAbs < 10 ^ 64) ∧ Q (.str (tabT a b c e)) H
theorem ok_shown (T : Txt K mg) : FnG P w K mg base 3 T.f_shown T.d_shown ["_law_table"] (spShown T.C_Table) := by
  obtain ⟨oc, od, kV, doc, pm, an, cdv, ct, osl, eT, lk, cd⟩ := T.F_shown.ex
  refine ⟨fun vs H Q E h => ?_, fun A outer s H us vs Q hr gd e0 hb r h => ?_⟩
  · obtain ⟨p, a, b, c, e, rfl, _⟩ := h
    rfl
  · obtain ⟨p, a, b, c, e, rfl, hT, bd, q⟩ := h
    rw [eT] at hb lk
    refine LamX.run_ofS lk cd sc_shown hr e0 hb r rfl fun hr => ?_
    refine ⟨_, PSs.nox (pss_one (ps_ret (pe_op op_add_str (pe_op op_add_str pe_str (pe_callTy (call_strT gd (Nat.lt_of_le_of_lt (Nat.add_le_add_left (by decide) _) hr.units)) (by rfl) T.n_str (by decide +kernel) (pa_cons (pe_meth0 (pv 0) T.cl_Table T.m_Table_rows (ok_Table_rows T) (hr.mono (by decide)) T.b_Table_rows .nil pass0) pa_nil))) pe_str))), ?_⟩
    obtain ⟨dx, t', hp, _⟩ := id hT
    have L := congrArg Str.length (shown_tab a b c e)
    have m := tabT_len bd
    have l5 : (Str.ofString "Table(").length = 6 := by decide +kernel
    have l6 : (Str.ofString ")").length = 1 := by decide +kernel
    have sz : sizeLine = 16777216 := rfl
    rw [Str.length_append, Str.length_append, l5, l6] at L
    refine ⟨_, rfl, p, dx, _, rfl, hp, rfl, p, a, b, c, e, rfl, hT, fun t ht => ⟨t, _, rfl, ht.dp, ?_, ?_, ?_, ?_, _, _, rfl, rfl, ?_, _, _, rfl, rfl, ?_, ?_⟩⟩
    · simp [PyData.showable, PyData.showableAll, (text_len (bd a (by simp))).1, (text_len (bd b (by simp))).1, (text_len (bd c (by simp))).1, (text_len (bd e (by simp))).1]
    · simp [PyData.hasDict, PyData.hasDictAll]
    · simp [PyData.depth, PyData.depthAll]
    · rw [sz]
      omega
    · rw [l5, sz]
      omega
    · rw [Str.length_append, l5, l6, sz]
      omega
    · rw [shown_tab]
      exact q
end
/-! ### the draw of four entries -/
section
variable {base : Heap} {K : PySem.W.Frag} {mg : Str → Option Value} {P : Program} {w : World}
def spEntries : Sp := fun vs H Q _ => ∃ b sb : Addr, vs = [.ref b] ∧ Bag H b sb ∧ ∀ (t : Addr) (H' : Hp) (x y z u : Int), (∀ m ∈ [x, y, z, u], m.natAbs ≤ 10 ^ 18) → H' t = some (.tup [.int x, .int y, .int z, .int u]) → Bag H' b sb → Keep b H H' → Q (.ref t) H'
theorem ok_any_entries (T : Txt K mg) : FnOk P w K mg base CX0 4 T.f_any_entries T.d_any_entries ["_law_bag"] spEntries := by
  refine T.F_any_entries.ok sc_any_entries (fun vs H Q E h => ?_) (fun cdv A outer s H vs Q E hr h => ?_)
  · obtain ⟨b, sb, rfl, _⟩ := h
    rfl
  · obtain ⟨b, sb, rfl, B, q⟩ := h
    refine ⟨_, PSs.nox (pss_cons (ps_set (i := 1) sc_any_entries.nd rfl (Or.inl rfl) (pe_lst pa_nil))
      (pss_cons (ps_for PassesOwn.never rfl (pi_range1 (by rfl) T.n_range (pa_cons pe_int pa_nil)) (pg_name (i := 2) sc_any_entries.nd rfl (Or.inl rfl)) (pss_one (ps_expr (pe_bm PySem.F.plainAttrs_list PySem.F.slot_list_append PySem.F.type_list_append mt_append (pv 1) (pa_cons (pe_call (ok_of T) (hr.mono (by decide)) (by rfl) T.g_of T.F_of.kp T.b_of .nil pass0 (pa_cons (pv 0) (pa_cons (pe_lst (pa_cons pe_int (pa_cons (pe_op op_sub (pe_call (ok_pull T) (hr.mono (by decide)) (by rfl) T.g_pull T.F_pull.kp T.b_pull .nil pass0 (pa_cons (pv 0) (pa_cons pe_int pa_nil))) pe_int) (pa_cons (pe_call (ok_a_number T) (hr.mono (by decide)) (by rfl) T.g_a_number T.F_a_number.kp T.b_a_number .nil pass0 (pa_cons (pv 0) pa_nil)) pa_nil)))) pa_nil))) pa_nil)))))
      (pss_one (ps_ret (pe_tup (pa_cons (pe_ix ix_list (pv 1) pe_int (fun _ _ => rfl)) (pa_cons (pe_ix ix_list (pv 1) pe_int (fun _ _ => rfl)) (pa_cons (pe_ix ix_list (pv 1) pe_int (fun _ _ => rfl)) (pa_cons (pe_ix ix_list (pv 1) pe_int (fun _ _ => rfl)) pa_nil))))))))), ?_⟩
    refine ⟨by show 0 ≤ sizeLine; decide, fun L nL => ?_⟩
    have nLb := B.ne nL
    have nLs := B.ne2 nL
    refine ⟨4, rfl, by decide, by decide, for_range (lo := 0) (n := 4) (fun i σ G => ∃ (y2 : Option V) (ns : List Int), σ = [some (.ref b), some (.ref L), y2] ∧ Bag G b sb ∧ Keep b H G ∧ G L = some (.lst (ns.map V.int)) ∧ ns.length = i ∧ ∀ m ∈ ns, m.natAbs ≤ 10 ^ 18) ⟨none, [], rfl, B.new nL, keep_new nL, upd_same, rfl, fun m hm => nomatch hm⟩ ?_ ?_⟩
    · rintro i σ G hi ⟨y2, ns, rfl, BG, kG, hL, len, bd⟩
      refine ⟨_, rfl, .inl ⟨rfl, _, SqL.of hL⟩, _, rfl, _, rfl, b, sb, 5, rfl, BG, by decide, by decide, fun z H1 z0 z1 B1 k1 => ⟨_, _, rfl, rfl, _, rfl, b, sb, rfl, B1, fun x H2 x0 x1 B2 k2 => ⟨by show 3 ≤ sizeLine; decide, fun l nl => ⟨b, sb, l, _, rfl, B2.new nl, upd_same, B2.ne nl, by simp, by simp, fun j v H3 hv B3 k3 => ?_⟩⟩⟩⟩
      have kk := k1.trans (k2.trans ((keep_new nl).trans k3))
      have hL3 := kk _ _ nLb hL
      obtain ⟨m, rfl, bm⟩ : ∃ m : Int, v = .int m ∧ m.natAbs ≤ 10 ^ 18 := by
        have hm := List.mem_of_getElem? hv
        simp only [List.mem_cons, List.not_mem_nil, or_false] at hm
        rcases hm with rfl | rfl | rfl
        · exact ⟨0, rfl, by decide⟩
        · exact ⟨_, rfl, by omega⟩
        · exact ⟨_, rfl, by omega⟩
      refine ⟨L, _, _, rfl, rfl, hL3, ?_, _, ns ++ [m], rfl, B3.put nLb nLs, ?_, ?_, ?_, ?_⟩
      · rw [List.length_map]
        exact small1000 (by omega)
      · exact fun o u ne e => (upd_ne (ne_of_none e nL)).trans ((kG.trans kk) o u ne e)
      · rw [upd_same, List.map_append]
        rfl
      · rw [List.length_append, len]
        rfl
      · intro n hn
        rcases List.mem_append.mp hn with hn | hn
        · exact bd n hn
        · rw [List.mem_singleton.mp hn]
          exact bm
    · rintro σ G ⟨y2, ns, rfl, BG, kG, hL, len, bd⟩
      match ns, len with
      | [x, y, z, u], _ =>
        refine ⟨_, rfl, L, _, 0, _, rfl, rfl, SqL.of hL, atI_nat (j := 0) rfl, _, rfl, L, _, 1, _, rfl, rfl, SqL.of hL, atI_nat (j := 1) rfl, _, rfl, L, _, 2, _, rfl, rfl, SqL.of hL, atI_nat (j := 2) rfl, _, rfl, L, _, 3, _, rfl, rfl, SqL.of hL, atI_nat (j := 3) rfl, by show 4 ≤ sizeLine; decide, fun t nt => ?_⟩
        exact q t _ x y z u bd upd_same (BG.new nt) (kG.trans (keep_new nt))
theorem CellsAt.putL {H : Hp} {t L : Addr} {a b c e : Int} {xs : List V} {o : HO} (h : CellsAt H t a b c e) (hL : H L = some (.lst xs)) : CellsAt (upd H L o) t a b c e := by
  obtain ⟨u, v, h1, h2, h3⟩ := h
  have far : ∀ {p : Addr} {ys : List V}, H p = some (.tup ys) → p ≠ L := fun z e => by
    rw [e, hL] at z
    cases z
  exact ⟨u, v, (upd_ne (far h1)).trans h1, (upd_ne (far h2)).trans h2, (upd_ne (far h3)).trans h3⟩
theorem TabAt.putL {C : Addr} {H : Hp} {p L : Addr} {a b c e : Int} {xs : List V} {o : HO} (h : TabAt C H p a b c e) (hL : H L = some (.lst xs)) : TabAt C (upd H L o) p a b c e := by
  obtain ⟨dx, t, h1, h2⟩ := h
  refine ⟨dx, t, (upd_ne fun e => ?_).trans h1, h2.putL hL⟩
  rw [e, hL] at h1
  cases h1
theorem lk_lst {H : Hp} {l m : Addr} {xs ys : List V} {k : Nat} (h1 : H l = some (.lst xs)) (h2 : H m = some (.lst ys)) (hl : xs.length = ys.length) (hn : xs.length ≤ 1000) (al : ∀ (i : Nat) (x y : V), xs[i]? = some x → ys[i]? = some y → Lk H k x y) : Lk H (k + 1) (.ref l) (.ref m) :=
  .inr ⟨l, m, xs, ys, rfl, rfl, .inr ⟨h1, h2⟩, hl, hn, al⟩
theorem CellsAt.lk {H : Hp} {s t : Addr} {a b c e : Int} (h : CellsAt H s a b c e) (g : CellsAt H t a b c e) : Lk H 2 (.ref s) (.ref t) := by
  obtain ⟨u, v, h1, h2, h3⟩ := h
  obtain ⟨u', v', g1, g2, g3⟩ := g
  refine .inr ⟨s, t, _, _, rfl, rfl, .inl ⟨h1, g1⟩, rfl, by show 2 ≤ 1000; decide, fun i x y hx hy => ?_⟩
  match i, hx, hy with
  | 0, hx, hy =>
    cases hx
    cases hy
    refine .inr ⟨u, u', _, _, rfl, rfl, .inl ⟨h2, g2⟩, rfl, by show 2 ≤ 1000; decide, fun i x y hx hy => ?_⟩
    match i, hx, hy with
    | 0, hx, hy => cases hx; cases hy; exact .inl ⟨_, rfl, rfl⟩
    | 1, hx, hy => cases hx; cases hy; exact .inl ⟨_, rfl, rfl⟩
  | 1, hx, hy =>
    cases hx
    cases hy
    refine .inr ⟨v, v', _, _, rfl, rfl, .inl ⟨h3, g3⟩, rfl, by show 2 ≤ 1000; decide, fun i x y hx hy => ?_⟩
    match i, hx, hy with
    | 0, hx, hy => cases hx; cases hy; exact .inl ⟨_, rfl, rfl⟩
    | 1, hx, hy => cases hx; cases hy; exact .inl ⟨_, rfl, rfl⟩
theorem w9000 {m : Int} (h : m.natAbs ≤ 10 ^ 18) : m.natAbs < 2 ^ 9000 := Nat.lt_of_lt_of_le (show m.natAbs < 2 ^ 64 by omega) (Nat.pow_le_pow_right (by decide) (by decide))
theorem made4 {H : Hp} {a1 a2 a3 : Addr} {x y z u : Int} (n1 : H a1 = none) (n2 : (upd H a1 (.tup [.int x, .int y])) a2 = none) (n3 : (upd (upd H a1 (.tup [.int x, .int y])) a2 (.tup [.int z, .int u])) a3 = none) :
    Same H (upd (upd (upd H a1 (.tup [.int x, .int y])) a2 (.tup [.int z, .int u])) a3 (.tup [.ref a1, .ref a2])) ∧ CellsAt (upd (upd (upd H a1 (.tup [.int x, .int y])) a2 (.tup [.int z, .int u])) a3 (.tup [.ref a1, .ref a2])) a3 x y z u := by
  have d1 := same_new (o := .tup [.int x, .int y]) n1
  have d2 := same_new (o := .tup [.int z, .int u]) n2
  have d3 := same_new (o := .tup [.ref a1, .ref a2]) n3
  exact ⟨d1.trans (d2.trans d3), a1, a2, upd_same, (d2.trans d3) _ _ upd_same, d3 _ _ upd_same⟩
theorem kit_no {T : String} {C : Addr} (ic : PySem.W.isClsIn K C = true) (tw : PySem.W.typeIn K (.ref C) = some (.type "type")) (nl : PySem.W.subIn K (.type T) (.ref C) = some false) : PySem.W.kitOne K (.type T) (.ref C) = some false := by
  unfold PySem.W.isClsIn at ic
  unfold PySem.W.kitOne
  rw [if_neg fun z => by cases z]
  unfold PySem.W.kitCls
  dsimp only
  rw [ic, tw, if_pos (by decide +kernel)]
  exact nl
theorem eqv_flat4 (a b c e a' b' c' e' : Int) : PyData.eqv (.tuple [.int a, .int b, .int c, .int e]) (.tuple [.int a', .int b', .int c', .int e']) = decide (a = a' ∧ b = b' ∧ c = c' ∧ e = e') := by
  simp [PyData.eqv, PyData.eqvAll]
  first | rfl | (by_cases h1 : a = a' <;> by_cases h2 : b = b' <;> by_cases h3 : c = c' <;> by_cases h4 : e = e' <;> simp [h1, h2, h3, h4])
theorem dflat4 {H : Hp} {p : Addr} {x y z u : Int} (h : H p = some (.tup [.int x, .int y, .int z, .int u])) : Dp K H (.ref p) (.tuple [.int x, .int y, .int z, .int u]) := .tup (SqT.of h) (.cons (.int x) (.cons (.int y) (.cons (.int z) (.cons (.int u) .nil))))
theorem any_nil4 (a b c e : Int) : ([a - a, b - b, c - c, e - e].any fun i => i != 0) = false := by
  rw [any4]
  simp
theorem any_z4 (a b c e : Int) : ([a, b, c, e].any fun i => i != 0) = !decide (a = 0 ∧ b = 0 ∧ c = 0 ∧ e = 0) := by
  have h := any4 a b c e 0 0 0 0
  simpa using h
theorem w64 {m : Int} (h : m.natAbs ≤ 10 ^ 18) : m.natAbs < 10 ^ 64 := Nat.lt_of_le_of_lt h (by decide)
theorem ok_law {f : Addr} {fd : FuncData} (F : Fun K "law" "law" s_law f fd) (T : Txt K mg) : AskAt P w K mg base 63 f := by
  obtain ⟨oc, od, kV, doc, pm, an, cdv, ct, osl, eT, lk, cd⟩ := F.ex
  subst eT
  intro s H a ns e0 hS hlen
  refine LamX.run_ofS (k := 14) (us := [.ref a]) (vs := [.ref a]) lk cd sc_law ⟨rfl, by decide, by decide⟩ e0 (.of_eq rfl) (.cons rfl .nil) rfl fun hr => ?_
  have gd : callerA.guards = some [] := rfl
  refine ⟨_, PSs.nox (pss_cons (ps_set (i := 1) sc_law.nd rfl (Or.inl rfl) (pe_call (ok_source T) (hr.mono (by decide)) (by rfl) T.g_source T.F_source.kp T.b_source .nil pass0 (pa_cons (pv 0) pa_nil)))
      (Evl.pss_cut (ps_for PassesOwn.never rfl (pi_range1 (by rfl) T.n_range (pa_cons pe_int pa_nil)) (pg_name (i := 2) sc_law.nd rfl (Or.inl rfl)) (pss_cons (ps_asg (pe_tup (pa_cons (pe_call (ok_any_entries T) (hr.mono (by decide)) (by rfl) T.g_any_entries T.F_any_entries.kp T.b_any_entries .nil pass0 (pa_cons (pv 1) pa_nil)) (pa_cons (pe_call (ok_any_entries T) (hr.mono (by decide)) (by rfl) T.g_any_entries T.F_any_entries.kp T.b_any_entries .nil pass0 (pa_cons (pv 1) pa_nil)) pa_nil))) (pg_tup (by rfl) (pgs_cons (pg_tup (by rfl) (pgs_cons (pg_name (i := 8) sc_law.nd rfl (Or.inl rfl)) (pgs_cons (pg_name (i := 9) sc_law.nd rfl (Or.inl rfl)) (pgs_cons (pg_name (i := 10) sc_law.nd rfl (Or.inl rfl)) (pgs_cons (pg_name (i := 11) sc_law.nd rfl (Or.inl rfl)) pgs_nil))))) (pgs_cons (pg_tup (by rfl) (pgs_cons (pg_name (i := 12) sc_law.nd rfl (Or.inl rfl)) (pgs_cons (pg_name (i := 13) sc_law.nd rfl (Or.inl rfl)) (pgs_cons (pg_name (i := 14) sc_law.nd rfl (Or.inl rfl)) (pgs_cons (pg_name (i := 15) sc_law.nd rfl (Or.inl rfl)) pgs_nil))))) pgs_nil))))
      (pss_cons (ps_par3 (i := 5) (j := 6) (l := 7) (by rfl) sc_law.nd rfl rfl rfl (by decide) (by decide) (by decide) rfl rfl rfl (pa_cons (pe_make T.M_Table (ok_Table_init T) (hr.mono (by decide)) (by rfl) T.g_Table T.b_Table_init .nil pass0 (pa_cons (pe_tup (pa_cons (pe_tup (pa_cons (pv 8) (pa_cons (pv 9) pa_nil))) (pa_cons (pe_tup (pa_cons (pv 10) (pa_cons (pv 11) pa_nil))) pa_nil))) pa_nil)) (pa_cons (pe_makeK0 T.M_Table (ok_Table_init T) (hr.mono (by decide)) (by rfl) T.g_Table T.kb_Table_init_rows pass0 (pk_cons (pe_tup (pa_cons (pe_tup (pa_cons (pv 12) (pa_cons (pv 13) pa_nil))) (pa_cons (pe_tup (pa_cons (pv 14) (pa_cons (pv 15) pa_nil))) pa_nil))) pk_nil)) (pa_cons (pe_call (ok_a_number T) (hr.mono (by decide)) (by rfl) T.g_a_number T.F_a_number.kp T.b_a_number .nil pass0 (pa_cons (pv 1) pa_nil)) pa_nil))) (by rfl))
      (pss_cons (ps_set (i := 3) sc_law.nd rfl (Or.inl rfl) (pe_lst (pa_cons (pe_tup (pa_cons (pe_tup (pa_cons (pe_op op_add (pv 8) (pv 12)) (pa_cons (pe_op op_add (pv 9) (pv 13)) pa_nil))) (pa_cons (pe_tup (pa_cons (pe_op op_add (pv 10) (pv 14)) (pa_cons (pe_op op_add (pv 11) (pv 15)) pa_nil))) pa_nil))) (pa_cons (pe_tup (pa_cons (pe_tup (pa_cons (pe_op op_sub (pv 8) (pv 12)) (pa_cons (pe_op op_sub (pv 9) (pv 13)) pa_nil))) (pa_cons (pe_tup (pa_cons (pe_op op_sub (pv 10) (pv 14)) (pa_cons (pe_op op_sub (pv 11) (pv 15)) pa_nil))) pa_nil))) (pa_cons (pe_tup (pa_cons (pe_tup (pa_cons (pe_op op_sub pe_int (pv 8)) (pa_cons (pe_op op_sub pe_int (pv 9)) pa_nil))) (pa_cons (pe_tup (pa_cons (pe_op op_sub pe_int (pv 10)) (pa_cons (pe_op op_sub pe_int (pv 11)) pa_nil))) pa_nil))) pa_nil)))))
      (pss_cons (ps_expr (pe_bm PySem.F.plainAttrs_list PySem.F.slot_list_append PySem.F.type_list_append mt_append (pv 3) (pa_cons (pe_tup (pa_cons (pe_tup (pa_cons (pe_op op_mul (pv 8) (pv 7)) (pa_cons (pe_op op_mul (pv 9) (pv 7)) pa_nil))) (pa_cons (pe_tup (pa_cons (pe_op op_mul (pv 10) (pv 7)) (pa_cons (pe_op op_mul (pv 11) (pv 7)) pa_nil))) pa_nil))) pa_nil)))
      (Evl.pss_cut (ps_if (pt_not (pt_val (pe_call (ok_like T) (hr.mono (by decide)) (by rfl) T.g_like T.F_like.kp T.b_like .nil pass0 (pa_cons (pe_lst (pa_cons (pe_meth0 (pe_op (op_bin T.m_Table_add T.sf_Table (ok_Table_add T) (hr.mono (by decide)) T.b_Table_add pass0) (pv 5) (pv 6)) T.cl_Table T.m_Table_rows (ok_Table_rows T) (hr.mono (by decide)) T.b_Table_rows .nil pass0) (pa_cons (pe_meth0 (pe_op (op_bin T.m_Table_sub T.sf_Table (ok_Table_sub T) (hr.mono (by decide)) T.b_Table_sub pass0) (pv 5) (pv 6)) T.cl_Table T.m_Table_rows (ok_Table_rows T) (hr.mono (by decide)) T.b_Table_rows .nil pass0) (pa_cons (pe_meth0 (pe_un (un_own T.m_Table_neg (ok_Table_neg T) (hr.mono (by decide)) T.b_Table_neg pass0) (pv 5)) T.cl_Table T.m_Table_rows (ok_Table_rows T) (hr.mono (by decide)) T.b_Table_rows .nil pass0) (pa_cons (pe_meth0 (pe_op (op_binI T.m_Table_mul T.sf_Table T.x_Table_rmul T.i_mul T.i_rmul T.is_Table (ok_Table_mul T) (hr.mono (by decide)) T.b_Table_mul pass0) (pv 5) (pv 7)) T.cl_Table T.m_Table_rows (ok_Table_rows T) (hr.mono (by decide)) T.b_Table_rows .nil pass0) pa_nil))))) (pa_cons (pv 3) pa_nil))))) (pss_one (ps_ret pe_bl)) pss_nil)
      (Evl.pss_cut (ps_if (pt_not (pt_val (pe_call (ok_like T) (hr.mono (by decide)) (by rfl) T.g_like T.F_like.kp T.b_like .nil pass0 (pa_cons (pe_lst (pa_cons (pe_getO T.m_Table_getitem T.fi_get (ok_Table_getitem T) (hr.mono (by decide)) T.b_Table_getitem pass0 (pv 5) (pe_tup (pa_cons pe_int (pa_cons pe_int pa_nil)))) (pa_cons (pe_getO T.m_Table_getitem T.fi_get (ok_Table_getitem T) (hr.mono (by decide)) T.b_Table_getitem pass0 (pv 5) (pe_tup (pa_cons pe_int (pa_cons pe_int pa_nil)))) (pa_cons (pe_getO T.m_Table_getitem T.fi_get (ok_Table_getitem T) (hr.mono (by decide)) T.b_Table_getitem pass0 (pv 5) (pe_tup (pa_cons pe_int (pa_cons pe_int pa_nil)))) (pa_cons (pe_getO T.m_Table_getitem T.fi_get (ok_Table_getitem T) (hr.mono (by decide)) T.b_Table_getitem pass0 (pv 5) (pe_tup (pa_cons pe_int (pa_cons pe_int pa_nil)))) pa_nil))))) (pa_cons (pe_lst (pa_cons (pv 8) (pa_cons (pv 9) (pa_cons (pv 10) (pa_cons (pv 11) pa_nil))))) pa_nil))))) (pss_one (ps_ret pe_bl)) pss_nil)
      (Evl.pss_cut (ps_if (pt_not (pt_val (pe_call (ok_like T) (hr.mono (by decide)) (by rfl) T.g_like T.F_like.kp T.b_like .nil pass0 (pa_cons (pe_lst (pa_cons (pe_callTy (call_boolO T.m_Table_bool (ok_Table_bool T) (hr.mono (by decide)) T.b_Table_bool pass0) (by rfl) T.n_bool (by decide +kernel) (pa_cons (pv 5) pa_nil)) (pa_cons (pe_callTy (call_boolO T.m_Table_bool (ok_Table_bool T) (hr.mono (by decide)) T.b_Table_bool pass0) (by rfl) T.n_bool (by decide +kernel) (pa_cons (pe_op (op_bin T.m_Table_sub T.sf_Table (ok_Table_sub T) (hr.mono (by decide)) T.b_Table_sub pass0) (pv 5) (pv 5)) pa_nil)) (pa_cons (pe_callB (call_reprO T.m_Table_repr (ok_Table_repr T) (hr.mono (by decide)) T.b_Table_repr pass0) (by rfl) T.n_repr (by decide +kernel) (pa_cons (pv 5) pa_nil)) pa_nil)))) (pa_cons (pe_lst (pa_cons (pe_cmpR (op_neD hr.units) (pe_tup (pa_cons (pv 8) (pa_cons (pv 9) (pa_cons (pv 10) (pa_cons (pv 11) pa_nil))))) (pe_tup (pa_cons pe_int (pa_cons pe_int (pa_cons pe_int (pa_cons pe_int pa_nil))))) (nomark _)) (pa_cons pe_bl (pa_cons (pe_callG (ok_shown T) (hr.mono (by decide)) gd (by rfl) T.g_shown T.F_shown.kp T.b_shown (pa_cons (pv 5) pa_nil)) pa_nil)))) pa_nil))))) (pss_one (ps_ret pe_bl)) pss_nil)
      (Evl.pss_cut (ps_set (i := 4) sc_law.nd rfl (Or.inl rfl) (pe_cmpR (op_eqD hr.units) (pe_tup (pa_cons (pv 8) (pa_cons (pv 9) (pa_cons (pv 10) (pa_cons (pv 11) pa_nil))))) (pe_tup (pa_cons (pv 12) (pa_cons (pv 13) (pa_cons (pv 14) (pa_cons (pv 15) pa_nil))))) (nomark _)))
      (pss_cons (ps_if (pt_not (pt_val (pe_call (ok_like T) (hr.mono (by decide)) (by rfl) T.g_like T.F_like.kp T.b_like .nil pass0 (pa_cons (pe_lst (pa_cons (pe_cmpR (op_eqO2 T.m_Table_eq (ok_Table_eq T) (hr.mono (by decide)) T.b_Table_eq pass0) (pv 5) (pv 6) (nomark _)) (pa_cons (pe_cmpR (op_neO2 T.m_Table_eq T.mo_Table T.ne_Table (ok_Table_eq T) (hr.mono (by decide)) T.b_Table_eq pass0) (pv 5) (pv 6) (nomark _)) (pa_cons (pe_cmpR (op_eqO2 T.m_Table_eq (ok_Table_eq T) (hr.mono (by decide)) T.b_Table_eq pass0) (pv 5) (pe_make T.M_Table (ok_Table_init T) (hr.mono (by decide)) (by rfl) T.g_Table T.b_Table_init .nil pass0 (pa_cons (pe_tup (pa_cons (pe_tup (pa_cons (pv 8) (pa_cons (pv 9) pa_nil))) (pa_cons (pe_tup (pa_cons (pv 10) (pa_cons (pv 11) pa_nil))) pa_nil))) pa_nil)) (nomark _)) pa_nil)))) (pa_cons (pe_lst (pa_cons (pv 4) (pa_cons (pe_not (pv 4)) (pa_cons pe_bl pa_nil)))) pa_nil))))) (pss_one (ps_ret pe_bl)) pss_nil)
      (pss_one (ps_if (pt_not (pt_val (pe_call (ok_like T) (hr.mono (by decide)) (by rfl) T.g_like T.F_like.kp T.b_like .nil pass0 (pa_cons (pe_lst (pa_cons (pe_cmpR (op_eqOA T.m_Table_eq T.nt_Table (ok_Table_eq T) (hr.mono (by decide)) T.b_Table_eq pass0) (pv 5) (pe_meth0 (pv 5) T.cl_Table T.m_Table_rows (ok_Table_rows T) (hr.mono (by decide)) T.b_Table_rows .nil pass0) (nomark _)) (pa_cons (pe_cmpR (op_eqOA T.m_Table_eq T.nn_Table (ok_Table_eq T) (hr.mono (by decide)) T.b_Table_eq pass0) (pv 5) pe_non (nomark _)) (pa_cons (pe_cmpR (op_eqOA T.m_Table_eq T.is_Table (ok_Table_eq T) (hr.mono (by decide)) T.b_Table_eq pass0) (pv 5) pe_int (nomark _)) (pa_cons (pe_meth0 (pv 5) T.cl_Table T.m_Table_rows (ok_Table_rows T) (hr.mono (by decide)) T.b_Table_rows .nil pass0) pa_nil))))) (pa_cons (pe_lst (pa_cons pe_bl (pa_cons pe_bl (pa_cons pe_bl (pa_cons (pe_tup (pa_cons (pe_tup (pa_cons (pv 8) (pa_cons (pv 9) pa_nil))) (pa_cons (pe_tup (pa_cons (pv 10) (pa_cons (pv 11) pa_nil))) pa_nil))) pa_nil))))) pa_nil))))) (pss_one (ps_ret pe_bl)) pss_nil))))))))))))
      (pss_one (ps_ret (pe_and (pe_cmpR (op_eqO2 T.m_Table_eq (ok_Table_eq T) (hr.mono (by decide)) T.b_Table_eq pass0) (pe_make0 T.M_Table (ok_Table_init T) (hr.mono (by decide)) (by rfl) T.g_Table T.b0_Table_init T.v0_Table_init pass0) (pe_make T.M_Table (ok_Table_init T) (hr.mono (by decide)) (by rfl) T.g_Table T.b_Table_init .nil pass0 (pa_cons (pe_tup (pa_cons (pe_tup (pa_cons pe_int (pa_cons pe_int pa_nil))) (pa_cons (pe_tup (pa_cons pe_int (pa_cons pe_int pa_nil))) pa_nil))) pa_nil)) (nomark _)) (pe_and (pe_not (pe_callTy (call_boolO T.m_Table_bool (ok_Table_bool T) (hr.mono (by decide)) T.b_Table_bool pass0) (by rfl) T.n_bool (by decide +kernel) (pa_cons (pe_make0 T.M_Table (ok_Table_init T) (hr.mono (by decide)) (by rfl) T.g_Table T.b0_Table_init T.v0_Table_init pass0) pa_nil))) (pe_one (pe_cmpR op_eq (pe_callB (call_reprO T.m_Table_repr (ok_Table_repr T) (hr.mono (by decide)) T.b_Table_repr pass0) (by rfl) T.n_repr (by decide +kernel) (pa_cons (pe_make0 T.M_Table (ok_Table_init T) (hr.mono (by decide)) (by rfl) T.g_Table T.b0_Table_init T.v0_Table_init pass0) pa_nil)) pe_str (nomark _))))))))), ?_⟩
  refine ⟨_, rfl, a, ns, rfl, hS, hlen, fun b sb H1 nb s1 B1 => ?_⟩
  refine ⟨fun σ H' => σ[0]? = σ[0]?, ?_, ?_⟩
  case refine_2 =>
    intro σ H' _
    refine mk_tab (K := K) T.z0_Table_init.cells fun p1 G1 n1 s1 h1 => ?_
    refine ⟨by show 2 ≤ sizeLine; decide, fun u2 m1 => ⟨by show 2 ≤ sizeLine; decide, fun v2 m2 => ⟨by show 2 ≤ sizeLine; decide, fun w2 m3 => ?_⟩⟩⟩
    have d1 := same_new (o := .tup [.int 0, .int 0]) m1
    have d2 := same_new (o := .tup [.int 0, .int 0]) m2
    have d3 := same_new (o := .tup [.ref u2, .ref v2]) m3
    refine mk_tab (K := K) ⟨w2, u2, v2, rfl, SqT.of upd_same, SqT.of ((d2.trans d3) _ _ upd_same), SqT.of (d3 _ _ upd_same)⟩ fun p2 G2 n2 s2 h2 => ?_
    have h1' := h1.same ((d1.trans (d2.trans d3)).trans s2)
    obtain ⟨e1, c1, i1, _⟩ := id h1'
    obtain ⟨e2, c2, i2, _⟩ := id h2
    refine ⟨p1, e1, _, p2, e2, _, rfl, rfl, i1, i2, p1, .ref p2, _, _, _, _, rfl, h1', .inl ⟨p2, _, _, _, _, rfl, h2, _, rfl, ?_⟩⟩
    rw [if_pos (by decide)]
    refine mk_tab (K := K) T.z0_Table_init.cells fun p3 G3 n3 s3 h3 => ?_
    obtain ⟨e3, c3, i3, _⟩ := id h3
    refine ⟨p3, e3, _, rfl, i3, p3, _, _, _, _, rfl, h3, fun G4 s4 => ⟨_, rfl, _, rfl, _, rfl, ?_⟩⟩
    rw [if_pos (by decide)]
    refine mk_tab (K := K) T.z0_Table_init.cells fun p4 G5 n5 s5 h5 => ?_
    obtain ⟨e5, c5, i5, _⟩ := id h5
    refine ⟨p4, e5, _, rfl, i5, p4, _, _, _, _, rfl, h5, fun z hz => ?_, fun G6 s6 => ⟨_, rfl, rfl, ?_⟩⟩
    · simp only [List.mem_cons, List.not_mem_nil, or_false, or_self] at hz
      rw [hz]
      decide
    · have e : tabT 0 0 0 0 = Str.ofString "Table(((0, 0), (0, 0)))" := by kernel_rfl
      rw [e, decide_eq_true rfl]
  refine ⟨6, rfl, by decide, by decide, for_range (lo := 0) (n := 6) (fun i σ H' => ∃ y2 y3 y4 y5 y6 y7 y8 y9 y10 y11 y12 y13 y14 y15, σ = [some (.ref a), some (.ref b), y2, y3, y4, y5, y6, y7, y8, y9, y10, y11, y12, y13, y14, y15] ∧ Bag H' b sb) ⟨none, none, none, none, none, none, none, none, none, none, none, none, none, none, rfl, B1⟩ ?_ fun _ _ _ => rfl⟩
  rintro i σ H2 hi ⟨y2, y3, y4, y5, y6, y7, y8, y9, y10, y11, y12, y13, y14, y15, rfl, B2⟩
  refine ⟨_, rfl, b, sb, rfl, B2, fun t1 H3 x1 x2 x3 x4 bx h3 B3 k3 => ⟨_, rfl, b, sb, rfl, B3, fun t2 H4 z1 z2 z3 z4 bz h4 B4 k4 => ⟨by show 2 ≤ sizeLine; decide, fun t0 nt0 => ?_⟩⟩⟩
  have e0 := same_new (o := .tup [.ref t1, .ref t2]) nt0
  have h3 := e0 _ _ (k4 _ _ (B3.tup h3) h3)
  have h4 := e0 _ _ h4
  have B5 := B4.same e0
  refine ⟨t0, _, rfl, SqT.of upd_same, rfl, .ref t1, _, rfl, t1, _, rfl, SqT.of h3, rfl, .int x1, _, rfl, .int x2, _, rfl, .int x3, _, rfl, .int x4, _, rfl, rfl, .ref t2, _, rfl, t2, _, rfl, SqT.of h4, rfl, .int z1, _, rfl, .int z2, _, rfl, .int z3, _, rfl, .int z4, _, rfl, rfl, rfl, ?_⟩
  clear h3 h4 B2 B3 B4 k3 k4
  generalize upd H4 t0 (.tup [.ref t1, .ref t2]) = H5 at B5
  refine ⟨_, rfl, _, rfl, by show 2 ≤ sizeLine; decide, fun u1 n1 => ⟨_, rfl, _, rfl, by show 2 ≤ sizeLine; decide, fun v1 n2 => ⟨by show 2 ≤ sizeLine; decide, fun w1 n3 => ?_⟩⟩⟩
  have d1 := same_new (o := .tup [.int x1, .int x2]) n1
  have d2 := same_new (o := .tup [.int x3, .int x4]) n2
  have d3 := same_new (o := .tup [.ref u1, .ref v1]) n3
  refine mk_tab (K := K) ⟨w1, u1, v1, rfl, SqT.of upd_same, SqT.of ((d2.trans d3) _ _ upd_same), SqT.of (d3 _ _ upd_same)⟩ fun p H6 np sp hp => ?_
  have B6 := B5.same ((d1.trans (d2.trans d3)).trans sp)
  clear d1 d2 d3 n1 n2 n3 sp np B5
  refine ⟨_, rfl, _, rfl, by show 2 ≤ sizeLine; decide, fun u2 n1 => ⟨_, rfl, _, rfl, by show 2 ≤ sizeLine; decide, fun v2 n2 => ⟨by show 2 ≤ sizeLine; decide, fun w2 n3 => ⟨rfl, rfl, ?_⟩⟩⟩⟩
  have d1 := same_new (o := .tup [.int z1, .int z2]) n1
  have d2 := same_new (o := .tup [.int z3, .int z4]) n2
  have d3 := same_new (o := .tup [.ref u2, .ref v2]) n3
  refine mk_tab (K := K) ⟨w2, u2, v2, rfl, SqT.of upd_same, SqT.of ((d2.trans d3) _ _ upd_same), SqT.of (d3 _ _ upd_same)⟩ fun q H7 nq sq hq => ?_
  have B7 := B6.same ((d1.trans (d2.trans d3)).trans sq)
  have hp := hp.same ((d1.trans (d2.trans d3)).trans sq)
  clear d1 d2 d3 n1 n2 n3 sq nq B6
  refine ⟨_, rfl, b, sb, rfl, B7, fun n H8 m0 m1 B8 k8 => ⟨_, _, _, rfl, ?_⟩⟩
  have hp := hp.keep B7 k8
  have hq := hq.keep B7 k8
  clear B7 k8
  have bx1 := bx x1 (by simp)
  have bx2 := bx x2 (by simp)
  have bx3 := bx x3 (by simp)
  have bx4 := bx x4 (by simp)
  have bz1 := bz z1 (by simp)
  have bz2 := bz z2 (by simp)
  have bz3 := bz z3 (by simp)
  have bz4 := bz z4 (by simp)
  -- what is due
  refine ⟨_, rfl, _, rfl, _, _, rfl, rfl, _, rfl, _, rfl, _, _, rfl, rfl, by show 2 ≤ sizeLine; decide, fun a1 n1 => ⟨_, rfl, _, rfl, _, _, rfl, rfl, _, rfl, _, rfl, _, _, rfl, rfl, by show 2 ≤ sizeLine; decide, fun a2 n2 => ⟨by show 2 ≤ sizeLine; decide, fun t3 n3 => ?_⟩⟩⟩
  obtain ⟨st3, ct3⟩ := made4 n1 n2 n3
  clear n1 n2 n3
  generalize (upd (upd (upd H8 a1 (.tup [.int (x1 + z1), .int (x2 + z2)])) a2 (.tup [.int (x3 + z3), .int (x4 + z4)])) t3 (.tup [.ref a1, .ref a2])) = H9 at st3 ct3 ⊢
  refine ⟨_, rfl, _, rfl, _, _, rfl, rfl, _, rfl, _, rfl, _, _, rfl, rfl, by show 2 ≤ sizeLine; decide, fun a1 n1 => ⟨_, rfl, _, rfl, _, _, rfl, rfl, _, rfl, _, rfl, _, _, rfl, rfl, by show 2 ≤ sizeLine; decide, fun a2 n2 => ⟨by show 2 ≤ sizeLine; decide, fun t4 n3 => ?_⟩⟩⟩
  obtain ⟨st4, ct4⟩ := made4 n1 n2 n3
  clear n1 n2 n3
  generalize (upd (upd (upd H9 a1 (.tup [.int (x1 - z1), .int (x2 - z2)])) a2 (.tup [.int (x3 - z3), .int (x4 - z4)])) t4 (.tup [.ref a1, .ref a2])) = H10 at st4 ct4 ⊢
  refine ⟨_, rfl, _, _, rfl, rfl, _, rfl, _, _, rfl, rfl, by show 2 ≤ sizeLine; decide, fun a1 n1 => ⟨_, rfl, _, _, rfl, rfl, _, rfl, _, _, rfl, rfl, by show 2 ≤ sizeLine; decide, fun a2 n2 => ⟨by show 2 ≤ sizeLine; decide, fun t5 n3 => ?_⟩⟩⟩
  obtain ⟨st5, ct5⟩ := made4 n1 n2 n3
  clear n1 n2 n3
  generalize (upd (upd (upd H10 a1 (.tup [.int (0 - x1), .int (0 - x2)])) a2 (.tup [.int (0 - x3), .int (0 - x4)])) t5 (.tup [.ref a1, .ref a2])) = H11 at st5 ct5 ⊢
  refine ⟨by show 3 ≤ sizeLine; decide, fun L nL => ?_⟩
  have sL := same_new (o := .lst [.ref t3, .ref t4, .ref t5]) nL
  have hL : (upd H11 L (.lst [.ref t3, .ref t4, .ref t5])) L = some (.lst [.ref t3, .ref t4, .ref t5]) := upd_same
  generalize hG : upd H11 L (.lst [.ref t3, .ref t4, .ref t5]) = H12 at sL hL ⊢
  refine ⟨_, rfl, .inl ⟨rfl, _, SqL.of hL⟩, ?_⟩
  refine ⟨_, rfl, _, rfl, _, _, rfl, rfl, .inl ⟨by omega, by omega⟩, _, rfl, _, rfl, _, _, rfl, rfl, .inl ⟨by omega, by omega⟩, by show 2 ≤ sizeLine; decide, fun a1 n1 => ⟨_, rfl, _, rfl, _, _, rfl, rfl, .inl ⟨by omega, by omega⟩, _, rfl, _, rfl, _, _, rfl, rfl, .inl ⟨by omega, by omega⟩, by show 2 ≤ sizeLine; decide, fun a2 n2 => ⟨by show 2 ≤ sizeLine; decide, fun t6 n3 => ?_⟩⟩⟩
  obtain ⟨st6, ct6⟩ := made4 n1 n2 n3
  clear n1 n2 n3
  generalize (upd (upd (upd H12 a1 (.tup [.int (x1 * n), .int (x2 * n)])) a2 (.tup [.int (x3 * n), .int (x4 * n)])) t6 (.tup [.ref a1, .ref a2])) = H13 at st6 ct6 ⊢
  refine ⟨L, _, _, rfl, rfl, st6 _ _ hL, by show 3 < sizeLine; decide, ?_⟩
  have hL13 := st6 _ _ hL
  have up := st3.trans (st4.trans (st5.trans (sL.trans st6)))
  have c3 := ((ct3.same st4).same st5).same (sL.trans st6) |>.putL (o := .lst ([.ref t3, .ref t4, .ref t5] ++ [.ref t6])) hL13
  have c4 := (ct4.same st5).same (sL.trans st6) |>.putL (o := .lst ([.ref t3, .ref t4, .ref t5] ++ [.ref t6])) hL13
  have c5 := ct5.same (sL.trans st6) |>.putL (o := .lst ([.ref t3, .ref t4, .ref t5] ++ [.ref t6])) hL13
  have c6 := ct6.putL (o := .lst ([.ref t3, .ref t4, .ref t5] ++ [.ref t6])) hL13
  have hp := (hp.same up).putL (o := .lst ([.ref t3, .ref t4, .ref t5] ++ [.ref t6])) hL13
  have hq := (hq.same up).putL (o := .lst ([.ref t3, .ref t4, .ref t5] ++ [.ref t6])) hL13
  have nL8 : H8 L = none := (st3.trans (st4.trans st5)).free nL
  have B := ((B8.same up).put (o := .lst ([.ref t3, .ref t4, .ref t5] ++ [.ref t6])) (B8.ne nL8) (B8.ne2 nL8))
  have hD : (upd H13 L (.lst ([.ref t3, .ref t4, .ref t5] ++ [.ref t6]))) L = some (.lst [.ref t3, .ref t4, .ref t5, .ref t6]) := upd_same
  clear ct3 ct4 ct5 ct6 st3 st4 st5 st6 sL hL hL13 up nL nL8 B8
  generalize upd H13 L (.lst ([.ref t3, .ref t4, .ref t5] ++ [.ref t6])) = G at c3 c4 c5 c6 hp hq B hD ⊢
  obtain ⟨dp, cp, ip, _⟩ := id hp
  obtain ⟨dq, cq, iq, _⟩ := id hq
  refine ⟨fun σ H' => ∃ y2 y3 y4, σ = [some (.ref a), some (.ref b), y2, y3, y4, some (.ref p), some (.ref q), some (.int n), some (.int x1), some (.int x2), some (.int x3), some (.int x4), some (.int z1), some (.int z2), some (.int z3), some (.int z4)] ∧ TabAt T.C_Table H' p x1 x2 x3 x4 ∧ TabAt T.C_Table H' q z1 z2 z3 z4 ∧ Bag H' b sb, ?_, ?_⟩
  · refine ⟨_, rfl, _, rfl, p, dp, _, q, dq, _, rfl, rfl, ip, iq, p, q, _, _, _, _, _, _, _, _, rfl, hp, hq, fun r1 G1 nr sr hr1 => ?_⟩
    obtain ⟨d1, e1, i1, _⟩ := id hr1
    refine ⟨r1, d1, _, rfl, i1, rfl, r1, _, _, _, _, rfl, hr1, fun f1 k1 => ?_⟩
    have hp1 := hp.same sr
    have hq1 := hq.same sr
    have bdx : Bd 9000 [x1, x2, x3, x4] := mk4 (w9000 bx1) (w9000 bx2) (w9000 bx3) (w9000 bx4)
    have bdz : Bd 9000 [z1, z2, z3, z4] := mk4 (w9000 bz1) (w9000 bz2) (w9000 bz3) (w9000 bz4)
    refine ⟨_, rfl, _, rfl, p, dp, _, q, dq, _, rfl, rfl, sr _ _ ip, sr _ _ iq, p, q, _, _, _, _, _, _, _, _, rfl, hp1, hq1, bdz, fun r2 G2 n2 s2 hr2 => ?_⟩
    obtain ⟨d2, e2, i2, _⟩ := id hr2
    refine ⟨r2, d2, _, rfl, i2, rfl, r2, _, _, _, _, rfl, hr2, fun f2 k2 => ?_⟩
    have ip2 := s2 _ _ (sr _ _ ip)
    refine ⟨_, rfl, p, dp, _, rfl, ip2, p, _, _, _, _, rfl, hp1.same s2, bdx, fun r3 G3 n3 s3 hr3 => ?_⟩
    obtain ⟨d3, e3, i3, _⟩ := id hr3
    refine ⟨r3, d3, _, rfl, i3, rfl, r3, _, _, _, _, rfl, hr3, fun f3 k3 => ?_⟩
    refine ⟨_, rfl, _, rfl, p, dp, _, n, rfl, rfl, s3 _ _ ip2, p, _, _, _, _, n, rfl, (hp1.same s2).same s3, mk5 bdx (w9000 (by omega)), fun r4 G4 n4 s4 hr4 => ?_⟩
    obtain ⟨d4, e4, i4, _⟩ := id hr4
    refine ⟨r4, d4, _, rfl, i4, rfl, r4, _, _, _, _, rfl, hr4, fun f4 k4 => ⟨by show 4 ≤ sizeLine; decide, fun l nl => ?_⟩⟩
    have el := same_new (o := .lst [.ref f1, .ref f2, .ref f3, .ref f4]) nl
    have sA := sr.trans (s2.trans (s3.trans (s4.trans el)))
    have g1 := (((k1.same s2).same s3).same s4).same el
    have g2 := ((k2.same s3).same s4).same el
    have g3 := (k3.same s4).same el
    have g4 := k4.same el
    have c5' := c5.same sA
    rw [Int.zero_sub, Int.zero_sub, Int.zero_sub, Int.zero_sub] at c5'
    refine ⟨_, rfl, .ref l, .ref L, rfl, lk_lst (k := 2) upd_same (sA _ _ hD) rfl (by show 4 ≤ 1000; decide) ?_, fun H' s' => ⟨true, rfl, iteF ?_⟩⟩
    · intro i x y hx hy
      match i, hx, hy with
      | 0, hx, hy => cases hx; cases hy; exact g1.lk (c3.same sA)
      | 1, hx, hy => cases hx; cases hy; exact g2.lk (c4.same sA)
      | 2, hx, hy => cases hx; cases hy; exact g3.lk c5'
      | 3, hx, hy => cases hx; cases hy; exact g4.lk (c6.same sA)
    · have sz := sA.trans s'
      exact ⟨_, _, _, rfl, hp.same sz, hq.same sz, B.same sz⟩
  clear c3 c4 c5 c6 hp hq B hD ip iq
  rintro σ H8 ⟨y2, y3, y4, rfl, hp, hq, B⟩
  -- the entries
  refine ⟨fun σ H' => ∃ y2 y3 y4, σ = [some (.ref a), some (.ref b), y2, y3, y4, some (.ref p), some (.ref q), some (.int n), some (.int x1), some (.int x2), some (.int x3), some (.int x4), some (.int z1), some (.int z2), some (.int z3), some (.int z4)] ∧ TabAt T.C_Table H' p x1 x2 x3 x4 ∧ TabAt T.C_Table H' q z1 z2 z3 z4 ∧ Bag H' b sb, ?_, ?_⟩
  · obtain ⟨dp, cp, ip, _⟩ := id hp
    refine ⟨_, rfl, by show 2 ≤ sizeLine; decide, fun i1 n1 => ⟨p, dp, _, rfl, (same_new n1) _ _ ip, p, i1, _, _, _, _, 0, 0, rfl, hp.same (same_new n1), SqT.of upd_same, .inl rfl, .inl rfl, ?_⟩⟩
    have s1 := same_new (o := .tup [.int 0, .int 0]) n1
    refine ⟨_, rfl, by show 2 ≤ sizeLine; decide, fun i2 n2 => ⟨p, dp, _, rfl, (s1.trans (same_new n2)) _ _ ip, p, i2, _, _, _, _, 0, 1, rfl, hp.same (s1.trans (same_new n2)), SqT.of upd_same, .inl rfl, .inr rfl, ?_⟩⟩
    have s2 := s1.trans (same_new (o := .tup [.int 0, .int 1]) n2)
    refine ⟨_, rfl, by show 2 ≤ sizeLine; decide, fun i3 n3 => ⟨p, dp, _, rfl, (s2.trans (same_new n3)) _ _ ip, p, i3, _, _, _, _, 1, 0, rfl, hp.same (s2.trans (same_new n3)), SqT.of upd_same, .inr rfl, .inl rfl, ?_⟩⟩
    have s3 := s2.trans (same_new (o := .tup [.int 1, .int 0]) n3)
    refine ⟨_, rfl, by show 2 ≤ sizeLine; decide, fun i4 n4 => ⟨p, dp, _, rfl, (s3.trans (same_new n4)) _ _ ip, p, i4, _, _, _, _, 1, 1, rfl, hp.same (s3.trans (same_new n4)), SqT.of upd_same, .inr rfl, .inr rfl, ?_⟩⟩
    have s4 := s3.trans (same_new (o := .tup [.int 1, .int 1]) n4)
    refine ⟨by show 4 ≤ sizeLine; decide, fun l nl => ?_⟩
    have sl := same_new (o := .lst [.int x1, .int x2, .int x3, .int x4]) nl
    refine ⟨_, rfl, _, rfl, _, rfl, _, rfl, by show 4 ≤ sizeLine; decide, fun m nm => ?_⟩
    have sm := same_new (o := .lst [.int x1, .int x2, .int x3, .int x4]) nm
    refine ⟨.ref l, .ref m, rfl, lk_lst (k := 2) (sm _ _ upd_same) upd_same rfl (by show 4 ≤ 1000; decide) ?_, fun H' s' => ⟨true, rfl, iteF ?_⟩⟩
    · intro i x y hx hy
      cases hx.symm.trans hy
      match i, hx with
      | 0, hx => cases hx; exact .inl (.inl ⟨_, rfl, rfl⟩)
      | 1, hx => cases hx; exact .inl (.inl ⟨_, rfl, rfl⟩)
      | 2, hx => cases hx; exact .inl (.inl ⟨_, rfl, rfl⟩)
      | 3, hx => cases hx; exact .inl (.inl ⟨_, rfl, rfl⟩)
    · have sz := s4.trans (sl.trans (sm.trans s'))
      exact ⟨_, _, _, rfl, hp.same sz, hq.same sz, B.same sz⟩
  clear hp hq B
  rintro σ H9 ⟨y2, y3, y4, rfl, hp, hq, B⟩
  have bdx : Bd 9000 [x1, x2, x3, x4] := mk4 (w9000 bx1) (w9000 bx2) (w9000 bx3) (w9000 bx4)
  have b64 : ∀ z ∈ [x1, x2, x3, x4], z.natAbs < 10 ^ 64 := fun z hz => w64 (bx z hz)
  -- bool and repr
  refine ⟨fun σ H' => ∃ y2 y3 y4, σ = [some (.ref a), some (.ref b), y2, y3, y4, some (.ref p), some (.ref q), some (.int n), some (.int x1), some (.int x2), some (.int x3), some (.int x4), some (.int z1), some (.int z2), some (.int z3), some (.int z4)] ∧ TabAt T.C_Table H' p x1 x2 x3 x4 ∧ TabAt T.C_Table H' q z1 z2 z3 z4 ∧ Bag H' b sb, ?_, ?_⟩
  · obtain ⟨dp, cp, ip, _⟩ := id hp
    refine ⟨_, rfl, p, dp, _, rfl, ip, p, _, _, _, _, rfl, hp, fun G1 s1 => ⟨_, rfl, ?_⟩⟩
    refine ⟨_, rfl, _, rfl, p, dp, _, p, dp, _, rfl, rfl, s1 _ _ ip, s1 _ _ ip, p, p, _, _, _, _, _, _, _, _, rfl, hp.same s1, hp.same s1, bdx, fun r G2 nr s2 hr2 => ?_⟩
    obtain ⟨dr, cr, ir, _⟩ := id hr2
    refine ⟨r, dr, _, rfl, ir, r, _, _, _, _, rfl, hr2, fun G3 s3 => ⟨_, rfl, _, rfl, ?_⟩⟩
    have sA := s1.trans (s2.trans s3)
    refine ⟨p, dp, _, rfl, sA _ _ ip, p, _, _, _, _, rfl, hp.same sA, b64, fun G4 s4 => ⟨_, rfl, by show 3 ≤ sizeLine; decide, fun l nl => ?_⟩⟩
    have sl := same_new (o := .lst [.bl ([x1, x2, x3, x4].any fun i => i != 0), .bl ([x1 - x1, x2 - x2, x3 - x3, x4 - x4].any fun i => i != 0), .str (tabT x1 x2 x3 x4)]) nl
    refine ⟨_, rfl, _, rfl, _, rfl, _, rfl, by show 4 ≤ sizeLine; decide, fun t5 n5 => ⟨by show 4 ≤ sizeLine; decide, fun t6 n6 => ⟨_, _, dflat4 ((same_new n6) _ _ upd_same), dflat4 upd_same, rfl, rfl, ?_⟩⟩⟩
    have s56 := (same_new (o := .tup [.int x1, .int x2, .int x3, .int x4]) n5).trans (same_new (o := .tup [.int 0, .int 0, .int 0, .int 0]) n6)
    have s6 := sA.trans (s4.trans (sl.trans s56))
    refine ⟨_, rfl, p, _, _, _, _, rfl, hp.same s6, b64, by show 3 ≤ sizeLine; decide, fun m nm => ?_⟩
    have sm := same_new (o := .lst [.bl (!PyData.eqv (.tuple [.int x1, .int x2, .int x3, .int x4]) (.tuple [.int 0, .int 0, .int 0, .int 0])), .bl false, .str (tabT x1 x2 x3 x4)]) nm
    refine ⟨.ref l, .ref m, rfl, lk_lst (k := 2) ((s56.trans sm) _ _ upd_same) upd_same rfl (by show 3 ≤ 1000; decide) ?_, fun H' s' => ⟨true, rfl, iteF ?_⟩⟩
    · rw [any_nil4, eqv_flat4, any_z4]
      intro i x y hx hy
      cases hx.symm.trans hy
      match i, hx with
      | 0, hx => cases hx; exact .inl (.inr (.inl ⟨_, rfl, rfl⟩))
      | 1, hx => cases hx; exact .inl (.inr (.inl ⟨_, rfl, rfl⟩))
      | 2, hx => cases hx; exact .inl (.inr (.inr (.inr ⟨_, rfl, rfl⟩)))
    · have sz := s6.trans (sm.trans s')
      exact ⟨_, _, _, rfl, hp.same sz, hq.same sz, B.same sz⟩
  clear hp hq B
  rintro σ H10 ⟨y2, y3, y4, rfl, hp, hq, B⟩
  -- whether they are the same
  refine ⟨fun σ H' => ∃ y2 y3, σ = [some (.ref a), some (.ref b), y2, y3, some (.bl (decide (x1 = z1 ∧ x2 = z2 ∧ x3 = z3 ∧ x4 = z4))), some (.ref p), some (.ref q), some (.int n), some (.int x1), some (.int x2), some (.int x3), some (.int x4), some (.int z1), some (.int z2), some (.int z3), some (.int z4)] ∧ TabAt T.C_Table H' p x1 x2 x3 x4 ∧ TabAt T.C_Table H' q z1 z2 z3 z4 ∧ Bag H' b sb, ?_, ?_⟩
  · refine ⟨_, rfl, _, rfl, _, rfl, _, rfl, by show 4 ≤ sizeLine; decide, fun t5 n5 => ⟨_, rfl, _, rfl, _, rfl, _, rfl, by show 4 ≤ sizeLine; decide, fun t6 n6 => ⟨_, _, dflat4 ((same_new n6) _ _ upd_same), dflat4 upd_same, rfl, rfl, ?_⟩⟩⟩
    have s6 := (same_new (o := .tup [.int x1, .int x2, .int x3, .int x4]) n5).trans (same_new (o := .tup [.int z1, .int z2, .int z3, .int z4]) n6)
    rw [eqv_flat4]
    exact ⟨_, _, rfl, hp.same s6, hq.same s6, B.same s6⟩
  clear hp hq B
  rintro σ H11 ⟨y2, y3, rfl, hp, hq, B⟩
  -- == and !=
  obtain ⟨dp, cp, ip, _⟩ := id hp
  obtain ⟨dq, cq, iq, _⟩ := id hq
  refine ⟨_, rfl, _, rfl, p, dp, _, q, dq, _, rfl, rfl, ip, iq, p, .ref q, _, _, _, _, rfl, hp, .inl ⟨q, _, _, _, _, rfl, hq, ?_⟩⟩
  refine ⟨_, rfl, _, rfl, p, dp, _, q, dq, _, rfl, rfl, ip, iq, p, .ref q, _, _, _, _, rfl, hp, .inl ⟨q, _, _, _, _, rfl, hq, _, rfl, ?_⟩⟩
  refine ⟨_, rfl, _, rfl, _, rfl, by show 2 ≤ sizeLine; decide, fun u2 n1 => ⟨_, rfl, _, rfl, by show 2 ≤ sizeLine; decide, fun v2 n2 => ⟨by show 2 ≤ sizeLine; decide, fun w2 n3 => ?_⟩⟩⟩
  have d1 := same_new (o := .tup [.int x1, .int x2]) n1
  have d2 := same_new (o := .tup [.int x3, .int x4]) n2
  have d3 := same_new (o := .tup [.ref u2, .ref v2]) n3
  refine mk_tab (K := K) ⟨w2, u2, v2, rfl, SqT.of upd_same, SqT.of ((d2.trans d3) _ _ upd_same), SqT.of (d3 _ _ upd_same)⟩ fun r G1 nr sr hr1 => ?_
  have s1 := (d1.trans (d2.trans d3)).trans sr
  obtain ⟨dr, cr, ir, _⟩ := id hr1
  refine ⟨p, dp, _, r, dr, _, rfl, rfl, s1 _ _ ip, ir, p, .ref r, _, _, _, _, rfl, hp.same s1, .inl ⟨r, _, _, _, _, rfl, hr1, by show 3 ≤ sizeLine; decide, fun l nl => ?_⟩⟩
  have sl := same_new (o := .lst [.bl (decide (x1 = z1 ∧ x2 = z2 ∧ x3 = z3 ∧ x4 = z4)), .bl (!decide (x1 = z1 ∧ x2 = z2 ∧ x3 = z3 ∧ x4 = z4)), .bl (decide (x1 = x1 ∧ x2 = x2 ∧ x3 = x3 ∧ x4 = x4))]) nl
  refine ⟨_, rfl, _, rfl, _, rfl, by show 3 ≤ sizeLine; decide, fun m nm => ?_⟩
  have sm := same_new (o := .lst [.bl (decide (x1 = z1 ∧ x2 = z2 ∧ x3 = z3 ∧ x4 = z4)), .bl (!decide (x1 = z1 ∧ x2 = z2 ∧ x3 = z3 ∧ x4 = z4)), .bl true]) nm
  refine ⟨.ref l, .ref m, rfl, lk_lst (k := 2) (sm _ _ upd_same) upd_same rfl (by show 3 ≤ 1000; decide) ?_, fun H' s' => ⟨true, rfl, iteF ?_⟩⟩
  · rw [decide_eq_true (show x1 = x1 ∧ x2 = x2 ∧ x3 = x3 ∧ x4 = x4 from ⟨rfl, rfl, rfl, rfl⟩)]
    intro i x y hx hy
    cases hx.symm.trans hy
    match i, hx with
    | 0, hx => cases hx; exact .inl (.inr (.inl ⟨_, rfl, rfl⟩))
    | 1, hx => cases hx; exact .inl (.inr (.inl ⟨_, rfl, rfl⟩))
    | 2, hx => cases hx; exact .inl (.inr (.inl ⟨_, rfl, rfl⟩))
  have sz := s1.trans (sl.trans (sm.trans s'))
  have hp := hp.same sz
  have hq := hq.same sz
  have B := B.same sz
  clear hr1 ip iq ir
  obtain ⟨dp, cp, ip, _⟩ := id hp
  -- other things
  refine ⟨_, rfl, _, rfl, p, dp, _, rfl, ip, rfl, p, _, _, _, _, rfl, hp, fun f1 k1 => ?_⟩
  obtain ⟨g1, g2, k2, _⟩ := id k1
  refine ⟨p, dp, _, rfl, ip, TyX.base (TyOf.tup k2), p, .ref f1, _, _, _, _, rfl, hp, .inr ⟨_, TyX.base (TyOf.tup k2), kit_no T.ic_Table T.tw_Table T.nt_Table, ?_⟩⟩
  refine ⟨_, rfl, p, dp, _, rfl, ip, TyX.base TyOf.non, p, .non, _, _, _, _, rfl, hp, .inr ⟨_, TyX.base TyOf.non, kit_no T.ic_Table T.tw_Table T.nn_Table, ?_⟩⟩
  refine ⟨_, rfl, p, dp, _, rfl, ip, TyX.base (TyOf.int 0), p, .int 0, _, _, _, _, rfl, hp, .inr ⟨_, TyX.base (TyOf.int 0), kit_no T.ic_Table T.tw_Table T.is_Table, ?_⟩⟩
  refine ⟨_, rfl, p, dp, _, rfl, ip, rfl, p, _, _, _, _, rfl, hp, fun f2 k3 => ⟨by show 4 ≤ sizeLine; decide, fun l nl => ?_⟩⟩
  have sl := same_new (o := .lst [.bl false, .bl false, .bl false, .ref f2]) nl
  refine ⟨_, rfl, _, rfl, by show 2 ≤ sizeLine; decide, fun u2 n1 => ⟨_, rfl, _, rfl, by show 2 ≤ sizeLine; decide, fun v2 n2 => ⟨by show 2 ≤ sizeLine; decide, fun w2 n3 => ?_⟩⟩⟩
  obtain ⟨st3, ct3⟩ := made4 n1 n2 n3
  refine ⟨by show 4 ≤ sizeLine; decide, fun m nm => ?_⟩
  have sm := same_new (o := .lst [.bl false, .bl false, .bl false, .ref w2]) nm
  refine ⟨.ref l, .ref m, rfl, lk_lst (k := 2) ((st3.trans sm) _ _ upd_same) upd_same rfl (by show 4 ≤ 1000; decide) ?_, fun H' s' => ⟨true, rfl, iteF ?_⟩⟩
  · intro i x y hx hy
    match i, hx, hy with
    | 0, hx, hy => cases hx; cases hy; exact .inl (.inr (.inl ⟨_, rfl, rfl⟩))
    | 1, hx, hy => cases hx; cases hy; exact .inl (.inr (.inl ⟨_, rfl, rfl⟩))
    | 2, hx, hy => cases hx; cases hy; exact .inl (.inr (.inl ⟨_, rfl, rfl⟩))
    | 3, hx, hy => cases hx; cases hy; exact ((k3.same sl).same (st3.trans sm)).lk (ct3.same sm)
  · exact ⟨_, _, _, _, _, _, _, _, _, _, _, _, _, _, rfl, B.same (sl.trans (st3.trans (sm.trans s')))⟩
end
theorem all_mk {l : PySem.W.OpenLaw} {w : World} {K : PySem.W.Frag} {h : Heap} {mg : Str → Option Value} {fa : Addr} (X : K.In h) (G : h.Ns mainGlobals mg) (hfa : mg "law" = some (.ref fa))
    {C_Table : Addr} (aC_Table : PySem.W.nsIn K mainGlobals "Table" = some (some (.ref C_Table))) (pg_Table : PySem.W.plainGet K C_Table Str.empty = true) (hd_Table : PySem.W.hasDictIn K C_Table = true) (po_Table : PySem.W.plainOver K C_Table = true) (sa_Table : PySem.W.findIn K (.ref C_Table) "__setattr__" = some (some (.builtin "object.__setattr__"))) (mk_Table : PySem.W.makesIn K C_Table = true) (kc_Table : PySem.W.keepIn K (.ref C_Table) = true) (sf_Table : PySem.W.selfFirst K C_Table = true) (nq_Table : PySem.W.noSeq K C_Table = true) (n_Table_cells : PySem.W.findIn K (.ref C_Table) "cells" = some none)
    (mo_Table : PySem.W.mroIn K C_Table (.type "object") = some true) (ne_Table : PySem.W.findIn K (.ref C_Table) "__ne__" = some (some (.builtin "object.__ne__"))) (ca_Table : PySem.W.findIn K (.ref C_Table) "__class__" = some (some (.builtin "object.__class__"))) (hn : PySem.W.specialIn K (.builtin "object.__class__") "__get__" = some (some (.builtin "getset_descriptor.__get__"))) (ht : PySem.W.takesIn K (.builtin "object.__class__") = some true) (x_Table_rmul : PySem.W.findIn K (.ref C_Table) "__rmul__" = some none) (i_mul : PySem.W.findIn K (.type "int") "__mul__" = some (some (.builtin "int.__mul__"))) (i_rmul : PySem.W.findIn K (.type "int") "__rmul__" = some (some (.builtin "int.__rmul__"))) (is_Table : PySem.W.subIn K (.type "int") (.ref C_Table) = some false) (nl_Table : PySem.W.subIn K (.type "list") (.ref C_Table) = some false) (ic_Table : PySem.W.isClsIn K C_Table = true) (tw_Table : PySem.W.typeIn K (.ref C_Table) = some (.type "type"))
    {od0 an0 : Option Addr} {sl0 : Array (Option Value)} {kV0 oc0 dc0 pm0 cd0 ct0 : Value} {f0 : Addr}
    (a0 : PySem.W.nsIn K mainGlobals "decimal_text" = some (some (.ref f0))) (l0 : K.lookup f0 = some ⟨oc0, od0, .func (PySem.W.fnOf "decimal_text" "decimal_text" (defArgs s_decimal_text) (defBody s_decimal_text) (defScope s_decimal_text) .none kV0 dc0 pm0 an0 cd0 ct0), sl0⟩) (c0 : PySem.W.codeIn K cd0 "decimal_text" = true) (k0 : PySem.W.keepIn K (.ref f0) = true)
    {od1 an1 : Option Addr} {sl1 : Array (Option Value)} {kV1 oc1 dc1 pm1 cd1 ct1 : Value} {f1 : Addr}
    (a1 : PySem.W.nsIn K mainGlobals "added" = some (some (.ref f1))) (l1 : K.lookup f1 = some ⟨oc1, od1, .func (PySem.W.fnOf "added" "added" (defArgs s_added) (defBody s_added) (defScope s_added) .none kV1 dc1 pm1 an1 cd1 ct1), sl1⟩) (c1 : PySem.W.codeIn K cd1 "added" = true) (k1 : PySem.W.keepIn K (.ref f1) = true)
    {od2 an2 : Option Addr} {sl2 : Array (Option Value)} {kV2 oc2 dc2 pm2 cd2 ct2 : Value} {f2 : Addr}
    (a2 : PySem.W.nsIn K mainGlobals "scaled" = some (some (.ref f2))) (l2 : K.lookup f2 = some ⟨oc2, od2, .func (PySem.W.fnOf "scaled" "scaled" (defArgs s_scaled) (defBody s_scaled) (defScope s_scaled) .none kV2 dc2 pm2 an2 cd2 ct2), sl2⟩) (c2 : PySem.W.codeIn K cd2 "scaled" = true) (k2 : PySem.W.keepIn K (.ref f2) = true)
    {od3 an3 : Option Addr} {sl3 : Array (Option Value)} {oc3 dc3 pm3 cd3 ct3 : Value} {f3 : Addr} {T3 r03 : Addr} {tc3 : Value} {td3 : Option Addr} {tn3 : Nat} {ts3 : Array (Option Value)} {kV3 : Value}
    (a3 : PySem.W.findIn K (.ref C_Table) "__init__" = some (some (.ref f3))) (i3 : PySem.W.isFn K (.ref f3) = true) (l3 : K.lookup f3 = some ⟨oc3, od3, .func (PySem.W.fnOf "__init__" "Table.__init__" (defArgs s_Table_init) (defBody s_Table_init) (defScope s_Table_init) (.ref T3) kV3 dc3 pm3 an3 cd3 ct3), sl3⟩) (c3 : PySem.W.codeIn K cd3 "Table.__init__" = true) (k3 : PySem.W.keepIn K (.ref f3) = true)
    (t3 : K.lookup T3 = some ⟨tc3, td3, .seq #[.ref r03] tn3, ts3⟩)
    {y31 y32 : Addr} {y3d y3e y3f : Option Addr} {y3m y3n y3o : Nat} {y3s y3t y3u : Array (Option Value)} {y3v y3w y3x y3y : Tok}
    (y3a : K.lookup r03 = some ⟨.type "tuple", y3d, .seq #[.ref y31, .ref y32] y3m, y3s⟩) (y3b : K.lookup y31 = some ⟨.type "tuple", y3e, .seq #[.int 0 y3v, .int 0 y3w] y3n, y3t⟩) (y3c : K.lookup y32 = some ⟨.type "tuple", y3f, .seq #[.int 0 y3x, .int 0 y3y] y3o, y3u⟩)
    {od4 an4 : Option Addr} {sl4 : Array (Option Value)} {oc4 dc4 pm4 cd4 ct4 : Value} {f4 : Addr} {kV4 : Value}
    (a4 : PySem.W.findIn K (.ref C_Table) "rows" = some (some (.ref f4))) (i4 : PySem.W.isFn K (.ref f4) = true) (l4 : K.lookup f4 = some ⟨oc4, od4, .func (PySem.W.fnOf "rows" "Table.rows" (defArgs s_Table_rows) (defBody s_Table_rows) (defScope s_Table_rows) .none kV4 dc4 pm4 an4 cd4 ct4), sl4⟩) (c4 : PySem.W.codeIn K cd4 "Table.rows" = true) (k4 : PySem.W.keepIn K (.ref f4) = true)
    {od5 an5 : Option Addr} {sl5 : Array (Option Value)} {oc5 dc5 pm5 cd5 ct5 : Value} {f5 : Addr} {kV5 : Value}
    (a5 : PySem.W.findIn K (.ref C_Table) "__add__" = some (some (.ref f5))) (i5 : PySem.W.isFn K (.ref f5) = true) (l5 : K.lookup f5 = some ⟨oc5, od5, .func (PySem.W.fnOf "__add__" "Table.__add__" (defArgs s_Table_add) (defBody s_Table_add) (defScope s_Table_add) .none kV5 dc5 pm5 an5 cd5 ct5), sl5⟩) (c5 : PySem.W.codeIn K cd5 "Table.__add__" = true) (k5 : PySem.W.keepIn K (.ref f5) = true)
    {od6 an6 : Option Addr} {sl6 : Array (Option Value)} {oc6 dc6 pm6 cd6 ct6 : Value} {f6 : Addr} {kV6 : Value}
    (a6 : PySem.W.findIn K (.ref C_Table) "__sub__" = some (some (.ref f6))) (i6 : PySem.W.isFn K (.ref f6) = true) (l6 : K.lookup f6 = some ⟨oc6, od6, .func (PySem.W.fnOf "__sub__" "Table.__sub__" (defArgs s_Table_sub) (defBody s_Table_sub) (defScope s_Table_sub) .none kV6 dc6 pm6 an6 cd6 ct6), sl6⟩) (c6 : PySem.W.codeIn K cd6 "Table.__sub__" = true) (k6 : PySem.W.keepIn K (.ref f6) = true)
    {od7 an7 : Option Addr} {sl7 : Array (Option Value)} {oc7 dc7 pm7 cd7 ct7 : Value} {f7 : Addr} {kV7 : Value}
    (a7 : PySem.W.findIn K (.ref C_Table) "__neg__" = some (some (.ref f7))) (i7 : PySem.W.isFn K (.ref f7) = true) (l7 : K.lookup f7 = some ⟨oc7, od7, .func (PySem.W.fnOf "__neg__" "Table.__neg__" (defArgs s_Table_neg) (defBody s_Table_neg) (defScope s_Table_neg) .none kV7 dc7 pm7 an7 cd7 ct7), sl7⟩) (c7 : PySem.W.codeIn K cd7 "Table.__neg__" = true) (k7 : PySem.W.keepIn K (.ref f7) = true)
    {od8 an8 : Option Addr} {sl8 : Array (Option Value)} {oc8 dc8 pm8 cd8 ct8 : Value} {f8 : Addr} {kV8 : Value}
    (a8 : PySem.W.findIn K (.ref C_Table) "__mul__" = some (some (.ref f8))) (i8 : PySem.W.isFn K (.ref f8) = true) (l8 : K.lookup f8 = some ⟨oc8, od8, .func (PySem.W.fnOf "__mul__" "Table.__mul__" (defArgs s_Table_mul) (defBody s_Table_mul) (defScope s_Table_mul) .none kV8 dc8 pm8 an8 cd8 ct8), sl8⟩) (c8 : PySem.W.codeIn K cd8 "Table.__mul__" = true) (k8 : PySem.W.keepIn K (.ref f8) = true)
    {od9 an9 : Option Addr} {sl9 : Array (Option Value)} {oc9 dc9 pm9 cd9 ct9 : Value} {f9 : Addr} {kV9 : Value}
    (a9 : PySem.W.findIn K (.ref C_Table) "__getitem__" = some (some (.ref f9))) (i9 : PySem.W.isFn K (.ref f9) = true) (l9 : K.lookup f9 = some ⟨oc9, od9, .func (PySem.W.fnOf "__getitem__" "Table.__getitem__" (defArgs s_Table_getitem) (defBody s_Table_getitem) (defScope s_Table_getitem) .none kV9 dc9 pm9 an9 cd9 ct9), sl9⟩) (c9 : PySem.W.codeIn K cd9 "Table.__getitem__" = true) (k9 : PySem.W.keepIn K (.ref f9) = true)
    {od10 an10 : Option Addr} {sl10 : Array (Option Value)} {oc10 dc10 pm10 cd10 ct10 : Value} {f10 : Addr} {kV10 : Value}
    (a10 : PySem.W.findIn K (.ref C_Table) "__eq__" = some (some (.ref f10))) (i10 : PySem.W.isFn K (.ref f10) = true) (l10 : K.lookup f10 = some ⟨oc10, od10, .func (PySem.W.fnOf "__eq__" "Table.__eq__" (defArgs s_Table_eq) (defBody s_Table_eq) (defScope s_Table_eq) .none kV10 dc10 pm10 an10 cd10 ct10), sl10⟩) (c10 : PySem.W.codeIn K cd10 "Table.__eq__" = true) (k10 : PySem.W.keepIn K (.ref f10) = true)
    {od11 an11 : Option Addr} {sl11 : Array (Option Value)} {oc11 dc11 pm11 cd11 ct11 : Value} {f11 : Addr} {kV11 : Value}
    (a11 : PySem.W.findIn K (.ref C_Table) "__bool__" = some (some (.ref f11))) (i11 : PySem.W.isFn K (.ref f11) = true) (l11 : K.lookup f11 = some ⟨oc11, od11, .func (PySem.W.fnOf "__bool__" "Table.__bool__" (defArgs s_Table_bool) (defBody s_Table_bool) (defScope s_Table_bool) .none kV11 dc11 pm11 an11 cd11 ct11), sl11⟩) (c11 : PySem.W.codeIn K cd11 "Table.__bool__" = true) (k11 : PySem.W.keepIn K (.ref f11) = true)
    {od12 an12 : Option Addr} {sl12 : Array (Option Value)} {oc12 dc12 pm12 cd12 ct12 : Value} {f12 : Addr} {kV12 : Value}
    (a12 : PySem.W.findIn K (.ref C_Table) "__repr__" = some (some (.ref f12))) (i12 : PySem.W.isFn K (.ref f12) = true) (l12 : K.lookup f12 = some ⟨oc12, od12, .func (PySem.W.fnOf "__repr__" "Table.__repr__" (defArgs s_Table_repr) (defBody s_Table_repr) (defScope s_Table_repr) .none kV12 dc12 pm12 an12 cd12 ct12), sl12⟩) (c12 : PySem.W.codeIn K cd12 "Table.__repr__" = true) (k12 : PySem.W.keepIn K (.ref f12) = true)
    {od13 an13 : Option Addr} {sl13 : Array (Option Value)} {kV13 oc13 dc13 pm13 cd13 ct13 : Value} {f13 : Addr}
    (a13 : PySem.W.nsIn K mainGlobals "_law_source" = some (some (.ref f13))) (l13 : K.lookup f13 = some ⟨oc13, od13, .func (PySem.W.fnOf "_law_source" "_law_source" (defArgs s_source) (defBody s_source) (defScope s_source) .none kV13 dc13 pm13 an13 cd13 ct13), sl13⟩) (c13 : PySem.W.codeIn K cd13 "_law_source" = true) (k13 : PySem.W.keepIn K (.ref f13) = true)
    {od14 an14 : Option Addr} {sl14 : Array (Option Value)} {kV14 oc14 dc14 pm14 cd14 ct14 : Value} {f14 : Addr}
    (a14 : PySem.W.nsIn K mainGlobals "_law_pull" = some (some (.ref f14))) (l14 : K.lookup f14 = some ⟨oc14, od14, .func (PySem.W.fnOf "_law_pull" "_law_pull" (defArgs s_pull) (defBody s_pull) (defScope s_pull) .none kV14 dc14 pm14 an14 cd14 ct14), sl14⟩) (c14 : PySem.W.codeIn K cd14 "_law_pull" = true) (k14 : PySem.W.keepIn K (.ref f14) = true)
    {od15 an15 : Option Addr} {sl15 : Array (Option Value)} {kV15 oc15 dc15 pm15 cd15 ct15 : Value} {f15 : Addr}
    (a15 : PySem.W.nsIn K mainGlobals "_law_of" = some (some (.ref f15))) (l15 : K.lookup f15 = some ⟨oc15, od15, .func (PySem.W.fnOf "_law_of" "_law_of" (defArgs s_of) (defBody s_of) (defScope s_of) .none kV15 dc15 pm15 an15 cd15 ct15), sl15⟩) (c15 : PySem.W.codeIn K cd15 "_law_of" = true) (k15 : PySem.W.keepIn K (.ref f15) = true)
    {od16 an16 : Option Addr} {sl16 : Array (Option Value)} {kV16 oc16 dc16 pm16 cd16 ct16 : Value} {f16 : Addr}
    (a16 : PySem.W.nsIn K mainGlobals "_law_a_number" = some (some (.ref f16))) (l16 : K.lookup f16 = some ⟨oc16, od16, .func (PySem.W.fnOf "_law_a_number" "_law_a_number" (defArgs s_a_number) (defBody s_a_number) (defScope s_a_number) .none kV16 dc16 pm16 an16 cd16 ct16), sl16⟩) (c16 : PySem.W.codeIn K cd16 "_law_a_number" = true) (k16 : PySem.W.keepIn K (.ref f16) = true)
    {od17 an17 : Option Addr} {sl17 : Array (Option Value)} {kV17 oc17 dc17 pm17 cd17 ct17 : Value} {f17 : Addr}
    (a17 : PySem.W.nsIn K mainGlobals "_law_any_entries" = some (some (.ref f17))) (l17 : K.lookup f17 = some ⟨oc17, od17, .func (PySem.W.fnOf "_law_any_entries" "_law_any_entries" (defArgs s_any_entries) (defBody s_any_entries) (defScope s_any_entries) .none kV17 dc17 pm17 an17 cd17 ct17), sl17⟩) (c17 : PySem.W.codeIn K cd17 "_law_any_entries" = true) (k17 : PySem.W.keepIn K (.ref f17) = true)
    {od18 an18 : Option Addr} {sl18 : Array (Option Value)} {kV18 oc18 dc18 pm18 cd18 ct18 : Value} {f18 : Addr}
    (a18 : PySem.W.nsIn K mainGlobals "_law_like" = some (some (.ref f18))) (l18 : K.lookup f18 = some ⟨oc18, od18, .func (PySem.W.fnOf "_law_like" "_law_like" (defArgs s_like) (defBody s_like) (defScope s_like) .none kV18 dc18 pm18 an18 cd18 ct18), sl18⟩) (c18 : PySem.W.codeIn K cd18 "_law_like" = true) (k18 : PySem.W.keepIn K (.ref f18) = true)
    {od19 an19 : Option Addr} {sl19 : Array (Option Value)} {kV19 oc19 dc19 pm19 cd19 ct19 : Value} {f19 : Addr}
    (a19 : PySem.W.nsIn K mainGlobals "_law_shown" = some (some (.ref f19))) (l19 : K.lookup f19 = some ⟨oc19, od19, .func (PySem.W.fnOf "_law_shown" "_law_shown" (defArgs s_shown) (defBody s_shown) (defScope s_shown) .none kV19 dc19 pm19 an19 cd19 ct19), sl19⟩) (c19 : PySem.W.codeIn K cd19 "_law_shown" = true) (k19 : PySem.W.keepIn K (.ref f19) = true)
    {od20 an20 : Option Addr} {sl20 : Array (Option Value)} {kV20 oc20 dc20 pm20 cd20 ct20 : Value} {f20 : Addr}
    (a20 : PySem.W.nsIn K mainGlobals "law" = some (some (.ref f20))) (l20 : K.lookup f20 = some ⟨oc20, od20, .func (PySem.W.fnOf "law" "law" (defArgs s_law) (defBody s_law) (defScope s_law) .none kV20 dc20 pm20 an20 cd20 ct20), sl20⟩) (c20 : PySem.W.codeIn K cd20 "law" = true) (k20 : PySem.W.keepIn K (.ref f20) = true)
    (z0 : PySem.W.nsIn K mainGlobals "range" = some none)
    (z1 : PySem.W.nsIn K mainGlobals "isinstance" = some none)
    (z2 : PySem.W.nsIn K mainGlobals "str" = some none)
    (z3 : PySem.W.nsIn K mainGlobals "sum" = some none)
    (z4 : PySem.W.nsIn K mainGlobals "any" = some none)
    (z5 : PySem.W.nsIn K mainGlobals "list" = some none)
    (z6 : PySem.W.nsIn K mainGlobals "tuple" = some none)
    (z7 : PySem.W.nsIn K mainGlobals "len" = some none)
    (z8 : PySem.W.nsIn K mainGlobals "all" = some none)
    (z9 : PySem.W.nsIn K mainGlobals "bool" = some none)
    (z10 : PySem.W.nsIn K mainGlobals "repr" = some none)
    {t_GROUP : Tok} (a_GROUP : PySem.W.nsIn K mainGlobals "GROUP" = some (some (.int (10 ^ 64) t_GROUP)))
    (fi_get : PySem.W.fnIn K f9 = true)
    (nn_Table : PySem.W.subIn K (.type "NoneType") (.ref C_Table) = some false)
    (nt_Table : PySem.W.subIn K (.type "tuple") (.ref C_Table) = some false)
    : ∀ base : Heap, K.In base → base.Ns mainGlobals mg → AskAt l.prog w K mg base 63 fa := by
  have e := hfa.symm.trans (PySem.W.mg_of X G a20)
  cases e
  have F0 := fun_mk (st := s_decimal_text) l0 c0 k0
  have b0 := F0.binds (ps := ["number"]) fun _ _ _ _ _ _ us hl => match us, hl with | [_], _ => rfl
  have F1 := fun_mk (st := s_added) l1 c1 k1
  have F2 := fun_mk (st := s_scaled) l2 c2 k2
  have b2 := F2.binds (ps := ["pair", "number"]) fun _ _ _ _ _ _ us hl => match us, hl with | [_, _], _ => rfl
  have F3 : FunD K "__init__" "Table.__init__" (defArgs s_Table_init) (defBody s_Table_init) (defScope s_Table_init) [.ref r03] [] f3 _ := ⟨⟨_, _, _, _, _, _, _, _, _, _, rfl, l3, c3, .inr ⟨by simp, T3, _, [.ref r03], _, rfl, t3, rfl, .cons rfl .nil⟩, .inl rfl⟩, k3⟩
  have b3 := bd_given l3 t3 (ps := ["self", "rows"]) (fun us hl => match us, hl with | [_, _], _ => ⟨_, rfl, rfl⟩)
  have e3 := bd_dflt l3 t3 (ps := ["self", "rows"]) (fun us hl => match us, hl with | [_], _ => ⟨_, rfl, rfl⟩)
  have F4 := fun_mk (st := s_Table_rows) l4 c4 k4
  have b4 := F4.binds (ps := ["self"]) fun _ _ _ _ _ _ us hl => match us, hl with | [_], _ => rfl
  have F5 := fun_mk (st := s_Table_add) l5 c5 k5
  have b5 := F5.binds (ps := ["self", "other"]) fun _ _ _ _ _ _ us hl => match us, hl with | [_, _], _ => rfl
  have F6 := fun_mk (st := s_Table_sub) l6 c6 k6
  have b6 := F6.binds (ps := ["self", "other"]) fun _ _ _ _ _ _ us hl => match us, hl with | [_, _], _ => rfl
  have F7 := fun_mk (st := s_Table_neg) l7 c7 k7
  have b7 := F7.binds (ps := ["self"]) fun _ _ _ _ _ _ us hl => match us, hl with | [_], _ => rfl
  have F8 := fun_mk (st := s_Table_mul) l8 c8 k8
  have b8 := F8.binds (ps := ["self", "other"]) fun _ _ _ _ _ _ us hl => match us, hl with | [_, _], _ => rfl
  have F9 := fun_mk (st := s_Table_getitem) l9 c9 k9
  have b9 := F9.binds (ps := ["self", "at"]) fun _ _ _ _ _ _ us hl => match us, hl with | [_, _], _ => rfl
  have F10 := fun_mk (st := s_Table_eq) l10 c10 k10
  have b10 := F10.binds (ps := ["self", "other"]) fun _ _ _ _ _ _ us hl => match us, hl with | [_, _], _ => rfl
  have F11 := fun_mk (st := s_Table_bool) l11 c11 k11
  have b11 := F11.binds (ps := ["self"]) fun _ _ _ _ _ _ us hl => match us, hl with | [_], _ => rfl
  have F12 := fun_mk (st := s_Table_repr) l12 c12 k12
  have b12 := F12.binds (ps := ["self"]) fun _ _ _ _ _ _ us hl => match us, hl with | [_], _ => rfl
  have F13 := fun_mk (st := s_source) l13 c13 k13
  have b13 := F13.binds (ps := ["_law_script"]) fun _ _ _ _ _ _ us hl => match us, hl with | [_], _ => rfl
  have F14 := fun_mk (st := s_pull) l14 c14 k14
  have b14 := F14.binds (ps := ["_law_bag", "_law_size"]) fun _ _ _ _ _ _ us hl => match us, hl with | [_, _], _ => rfl
  have F15 := fun_mk (st := s_of) l15 c15 k15
  have b15 := F15.binds (ps := ["_law_bag", "_law_some"]) fun _ _ _ _ _ _ us hl => match us, hl with | [_, _], _ => rfl
  have F16 := fun_mk (st := s_a_number) l16 c16 k16
  have b16 := F16.binds (ps := ["_law_bag"]) fun _ _ _ _ _ _ us hl => match us, hl with | [_], _ => rfl
  have F17 := fun_mk (st := s_any_entries) l17 c17 k17
  have b17 := F17.binds (ps := ["_law_bag"]) fun _ _ _ _ _ _ us hl => match us, hl with | [_], _ => rfl
  have F18 := fun_mk (st := s_like) l18 c18 k18
  have b18 := F18.binds (ps := ["_law_found", "_law_due"]) fun _ _ _ _ _ _ us hl => match us, hl with | [_, _], _ => rfl
  have F19 := fun_mk (st := s_shown) l19 c19 k19
  have b19 := F19.binds (ps := ["_law_table"]) fun _ _ _ _ _ _ us hl => match us, hl with | [_], _ => rfl
  have F20 := fun_mk (st := s_law) l20 c20 k20
  have T : Txt K mg := {
    f_decimal_text := f0
    d_decimal_text := _
    F_decimal_text := F0
    g_decimal_text := PySem.W.mg_of X G a0
    b_decimal_text := b0
    f_added := f1
    d_added := _
    F_added := F1
    g_added := PySem.W.mg_of X G a1
    f_scaled := f2
    d_scaled := _
    F_scaled := F2
    g_scaled := PySem.W.mg_of X G a2
    b_scaled := b2
    C_Table := C_Table
    cl_Table := .mk pg_Table hd_Table po_Table sa_Table
    g_Table := PySem.W.mg_of X G aC_Table
    sf_Table := sf_Table
    nq_Table := nq_Table
    n_Table_cells := n_Table_cells
    M_Table := .mk mk_Table a3 i3 kc_Table
    mo_Table := mo_Table
    ne_Table := ne_Table
    ca_Table := ca_Table
    hn := hn
    ht := ht
    x_Table_rmul := x_Table_rmul
    i_mul := i_mul
    i_rmul := i_rmul
    is_Table := is_Table
    nl_Table := nl_Table
    ic_Table := ic_Table
    tw_Table := tw_Table
    f_Table_init := f3
    d_Table_init := _
    r0_Table_init := r03
    F_Table_init := F3
    b_Table_init := b3
    b0_Table_init := e3
    v0_Table_init := .cons rfl .nil
    z0_Table_init := .mk y3a y3b y3c
    m_Table_rows := .mk a4 i4 k4
    f_Table_rows := f4
    d_Table_rows := _
    F_Table_rows := F4
    b_Table_rows := b4
    m_Table_add := .mk a5 i5 k5
    f_Table_add := f5
    d_Table_add := _
    F_Table_add := F5
    b_Table_add := b5
    m_Table_sub := .mk a6 i6 k6
    f_Table_sub := f6
    d_Table_sub := _
    F_Table_sub := F6
    b_Table_sub := b6
    m_Table_neg := .mk a7 i7 k7
    f_Table_neg := f7
    d_Table_neg := _
    F_Table_neg := F7
    b_Table_neg := b7
    m_Table_mul := .mk a8 i8 k8
    f_Table_mul := f8
    d_Table_mul := _
    F_Table_mul := F8
    b_Table_mul := b8
    m_Table_getitem := .mk a9 i9 k9
    f_Table_getitem := f9
    d_Table_getitem := _
    F_Table_getitem := F9
    b_Table_getitem := b9
    m_Table_eq := .mk a10 i10 k10
    f_Table_eq := f10
    d_Table_eq := _
    F_Table_eq := F10
    b_Table_eq := b10
    m_Table_bool := .mk a11 i11 k11
    f_Table_bool := f11
    d_Table_bool := _
    F_Table_bool := F11
    b_Table_bool := b11
    m_Table_repr := .mk a12 i12 k12
    f_Table_repr := f12
    d_Table_repr := _
    F_Table_repr := F12
    b_Table_repr := b12
    f_source := f13
    d_source := _
    F_source := F13
    g_source := PySem.W.mg_of X G a13
    b_source := b13
    f_pull := f14
    d_pull := _
    F_pull := F14
    g_pull := PySem.W.mg_of X G a14
    b_pull := b14
    f_of := f15
    d_of := _
    F_of := F15
    g_of := PySem.W.mg_of X G a15
    b_of := b15
    f_a_number := f16
    d_a_number := _
    F_a_number := F16
    g_a_number := PySem.W.mg_of X G a16
    b_a_number := b16
    f_any_entries := f17
    d_any_entries := _
    F_any_entries := F17
    g_any_entries := PySem.W.mg_of X G a17
    b_any_entries := b17
    f_like := f18
    d_like := _
    F_like := F18
    g_like := PySem.W.mg_of X G a18
    b_like := b18
    f_shown := f19
    d_shown := _
    F_shown := F19
    g_shown := PySem.W.mg_of X G a19
    b_shown := b19
    n_range := PySem.W.mg_none_of X G z0
    n_isinstance := PySem.W.mg_none_of X G z1
    n_str := PySem.W.mg_none_of X G z2
    n_sum := PySem.W.mg_none_of X G z3
    n_any := PySem.W.mg_none_of X G z4
    n_list := PySem.W.mg_none_of X G z5
    n_tuple := PySem.W.mg_none_of X G z6
    n_len := PySem.W.mg_none_of X G z7
    n_all := PySem.W.mg_none_of X G z8
    n_bool := PySem.W.mg_none_of X G z9
    n_repr := PySem.W.mg_none_of X G z10
    kb_Table_init_rows := kbn_Table_init_rows F3
    u_GROUP := _
    g_GROUP := PySem.W.mg_of X G a_GROUP
    rv_GROUP := ⟨t_GROUP, rfl⟩
    fi_get := fi_get
    nn_Table := nn_Table
    nt_Table := nt_Table }
  exact fun base _ _ => ok_law F20 T
end Gy
open PySem PySem.W PyProof.Rows
set_option maxRecDepth 100000 in
set_option maxHeartbeats 0 in
theorem PySem.Challenge.cw_grainyard_k11_tables_and_their_signs_holds : PySem.Challenge.rw_grainyard_k11_tables_and_their_signs.Holds := by
  w_on; o_law; k_head; (case hw => w_witness2)
  k_fill
  refine Gy.walk_at (l := PySem.Challenge.rw_grainyard_k11_tables_and_their_signs) (n := 63) rfl (by decide) rfl (fun w h Y => PySem.W.kIn_of Y) ?F
  case F =>
    intro w mg fa h KX G hmg
    refine' Gy.all_mk KX G hmg ?aC_Table ?pg_Table ?hd_Table ?po_Table ?sa_Table ?mk_Table ?kc_Table ?sf_Table ?nq_Table ?n_Table_cells ?mo_Table ?ne_Table ?ca_Table ?hn ?ht ?x_Table_rmul ?i_mul ?i_rmul ?is_Table ?nl_Table ?ic_Table ?tw_Table ?a0 ?l0 ?c0 ?k0 ?a1 ?l1 ?c1 ?k1 ?a2 ?l2 ?c2 ?k2 ?a3 ?i3 ?l3 ?c3 ?k3 ?t3 ?y3a ?y3b ?y3c ?a4 ?i4 ?l4 ?c4 ?k4 ?a5 ?i5 ?l5 ?c5 ?k5 ?a6 ?i6 ?l6 ?c6 ?k6 ?a7 ?i7 ?l7 ?c7 ?k7 ?a8 ?i8 ?l8 ?c8 ?k8 ?a9 ?i9 ?l9 ?c9 ?k9 ?a10 ?i10 ?l10 ?c10 ?k10 ?a11 ?i11 ?l11 ?c11 ?k11 ?a12 ?i12 ?l12 ?c12 ?k12 ?a13 ?l13 ?c13 ?k13 ?a14 ?l14 ?c14 ?k14 ?a15 ?l15 ?c15 ?k15 ?a16 ?l16 ?c16 ?k16 ?a17 ?l17 ?c17 ?k17 ?a18 ?l18 ?c18 ?k18 ?a19 ?l19 ?c19 ?k19 ?a20 ?l20 ?c20 ?k20 ?z0 ?z1 ?z2 ?z3 ?z4 ?z5 ?z6 ?z7 ?z8 ?z9 ?z10 ?a_GROUP ?fi_get ?nn_Table ?nt_Table
    (case aC_Table => k_is); (case pg_Table => k_is); (case hd_Table => k_is); (case po_Table => k_is); (case sa_Table => k_is); (case mk_Table => k_is); (case kc_Table => k_is); (case sf_Table => k_is); (case nq_Table => k_is); (case n_Table_cells => k_is); (case mo_Table => k_is); (case ne_Table => k_is); (case ca_Table => k_is); (case hn => k_is); (case ht => k_is); (case x_Table_rmul => k_is); (case i_mul => k_is); (case i_rmul => k_is); (case is_Table => k_is); (case nl_Table => k_is); (case ic_Table => k_is); (case tw_Table => k_is); (case a0 => k_is); (case l0 => k_is); (case c0 => k_is); (case k0 => k_is); (case a1 => k_is); (case l1 => k_is); (case c1 => k_is); (case k1 => k_is); (case a2 => k_is); (case l2 => k_is); (case c2 => k_is); (case k2 => k_is); (case a3 => k_is); (case i3 => k_is); (case l3 => k_is); (case c3 => k_is); (case k3 => k_is); (case t3 => k_is); (case y3a => k_is); (case y3b => k_is); (case y3c => k_is); (case a4 => k_is); (case i4 => k_is); (case l4 => k_is); (case c4 => k_is); (case k4 => k_is); (case a5 => k_is); (case i5 => k_is); (case l5 => k_is); (case c5 => k_is); (case k5 => k_is); (case a6 => k_is); (case i6 => k_is); (case l6 => k_is); (case c6 => k_is); (case k6 => k_is); (case a7 => k_is); (case i7 => k_is); (case l7 => k_is); (case c7 => k_is); (case k7 => k_is); (case a8 => k_is); (case i8 => k_is); (case l8 => k_is); (case c8 => k_is); (case k8 => k_is); (case a9 => k_is); (case i9 => k_is); (case l9 => k_is); (case c9 => k_is); (case k9 => k_is); (case a10 => k_is); (case i10 => k_is); (case l10 => k_is); (case c10 => k_is); (case k10 => k_is); (case a11 => k_is); (case i11 => k_is); (case l11 => k_is); (case c11 => k_is); (case k11 => k_is); (case a12 => k_is); (case i12 => k_is); (case l12 => k_is); (case c12 => k_is); (case k12 => k_is); (case a13 => k_is); (case l13 => k_is); (case c13 => k_is); (case k13 => k_is); (case a14 => k_is); (case l14 => k_is); (case c14 => k_is); (case k14 => k_is); (case a15 => k_is); (case l15 => k_is); (case c15 => k_is); (case k15 => k_is); (case a16 => k_is); (case l16 => k_is); (case c16 => k_is); (case k16 => k_is); (case a17 => k_is); (case l17 => k_is); (case c17 => k_is); (case k17 => k_is); (case a18 => k_is); (case l18 => k_is); (case c18 => k_is); (case k18 => k_is); (case a19 => k_is); (case l19 => k_is); (case c19 => k_is); (case k19 => k_is); (case a20 => k_is); (case l20 => k_is); (case c20 => k_is); (case k20 => k_is); (case z0 => k_is); (case z1 => k_is); (case z2 => k_is); (case z3 => k_is); (case z4 => k_is); (case z5 => k_is); (case z6 => k_is); (case z7 => k_is); (case z8 => k_is); (case z9 => k_is); (case z10 => k_is); (case a_GROUP => k_is); (case fi_get => k_is); (case nn_Table => k_is); (case nt_Table => k_is)

