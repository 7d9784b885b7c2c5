import PyProof.Rows.All
import Wide.All
import OpenK.AllK
import Wide.FinOn
import HandS.ForMost
import HandS.Wide
import HandS.WideBits
import HandS.IsInst
import HandS.Defaults
import HandS.Star
import HandS.Evl
import HandS.NoneIn
import HandS.Style
import HandS.SlotsOwn
import HandS.MakeKwOnly
import KE.KOpsOwn
import PySem.Challenge.RW_grainyard_k13_whole_rules_of_tables
set_option Elab.async false
set_option linter.all false
set_option maxRecDepth 100000
set_option maxHeartbeats 4000000
namespace Gy
open PySem PySem.Spec PyProof.Rows L2
theorem sq_nn (x : Int) : 0 ≤ x * x := by
  rcases Int.le_total 0 x with h | h
  · exact Int.mul_nonneg h h
  · exact Int.mul_nonneg_of_nonpos_of_nonpos h h
theorem sq_le {x y : Int} (h0 : 0 ≤ x) (h : x ≤ y) : x * x ≤ y * y := Int.mul_le_mul h h h0 (Int.le_trans h0 h)
theorem sq_lt {x y : Int} (h0 : 0 ≤ x) (h : x < y) : x * x < y * y := by
  have h1 : (x + 1) * (x + 1) ≤ y * y := sq_le (by omega) (by omega)
  grind
theorem lt_of_sq {x y : Int} (h0 : 0 ≤ y) (h : x * x < y * y) : x < y := by
  rcases Int.lt_or_le x y with z | z
  · exact z
  · have := sq_le h0 z
    omega
theorem le_of_sq {x y : Int} (h0 : 0 ≤ y) (h : x * x ≤ y * y) : x ≤ y := by
  rcases Int.lt_or_le y x with z | z
  · have := sq_lt h0 z
    omega
  · exact z
/-- Newton's step from above -/
theorem newton_up {g n : Int} (hg : 0 < g) (hn : 0 ≤ n) : n < ((g + n / g) / 2 + 1) * ((g + n / g) / 2 + 1) := by
  have hq : 0 ≤ n / g := Int.ediv_nonneg hn (by omega)
  have h1 : n < g * (n / g + 1) := by
    have := Int.lt_ediv_add_one_mul_self n hg
    grind
  generalize n / g = q at hq h1 ⊢
  have h2 : g + q + 1 ≤ 2 * ((g + q) / 2 + 1) := by omega
  generalize (g + q) / 2 = r at h2 ⊢
  have h3 := sq_nn (g - (q + 1))
  have h4 := sq_le (show 0 ≤ g + q + 1 by omega) h2
  grind
theorem newton_dn {g n : Int} (hg : 0 < g) (h : n < g * g) : (g + n / g) / 2 < g := by
  have h1 : n / g < g := Int.ediv_lt_of_lt_mul hg h
  omega
theorem newton_nn {g n : Int} (hg : 0 < g) (hn : 0 ≤ n) : 0 ≤ (g + n / g) / 2 := by
  have hq : 0 ≤ n / g := Int.ediv_nonneg hn (by omega)
  omega
/-- no root times a square is a square -/
theorem no_square {d k : Int} (hk : 0 ≤ k) (h1 : k * k < d) (h2 : d < (k + 1) * (k + 1)) : ∀ (n : Nat) (b w : Int), 0 < b → 0 ≤ w → b.toNat ≤ n → w * w ≠ d * b * b
  | 0, b, w, hb, _, hn => by omega
  | n + 1, b, w, hb, hw, hn => fun e => by
    have hbb : 0 < b * b := Int.mul_pos hb hb
    have l1 : (k * b) * (k * b) < w * w := by
      have := Int.mul_lt_mul_of_pos_right h1 hbb
      grind
    have l2 : w * w < ((k + 1) * b) * ((k + 1) * b) := by
      have := Int.mul_lt_mul_of_pos_right h2 hbb
      grind
    have m1 : k * b < w := lt_of_sq hw l1
    have m2 : w < (k + 1) * b := lt_of_sq (Int.mul_nonneg (by omega) (by omega)) l2
    have m3 : w - k * b < b := by grind
    refine no_square hk h1 h2 n (w - k * b) (d * b - k * w) (by omega) ?_ (by omega) (by grind)
    have : (k * w) * b ≤ (d * b) * b := by
      have z := Int.mul_le_mul_of_nonneg_right (Int.le_of_lt m1) hw
      grind
    have z : k * w ≤ d * b := Int.le_of_mul_le_mul_right this hb
    omega
/-! ### defs with defaults, methods by keywords -/
inductive Dflt (K : PySem.W.Frag) (r : Addr) : Prop
  | mk {y1 y2 : Addr} {d e f : Option Addr} {m n o : Nat} {s t u : Array (Option Value)} {v w x y : Tok} (a : K.lookup r = some ⟨.type "tuple", d, .seq #[.ref y1, .ref y2] m, s⟩)
      (b : K.lookup y1 = some ⟨.type "tuple", e, .seq #[.int 0 v, .int 0 w] n, t⟩) (c : K.lookup y2 = some ⟨.type "tuple", f, .seq #[.int 0 x, .int 0 y] o, u⟩) : Dflt K r
section
variable {K : PySem.W.Frag} {f T D : Addr} {oc tc u : Value} {od td : Option Addr} {fd : FuncData} {sl ts : Array (Option Value)} {tn : Nat} {its : Array Value} {ps : List Str} {x : Str}
theorem bd_given (l : K.lookup f = some ⟨oc, od, .func fd, sl⟩) (t : K.lookup T = some ⟨tc, td, .seq its tn, ts⟩) (h : ∀ us : List Value, us.length = ps.length → ∃ k, bindArgs fd ⟨us, []⟩ = seqItems? (.ref T) >>= k ∧ k (some its) = pure (ps.zip us)) : Binds K fd ps [] := fun s us X hl => by
  rw [List.append_nil] at hl ⊢
  obtain ⟨k, e1, e2⟩ := h us hl
  refine BindsTo.of_looks fun M => ?_
  rw [e1]
  exact looks_items X t rfl (.of_pure e2)
theorem bd_dflt {v : Value} (l : K.lookup f = some ⟨oc, od, .func fd, sl⟩) (t : K.lookup T = some ⟨tc, td, .seq #[v] tn, ts⟩) (h : ∀ us : List Value, us.length + 1 = ps.length → ∃ k, bindArgs fd ⟨us, []⟩ = seqItems? (.ref T) >>= k ∧ k (some #[v]) = pure (ps.zip (us ++ [v]))) : Binds K fd ps [v] := fun s us X hl => by
  rw [List.length_append] at hl
  obtain ⟨k, e1, e2⟩ := h us hl
  refine BindsTo.of_looks fun M => ?_
  rw [e1]
  exact looks_items X t rfl (.of_pure e2)
theorem bd_kw (l : K.lookup f = some ⟨oc, od, .func fd, sl⟩) (kd : PySem.W.nsIn K D x = some (some u)) (h : ∀ us : List Value, us.length + 1 = ps.length → KwChain D [(x, u)] (bindArgs fd ⟨us, []⟩) (ps.zip (us ++ [u]))) : Binds K fd ps [u] := fun s us X hl => by
  rw [List.length_append] at hl
  refine BindsTo.of_looks fun M => ?_
  refine KwChain.looks X ?_ (h us hl)
  intro q hq
  rcases List.mem_cons.mp hq with e | e
  · rw [e]
    exact kd
  · cases e
end
section
variable {X : Cx} {CX : CXT} {k : Nat} {f C : Addr} {fd : FuncData} {ps ks : List Str} {sp : Sp} {E : XK} {m : Str} {pos apos : Pos} {o : Expr} {kws : List Keyword} {ta : TE} {tk : TA}
theorem pe_methK0 {pl : Sem Bool} {g : List Value → List Value → List Value} {gV : List V → List V → List V} (he : PE X o ta) (c : Cls X.K C) (hm : Meth X.K C m f) (F : FnOk X.prog X.w X.K X.mg X.base CX k f fd ps sp) (hr : Room k X.A) (hb : KBn X.K fd ps 1 ks g gV) (hx : Passes CX X E) (hkw : PK X kws tk)
    (hall : (backToKw pos (keywordEach kws X.env)).all (·.1.isSome) = true := by rfl)
    (hks : (backToKw pos (keywordEach kws X.env)).filterMap (·.1) = ks := by rfl)
    (hpl : ((backTo pos (starEach [] X.env)).any (·.1) || (backToKw pos (keywordEach kws X.env)).any (·.1.isNone)) = false := by rfl)
    (ht : eval (.Call (.Attribute o m apos) [] kws pos) X.env = (do
      let ov ← eval o X.env
      standAt apos.atName
      let (f, first) ← holding [ov] (getMethod ov m pl)
      callWith pos f first (backTo pos (starEach [] X.env)) (backToKw pos (keywordEach kws X.env))) := by rfl) :
    PE X (.Call (.Attribute o m apos) [] kws pos) (fun σ H Q => ta σ H fun x H1 => ∃ a dx fs, x = .ref a ∧ H1 a = some (.ins C dx fs) ∧ fs.lookup m = none ∧ tk σ H1 fun zs H2 => zs.length = ks.length ∧ sp (gV [.ref a] zs) H2 Q E) := by
  refine ⟨fun pins s σ H Q I h => ?_⟩
  refine PySem.W.methodCall_KW (pl := pl) (thn (he.run pins s σ H _ I h) fun u s1 ⟨x, H1, I1, rx, a, dx, fs, ex, ea, l, q⟩ => ?_) ht
  subst ex
  obtain rfl : u = Value.ref a := rx
  refine getmeth_ok I1 ea c hm l ?_
  refine PySem.W.callWith_KW0 (first := [.ref a]) (h₀ := X.base) I.ok.mod.kin hm.kp hall ?_ hpl
  refine thn (hkw.run pos pins s1 σ H1 _ I1 q) fun ws s2 ⟨zs, H2, I2, rz, l2, q2⟩ => ⟨I2.kIn, ?_⟩
  rw [hks]
  exact run_fnN (us := [.ref a]) (vs := [.ref a]) F hr hb hx I2 (.cons rfl .nil) rz rfl l2 q2
end
/-! ### operators of an own class -/
section
variable {X : Cx} {CX : CXT} {n : Nat} {C g : Addr} {fd : FuncData} {ps : List Str} {sp : Sp} {E : XK}
theorem inst_of {pins : List (Addr × Obj)} {σ : L2.St} {H : Hp} {s : Shared} {a dx : Addr} {fs : List (Str × V)} (I : Inv X pins σ H s) (ha : H a = some (.ins C dx fs)) : ∃ ox od, PySem.W.InstAt s.heap a ox C od := by
  obtain ⟨mA, J, _⟩ := ins_get I.hok ha
  obtain ⟨od, J, _⟩ := J.look
  exact ⟨_, _, J⟩
/-- x op y of two instances -/
def rOwn2 (C : Addr) (sp : Sp) (E : XK) : R2 := fun x y H Q => ∃ a dx fs b dy gs, x = .ref a ∧ y = .ref b ∧ H a = some (.ins C dx fs) ∧ H b = some (.ins C dy gs) ∧ sp [x, y] H Q E
theorem op_bin {op : Operator} {nm : Str} (m : Meth X.K C nm g) (sf : PySem.W.selfFirst X.K C = true) (F : FnOk X.prog X.w X.K X.mg X.base CX n g fd ps sp) (hr : Room n X.A) (hb : Binds X.K fd ps []) (hx : Passes CX X E)
    (hn : PySem.dunder op.info.2 = nm := by decide +kernel) : OpR X (binaryOp op) (rOwn2 C sp E) := by
  intro pins s σ H x y v u Q I rx ry h
  obtain ⟨a, dx, fs, b, dy, gs, rfl, rfl, ha, hb', q⟩ := h
  cases (show v = Value.ref a from rx)
  cases (show u = Value.ref b from ry)
  obtain ⟨ox, od, J⟩ := inst_of I ha
  obtain ⟨oy, od', J'⟩ := inst_of I hb'
  obtain ⟨mm, hF⟩ := I.fr
  refine PySem.W.binop_K (op := op) hF I.ok.mod.kin J J'.type sf (by rw [hn]; exact m.at_) m.fn ?_
  refine wpAny_mono (run_fn (us := [.ref a, .ref b]) (vs := [.ref a, .ref b]) F hr hb .nil hx I (.cons rfl (.cons rfl .nil)) q) (fun w s' z => ?_) fun _ _ x => x
  obtain ⟨z', H', I', rz, qz⟩ := z
  exact SlX.cmpback rz ⟨z', H', I', rz, qz⟩
/-- x op i -/
def rOwnI (C : Addr) (sp : Sp) (E : XK) : R2 := fun x y H Q => ∃ a dx fs i, x = .ref a ∧ y = .int i ∧ H a = some (.ins C dx fs) ∧ sp [x, y] H Q E
theorem op_binI {op : Operator} {nm nr : Str} {fo ro : Option Value} (m : Meth X.K C nm g) (sf : PySem.W.selfFirst X.K C = true) (h0 : PySem.W.findIn X.K (.ref C) nr = some none) (h1 : PySem.W.findIn X.K (.type "int") nm = some fo) (h2 : PySem.W.findIn X.K (.type "int") nr = some ro)
    (h3 : PySem.W.subIn X.K (.type "int") (.ref C) = some false) (F : FnOk X.prog X.w X.K X.mg X.base CX n g fd ps sp) (hr : Room n X.A) (hb : Binds X.K fd ps []) (hx : Passes CX X E)
    (hn : PySem.dunder op.info.2 = nm := by decide +kernel) (hq : PySem.dunderR op.info.2 = nr := by decide +kernel) : OpR X (binaryOp op) (rOwnI C sp E) := by
  intro pins s σ H x y v u Q I rx ry h
  obtain ⟨a, dx, fs, i, rfl, rfl, ha, q⟩ := h
  cases (show v = Value.ref a from rx)
  obtain ⟨t, e⟩ := (show ∃ t, u = Value.int i t from ry)
  cases e
  obtain ⟨ox, od, J⟩ := inst_of I ha
  obtain ⟨mm, hF⟩ := I.fr
  refine PySem.W.ksp_binT (op := op) (T := "int") hF I.ok.mod.kin J rfl sf (by rw [hn]; exact m.at_) m.fn (by rw [hq]; exact h0) (.inl rfl) (by rw [hn]; exact h1) (by rw [hq]; exact h2) h3 ?_
  refine wpAny_mono (run_fn (us := [.ref a, .int i t]) (vs := [.ref a, .int i]) F hr hb .nil hx I (.cons rfl (.cons ⟨t, rfl⟩ .nil)) q) (fun w s' z => ?_) fun _ _ x => x
  obtain ⟨z', H', I', rz, qz⟩ := z
  exact SlX.cmpback rz ⟨z', H', I', rz, qz⟩
/-- -x -/
def rOwn1 (C : Addr) (sp : Sp) (E : XK) : V → Hp → VK → Prop := fun x H Q => ∃ a dx fs, x = .ref a ∧ H a = some (.ins C dx fs) ∧ sp [x] H Q E
theorem un_own (m : Meth X.K C "__neg__" g) (F : FnOk X.prog X.w X.K X.mg X.base CX n g fd ps sp) (hr : Room n X.A) (hb : Binds X.K fd ps []) (hx : Passes CX X E) : UnR X (unaryOp .USub) (rOwn1 C sp E) := by
  intro pins s σ H x v Q I rx h
  obtain ⟨a, dx, fs, rfl, ha, q⟩ := h
  cases (show v = Value.ref a from rx)
  obtain ⟨ox, od, J⟩ := inst_of I ha
  obtain ⟨mm, hF⟩ := I.fr
  exact PySem.W.ksp_neg hF I.ok.mod.kin J m.at_ m.fn (run_fn (us := [.ref a]) (vs := [.ref a]) F hr hb .nil hx I (.cons rfl .nil) q)
/-- x == y, y anything whose class does not come first -/
def rOwnE (K : PySem.W.Frag) (C : Addr) (sp : Sp) (E : XK) : R2 := fun x y H Q => ∃ a dx fs tb, x = .ref a ∧ H a = some (.ins C dx fs) ∧ TyX K H y tb ∧ PySem.W.notFirst K C tb = true ∧ sp [x, y] H Q E
theorem op_eqO2 (m : Meth X.K C "__eq__" g) (F : FnOk X.prog X.w X.K X.mg X.base CX n g fd ps sp) (hr : Room n X.A) (hb : Binds X.K fd ps []) (hx : Passes CX X E) : OpR X (compareOp .Eq) (rOwn2 C sp E) := by
  intro pins s σ H x y v u Q I rx ry h
  obtain ⟨a, dx, fs, b, dy, gs, rfl, rfl, ha, hb', q⟩ := h
  cases (show v = Value.ref a from rx)
  cases (show u = Value.ref b from ry)
  obtain ⟨ox, od, J⟩ := inst_of I ha
  obtain ⟨oy, od', J'⟩ := inst_of I hb'
  obtain ⟨mm, hF⟩ := I.fr
  show wpAny _ _ (richCompare .Eq (.ref a) (.ref b)) _ _ s
  refine PySem.W.cmp_K (op := .Eq) (tb := .ref C) hr.units0 hF I.ok.mod.kin J J'.type (by simp [PySem.W.notFirst]) m.at_ m.fn ?_
  refine wpAny_mono (run_fn (us := [.ref a, .ref b]) (vs := [.ref a, .ref b]) F hr hb .nil hx I (.cons rfl (.cons rfl .nil)) q) (fun w s' z => ?_) fun _ _ x => x
  obtain ⟨z', H', I', rz, qz⟩ := z
  exact SlX.cmpback rz ⟨z', H', I', rz, qz⟩
/-- below a built-in: the callee runs -/
theorem run_in {A : Around} {pins : List (Addr × Obj)} {σ : L2.St} {H : Hp} {s : Shared} {Q : VK} {us : List Value} {ws : List V} (F : FnOk X.prog X.w X.K X.mg X.base CX n g fd ps sp) (hr : Room n A) (e0 : Env0 X.prog X.w X.K X.mg X.base A X.stack s H) (hb : Binds X.K fd ps []) (hx : Passes CX X E) (I : Inv X pins σ H s) (r : Vals ws us) (h : sp ws H Q E) :
    wpAny (model X.prog X.w) A (call (.ref g) us) (EP X pins σ Q) X.xe s := by
  have hl : (us ++ []).length = ps.length := by rw [List.append_nil, ← r.length]; exact F.len _ _ _ _ h
  have b0 := hb s us I.kIn hl
  rw [List.append_nil] at b0
  refine wpAny_call (codeAny_mono (F.run A X.stack s H ⟨us, []⟩ us ws Q E hr e0 b0 r h) fun r s' hq => ?_)
  cases r with
  | error e => exact hx pins σ H s e s' I hq
  | ok fl =>
    cases fl with
    | ret u => exact I.after hq
    | next => exact False.elim hq
    | brk => exact False.elim hq
    | cont => exact False.elim hq
end
section
variable {prog : Program} {w : World} {A : Around} {E : Value → Shared → Prop} {s : Shared} {K : PySem.W.Frag} {x y C f : Addr} {ox : Obj} {od : Option Obj}
theorem ifBound_objNe {M : Model} {args : List Value} {Q : Option Value → Shared → Prop} (X : K.In s.heap) (I : PySem.W.InstAt s.heap x ox C od) (hs : PySem.W.findIn K (.ref C) "__ne__" = some (some (.builtin "object.__ne__")))
    (h : wpAny M A (call (.builtin "object.__ne__") (.ref x :: args)) (fun v => Q (some v)) E s) : wpAny M A (callSpecialIfBound? (.ref x) "__ne__" args) Q E s := by
  simp only [callSpecialIfBound?, bindSpecialIfBound?]
  refine wpAny_holding (wpAny_bind (wpAny_bind (wpAny_bind (I.type.here ((PySem.W.looks_findIn X hs).here ?_)))))
  refine wpAny_bind (wpAny_askSetting (wpAny_ite ?_))
  have fin : wpAny M A (call (.builtin "object.__ne__") ([.ref x] ++ args) >>= fun v => pure (some v)) Q E s := wpAny_bind (wpAny_mono h (fun v s' h' => wpAny_pure h') fun _ _ h' => h')
  split
  · exact wpAny_bind (wpAny_of_eq (F.cmp_object.ne.bind _) (wpAny_pure (by exact fin)))
  · exact wpAny_tryCatch (wpAny_bind (wpAny_of_eq (F.cmp_object.ne.bind _) (wpAny_pure (by exact fin))))
theorem ne_entry {b : Value} {Q : Fin → Shared → Prop} (hu : A.units < cLine) (X : K.In s.heap) (I : PySem.W.InstAt s.heap x ox C od) (hs : PySem.W.findIn K (.ref C) "__eq__" = some (some (.ref f))) (hf : PySem.W.isFn K (.ref f) = true)
    (h : wpAny (model prog w) A (call (.ref f) [.ref x, b]) (fun r s' => ∃ k, r = .bool k ∧ Q (.done (.ret (.bool (!k)))) s') E s) : wpAny (model prog w) A (Builtin.«object.__ne__» ⟨[.ref x, b], []⟩) Q E s := by
  unfold Builtin.«object.__ne__»
  refine wpAny_bind (wpAny_of_eq (a := (Value.ref x, [b])) rfl ?_)
  refine wpAny_bind (wpAny_cRoomFor hu ?_)
  refine wpAny_bind (PySem.W.ifBound_K X I hs hf (wpAny_mono h (fun r s' hr => ?_) fun _ _ z => z))
  obtain ⟨k, rfl, q⟩ := hr
  exact wpAny_bind (wpAny_truthy_bool (wpAny_pure q))
theorem call_objNe {b : Value} {Q : Value → Shared → Prop} (hu : A.in1.units < cLine) (X : K.In s.heap) (I : PySem.W.InstAt s.heap x ox C od) (hm : PySem.W.mroIn K C (.type "object") = some true) (hs : PySem.W.findIn K (.ref C) "__eq__" = some (some (.ref f))) (hf : PySem.W.isFn K (.ref f) = true)
    (h : wpAny (model prog w) A.in1 (call (.ref f) [.ref x, b]) (fun r s' => ∃ k, r = .bool k ∧ Q (.bool (!k)) s') E s) : wpAny (model prog w) A (call (.builtin "object.__ne__") [.ref x, b]) Q E s :=
  wpAny_call (codeAny_call_builtin F.cmp_object.ne.plain F.cmpEntry_ne (PySem.W.check_slot F.cmpKind_ne F.cmpSplit_ne (I.type.andThen (PySem.W.looks_mroIn X hm)) (F.cmpArgs_ne _ _) (ne_entry hu X I hs hf h)))
theorem rc_ne {oy : Obj} {od' : Option Obj} {Q : Value → Shared → Prop} (hu : A.in1.units < cLine) (hu0 : A.units < cLine) (X : K.In s.heap) (I : PySem.W.InstAt s.heap x ox C od) (J : PySem.W.InstAt s.heap y oy C od') (hm : PySem.W.mroIn K C (.type "object") = some true)
    (hn : PySem.W.findIn K (.ref C) "__ne__" = some (some (.builtin "object.__ne__"))) (hs : PySem.W.findIn K (.ref C) "__eq__" = some (some (.ref f))) (hf : PySem.W.isFn K (.ref f) = true)
    (h : wpAny (model prog w) A.in1 (call (.ref f) [.ref x, .ref y]) (fun r s' => ∃ k, r = .bool k ∧ Q (.bool (!k)) s') E s) : wpAny (model prog w) A (richCompare .NotEq (.ref x) (.ref y)) Q E s := by
  have one : wpAny (model prog w) A (tryCompare (.ref x) "__ne__" (.ref y)) (fun r s' => ∃ v, r = some v ∧ Q v s') E s := by
    unfold tryCompare
    refine wpAny_bind (ifBound_objNe X I hn (call_objNe hu X I hm hs hf (wpAny_mono h (fun r s' hr => ?_) fun _ _ e => e)))
    obtain ⟨k, rfl, q⟩ := hr
    exact ⟨k, rfl, wpAny_pure ⟨_, rfl, q⟩⟩
  unfold richCompare
  simp only [oneThing_ref]
  refine wpAny_holding (wpAny_bind (wpAny_cRoomFor hu0 ?_))
  refine wpAny_bind (I.type.here (wpAny_bind (J.type.here ?_)))
  simp only [bne_self_eq_false, Bool.false_eq_true, if_false]
  refine wpAny_bind (wpAny_pure ?_)
  simp only [Bool.false_eq_true, if_false]
  refine wpAny_bind (wpAny_mono one (fun r s' z => ?_) fun _ _ e => e)
  obtain ⟨v, rfl, hq⟩ := z
  exact wpAny_pure hq
theorem bool_own {Q : Value → Shared → Prop} (X : K.In s.heap) (I : PySem.W.InstAt s.heap x ox C od) (hs : PySem.W.findIn K (.ref C) "__bool__" = some (some (.ref f))) (hf : PySem.W.isFn K (.ref f) = true)
    (h : wpAny (model prog w) A.in1.in1 (call (.ref f) [.ref x]) (fun r s₁ => ∃ k, r = Value.bool k ∧ Q r s₁) E s) : wpAny (model prog w) A (call (.type "bool") [.ref x]) Q E s := by
  refine callType_codes (T := "bool") (Bi := Builtin.«object.__init__») (Q₁ := fun r s₁ => ∃ k, r = Value.bool k ∧ Q r s₁) PySem.F.called_bool (PySem.F.typeCall_bool_1 _) PySem.F.entry_object_init ?_ ?_
  · refine codeAny_of_tree ?_
    show wpAny _ A.in1.in1 (do checkBuiltinCall "bool.__new__" ⟨[.type "bool", .ref x], []⟩; again (.builtin "bool.__new__" ⟨[.type "bool", .ref x], []⟩)) _ _ s
    refine wpAny_bind (wpAny_of_eq (PySem.F.newCall_bool_1 _) (wpAny_pure ⟨plainId_quiet (by decide +kernel) _, codeAny_builtin PySem.F.entry_bool_new ?_⟩))
    rw [Around.under_plainId (by decide +kernel) _]
    have tr : wpAny (model prog w) A.in1.in1 (truthy (.ref x)) (fun k s₁ => Q (.bool k) s₁) E s := by
      unfold truthy
      refine wpAny_bind (m := callSpecial? (.ref x) (Str.ofString "__bool__")) (PySem.W.special_fn X I hs (beq_iff_eq.mp hf) (wpAny_mono h (fun r s' hr => ?_) fun _ _ y => y))
      obtain ⟨k, rfl, q⟩ := hr
      exact wpAny_pure q
    obtain ⟨hp, g, d, tk, os⟩ := s
    have f1 := F.conv_sub_bool
    repeat (any_goals (first | assumption | (with_reducible refine wpAny_mono tr (fun k s₁ q => ?_) fun _ _ z => z) | wp_step))
    all_goals first | exact ⟨_, rfl, q⟩ | skip
  · rintro obj s₁ ⟨k, rfl, hq⟩
    exact ⟨rfl, PySem.F.args_object_init_2 _ _, object_init_meets PySem.F.called_bool.init.lookup PySem.F.called_bool.made (by decide) prog w A.in1 _ s₁ ⟨rfl, rfl, hq⟩⟩
end
section
variable {X : Cx} {CX : CXT} {n : Nat} {C g : Addr} {fd : FuncData} {ps : List Str} {sp : Sp} {E : XK}
/-- x != y by the own == -/
def rOwnN (C : Addr) (sp : Sp) (E : XK) : R2 := fun x y H Q => ∃ a dx fs b dy gs, x = .ref a ∧ y = .ref b ∧ H a = some (.ins C dx fs) ∧ H b = some (.ins C dy gs) ∧ sp [x, y] H (fun z H' => ∃ k, z = .bl k ∧ Q (.bl (!k)) H') E
theorem op_neO2 (m : Meth X.K C "__eq__" g) (hm : PySem.W.mroIn X.K C (.type "object") = some true) (hn : PySem.W.findIn X.K (.ref C) "__ne__" = some (some (.builtin "object.__ne__"))) (F : FnOk X.prog X.w X.K X.mg X.base CX n g fd ps sp) (hr : Room (n + 1) X.A) (hb : Binds X.K fd ps []) (hx : Passes CX X E) :
    OpR X (compareOp .NotEq) (rOwnN C sp E) := by
  intro pins s σ H x y v u Q I rx ry h
  obtain ⟨a, dx, fs, b, dy, gs, rfl, rfl, ha, hb', q⟩ := h
  cases (show v = Value.ref a from rx)
  cases (show u = Value.ref b from ry)
  obtain ⟨ox, od, J⟩ := inst_of I ha
  obtain ⟨oy, od', J'⟩ := inst_of I hb'
  have hr1 : Room n X.A.in1 := Room.in1 hr
  show wpAny _ _ (richCompare .NotEq (.ref a) (.ref b)) _ _ s
  refine rc_ne hr1.units0 hr.units0 I.kIn J J' hm hn m.at_ m.fn ?_
  refine wpAny_mono (run_in (us := [.ref a, .ref b]) (ws := [.ref a, .ref b]) F hr1 I.env0.in1 hb hx I (.cons rfl (.cons rfl .nil)) q) (fun w s' z => ?_) fun _ _ x => x
  obtain ⟨z', H', I', rz, k, rfl, qz⟩ := z
  cases (show w = Value.bool k from rz)
  exact ⟨k, rfl, .bl (!k), H', I', rfl, qz⟩
/-- bool(x) -/
def rBoolO (C : Addr) (sp : Sp) (E : XK) : List V → Hp → VK → Prop := fun xs H Q => ∃ a dx fs, xs = [V.ref a] ∧ H a = some (.ins C dx fs) ∧ sp [.ref a] H (fun z H' => ∃ k, z = .bl k ∧ Q (.bl k) H') E
theorem call_boolO (m : Meth X.K C "__bool__" g) (F : FnOk X.prog X.w X.K X.mg X.base CX n g fd ps sp) (hr : Room (n + 2) X.A) (hb : Binds X.K fd ps []) (hx : Passes CX X E) : CallR X (.type "bool") (rBoolO C sp E) := by
  intro pins s σ H xs us Q I r h
  obtain ⟨a, dx, fs, rfl, ha, q⟩ := h
  obtain ⟨u, rfl, ru⟩ := r.one
  cases (show u = Value.ref a from ru)
  obtain ⟨ox, od, J⟩ := inst_of I ha
  have hr2 : Room n X.A.in1.in1 := (show Room (n + 1) X.A.in1 from Room.in1 hr).in1
  refine bool_own I.kIn J m.at_ m.fn (wpAny_mono (run_in (us := [.ref a]) (ws := [.ref a]) F hr2 I.env0.in1.in1 hb hx I (.cons rfl .nil) q) (fun w s' z => ?_) fun _ _ x => x)
  obtain ⟨z', H', I', rz, k, rfl, qz⟩ := z
  cases (show w = Value.bool k from rz)
  exact ⟨k, rfl, .bl k, H', I', rfl, qz⟩
/-- any(xs) of whole numbers -/
def rAnyI (K : PySem.W.Frag) : List V → Hp → VK → Prop := fun vs H Q => ∃ (a : Addr) (ns : List Int), vs = [V.ref a] ∧ SqL K H a (ns.map V.int) ∧ Q (.bl (ns.any fun i => i != 0)) H
theorem vals_ints : ∀ {ns : List Int} {us : List Value}, Vals (ns.map V.int) us → ∀ (i : Nat) (v : Value), us[i]? = some v → ∃ z t, ns[i]? = some z ∧ v = .int z t
  | [], us, h, i, v, hv => by
    rw [List.map_nil] at h
    cases h
    simp at hv
  | z :: ns, us, h, i, v, hv => by
    rw [List.map_cons] at h
    cases h with
    | cons r t =>
      obtain ⟨t', e⟩ := (show ∃ t, _ = Value.int z t from r)
      match i, hv with
      | 0, hv =>
        cases hv
        exact ⟨z, t', rfl, e⟩
      | i + 1, hv => exact vals_ints t i v (by simpa using hv)
theorem any_rangeI : ∀ ns : List Int, (List.range ns.length).any (fun i => ns.getD i 0 != 0) = ns.any fun i => i != 0
  | [] => rfl
  | b :: bs => by
    rw [List.length_cons, List.range_succ_eq_map, List.any_cons, List.any_map, List.any_cons, ← any_rangeI bs]
    all_goals rfl
theorem cr_anyI (hc : X.calm = true) : CallR X (.builtin "any") (rAnyI X.K) := by
  intro pins s σ H vs us Q I r h
  obtain ⟨a, ns, rfl, hs, q⟩ := h
  obtain ⟨its, rv, hl, _⟩ := I.list hs
  rw [Vals.ref1 r]
  refine call_any_walk (iter_any hl.isList fun s₂ e2 st hne => ?_)
  subst e2
  have tr : TruthOf X.prog X.w X.A.in1 (fun i v => its.toArray[i]? = some v) (fun i => ns.getD i 0 != 0) := fun i v s Q E hv hq => by
    obtain ⟨z, t, hz, rfl⟩ := vals_ints rv i v (by simpa using hv)
    have hg : ns.getD i 0 = z := by rw [List.getD_eq_getElem?_getD, hz] <;> rfl
    have hq' : Q (ns.getD i 0 != 0) s := hq
    rw [hg] at hq'
    exact P.truthy_int hq'
  refine ⟨_, _, _, _, _, _, _, rfl, Walks.list (A := X.A.in1) (I.ok.hd hc) _ a hne its.toArray, st, tr, fun h' tk hk => ?_⟩
  refine ⟨.bl _, H, I.kept fun b o eo => hk b o (fun hmem => ?_) (Heap.get?_push_of_some _ eo), ?_, q⟩
  · rcases List.mem_cons.mp hmem with e1 | hmem
    · exact absurd (e1 ▸ Heap.lt_size eo) (Nat.lt_irrefl _)
    · cases hmem
  · show Value.bool _ = Value.bool _
    have hlen := rv.length
    rw [List.length_map] at hlen
    rw [← any_rangeI, List.size_toArray, ← hlen]
end
def topS (i : Nat) : Stmt := PySem.Challenge.pw_grainyard_k13_whole_rules_of_tables.main.body.getD i (.Pass ⟨0, 0, 0, 0⟩)
abbrev s_added : Stmt := topS 4
theorem sc_added : FnScope ["pairs", "a", "b"] ["pairs"] (defScope s_added) := ⟨rfl, rfl, rfl, by decide +kernel, rfl, by decide +kernel, by decide +kernel⟩
abbrev s_scaled : Stmt := topS 5
theorem sc_scaled : FnScope ["pair", "number", "a", "b"] ["pair", "number"] (defScope s_scaled) := ⟨rfl, rfl, rfl, by decide +kernel, rfl, by decide +kernel, by decide +kernel⟩
abbrev s_product : Stmt := topS 6
theorem sc_product : FnScope ["one", "other", "root", "a", "b", "c", "e"] ["one", "other", "root"] (defScope s_product) := ⟨rfl, rfl, rfl, by decide +kernel, rfl, by decide +kernel, by decide +kernel⟩
abbrev s_Table_init : Stmt := inClass (topS 8) 0
theorem sc_Table_init : FnScope ["self", "rows", "t00", "t01", "t10", "t11"] ["self", "rows"] (defScope s_Table_init) := ⟨rfl, rfl, rfl, by decide +kernel, rfl, by decide +kernel, by decide +kernel⟩
abbrev s_Table_rows : Stmt := inClass (topS 8) 1
theorem sc_Table_rows : FnScope ["self"] ["self"] (defScope s_Table_rows) := ⟨rfl, rfl, rfl, by decide +kernel, rfl, by decide +kernel, by decide +kernel⟩
abbrev s_Table_area_for : Stmt := inClass (topS 8) 2
theorem sc_Table_area_for : FnScope ["self", "root", "t00", "t01", "t10", "t11"] ["self", "root"] (defScope s_Table_area_for) := ⟨rfl, rfl, rfl, by decide +kernel, rfl, by decide +kernel, by decide +kernel⟩
abbrev s_Table_marks : Stmt := inClass (topS 8) 3
theorem sc_Table_marks : FnScope ["self", "turning", "t00", "t01", "t10", "t11"] ["self", "turning"] (defScope s_Table_marks) := ⟨rfl, rfl, rfl, by decide +kernel, rfl, by decide +kernel, by decide +kernel⟩
abbrev s_Table_weight : Stmt := inClass (topS 8) 4
theorem sc_Table_weight : FnScope ["self", "pair", "x", "y", "t00", "t01", "t10", "t11"] ["self", "pair"] (defScope s_Table_weight) := ⟨rfl, rfl, rfl, by decide +kernel, rfl, by decide +kernel, by decide +kernel⟩
abbrev s_Table_determinant : Stmt := inClass (topS 8) 5
theorem sc_Table_determinant : FnScope ["self", "t00", "t01", "t10", "t11"] ["self"] (defScope s_Table_determinant) := ⟨rfl, rfl, rfl, by decide +kernel, rfl, by decide +kernel, by decide +kernel⟩
abbrev s_Table_add : Stmt := inClass (topS 8) 6
theorem sc_Table_add : FnScope ["self", "other", "upper", "lower", "other_upper", "other_lower"] ["self", "other"] (defScope s_Table_add) := ⟨rfl, rfl, rfl, by decide +kernel, rfl, by decide +kernel, by decide +kernel⟩
abbrev s_Table_sub : Stmt := inClass (topS 8) 7
theorem sc_Table_sub : FnScope ["self", "other"] ["self", "other"] (defScope s_Table_sub) := ⟨rfl, rfl, rfl, by decide +kernel, rfl, by decide +kernel, by decide +kernel⟩
abbrev s_Table_neg : Stmt := inClass (topS 8) 8
theorem sc_Table_neg : FnScope ["self"] ["self"] (defScope s_Table_neg) := ⟨rfl, rfl, rfl, by decide +kernel, rfl, by decide +kernel, by decide +kernel⟩
abbrev s_Table_mul : Stmt := inClass (topS 8) 9
theorem sc_Table_mul : FnScope ["self", "other", "upper", "lower"] ["self", "other"] (defScope s_Table_mul) := ⟨rfl, rfl, rfl, by decide +kernel, rfl, by decide +kernel, by decide +kernel⟩
abbrev s_Table_eq : Stmt := inClass (topS 8) 12
theorem sc_Table_eq : FnScope ["self", "other"] ["self", "other"] (defScope s_Table_eq) := ⟨rfl, rfl, rfl, by decide +kernel, rfl, by decide +kernel, by decide +kernel⟩
abbrev s_Table_bool : Stmt := inClass (topS 8) 13
theorem sc_Table_bool : FnScope ["self", "t00", "t01", "t10", "t11"] ["self"] (defScope s_Table_bool) := ⟨rfl, rfl, rfl, by decide +kernel, rfl, by decide +kernel, by decide +kernel⟩
abbrev s_outer : Stmt := topS 9
theorem sc_outer : FnScope ["one", "other", "a", "b"] ["one", "other"] (defScope s_outer) := ⟨rfl, rfl, rfl, by decide +kernel, rfl, by decide +kernel, by decide +kernel⟩
abbrev s_source : Stmt := topS 11
theorem sc_source : FnScope ["_law_script", "_law_mix", "_law_cell"] ["_law_script"] (defScope s_source) := ⟨rfl, rfl, rfl, by decide +kernel, rfl, by decide +kernel, by decide +kernel⟩
abbrev s_pull : Stmt := topS 12
theorem sc_pull : FnScope ["_law_bag", "_law_size", "_law_mix", "_law_cell", "_law_found"] ["_law_bag", "_law_size"] (defScope s_pull) := ⟨rfl, rfl, rfl, by decide +kernel, rfl, by decide +kernel, by decide +kernel⟩
abbrev s_of : Stmt := topS 13
theorem sc_of : FnScope ["_law_bag", "_law_some"] ["_law_bag", "_law_some"] (defScope s_of) := ⟨rfl, rfl, rfl, by decide +kernel, rfl, by decide +kernel, by decide +kernel⟩
abbrev s_any_pair : Stmt := topS 14
theorem sc_any_pair : FnScope ["_law_bag", "_law_size"] ["_law_bag"] (defScope s_any_pair) := ⟨rfl, rfl, rfl, by decide +kernel, rfl, by decide +kernel, by decide +kernel⟩
abbrev s_a_number : Stmt := topS 15
theorem sc_a_number : FnScope ["_law_bag", "_law_size"] ["_law_bag"] (defScope s_a_number) := ⟨rfl, rfl, rfl, by decide +kernel, rfl, by decide +kernel, by decide +kernel⟩
abbrev s_roots : Stmt := topS 16
theorem sc_roots : FnScope ["_law_d"] [] (defScope s_roots) := ⟨rfl, rfl, rfl, by decide +kernel, rfl, by decide +kernel, by decide +kernel⟩
abbrev s_a_root : Stmt := topS 17
theorem sc_a_root : FnScope ["_law_bag"] ["_law_bag"] (defScope s_a_root) := ⟨rfl, rfl, rfl, by decide +kernel, rfl, by decide +kernel, by decide +kernel⟩
abbrev s_law : Stmt := topS 18
theorem sc_law : FnScope ["_law_script", "_law_bag", "_law_turn", "_law_pair", "_law_x", "_law_y", "_law_z", "_law_size", "_law_more", "_law_root", "_law_u", "_law_v", "_law_w", "_law_k"] ["_law_script"] (defScope s_law) := ⟨rfl, rfl, rfl, by decide +kernel, rfl, by decide +kernel, by decide +kernel⟩
structure Txt (K : PySem.W.Frag) (mg : Str → Option Value) where
  f_added : Addr
  d_added : FuncData
  F_added : Fun K "added" "added" s_added f_added d_added
  g_added : mg "added" = some (.ref f_added)
  f_scaled : Addr
  d_scaled : FuncData
  F_scaled : Fun K "scaled" "scaled" s_scaled f_scaled d_scaled
  g_scaled : mg "scaled" = some (.ref f_scaled)
  b_scaled : Binds K d_scaled ["pair", "number"] []
  f_product : Addr
  d_product : FuncData
  F_product : Fun K "product" "product" s_product f_product d_product
  g_product : mg "product" = some (.ref f_product)
  b_product : Binds K d_product ["one", "other", "root"] []
  C_Table : Addr
  cl_Table : Cls K C_Table
  g_Table : mg "Table" = some (.ref C_Table)
  sf_Table : PySem.W.selfFirst K C_Table = true
  nq_Table : PySem.W.noSeq K C_Table = true
  n_Table_cells : NoAttr K C_Table "cells"
  mo_Table : PySem.W.mroIn K C_Table (.type "object") = some true
  ne_Table : PySem.W.findIn K (.ref C_Table) "__ne__" = some (some (.builtin "object.__ne__"))
  ca_Table : PySem.W.findIn K (.ref C_Table) "__class__" = some (some (.builtin "object.__class__"))
  hn : PySem.W.specialIn K (.builtin "object.__class__") "__get__" = some (some (.builtin "getset_descriptor.__get__"))
  ht : PySem.W.takesIn K (.builtin "object.__class__") = some true
  x_Table_rmul : PySem.W.findIn K (.ref C_Table) "__rmul__" = some none
  i_mul : PySem.W.findIn K (.type "int") "__mul__" = some (some (.builtin "int.__mul__"))
  i_rmul : PySem.W.findIn K (.type "int") "__rmul__" = some (some (.builtin "int.__rmul__"))
  is_Table : PySem.W.subIn K (.type "int") (.ref C_Table) = some false
  f_Table_init : Addr
  d_Table_init : FuncData
  r0_Table_init : Addr
  F_Table_init : FunD K "__init__" "Table.__init__" (defArgs s_Table_init) (defBody s_Table_init) (defScope s_Table_init) [.ref r0_Table_init] [] f_Table_init d_Table_init
  b_Table_init : Binds K d_Table_init ["self", "rows"] []
  b0_Table_init : Binds K d_Table_init ["self", "rows"] [.ref r0_Table_init]
  v0_Table_init : Vals [.ref r0_Table_init] [.ref r0_Table_init]
  z0_Table_init : Dflt K r0_Table_init
  M_Table : Mk K C_Table f_Table_init
  f_Table_rows : Addr
  d_Table_rows : FuncData
  F_Table_rows : Fun K "rows" "Table.rows" s_Table_rows f_Table_rows d_Table_rows
  b_Table_rows : Binds K d_Table_rows ["self"] []
  m_Table_rows : Meth K C_Table "rows" f_Table_rows
  f_Table_area_for : Addr
  d_Table_area_for : FuncData
  F_Table_area_for : Fun K "area_for" "Table.area_for" s_Table_area_for f_Table_area_for d_Table_area_for
  b_Table_area_for : Binds K d_Table_area_for ["self", "root"] []
  m_Table_area_for : Meth K C_Table "area_for" f_Table_area_for
  f_Table_marks : Addr
  d_Table_marks : FuncData
  F_Table_marks : Fun K "marks" "Table.marks" s_Table_marks f_Table_marks d_Table_marks
  b_Table_marks : Binds K d_Table_marks ["self", "turning"] [.bool false]
  m_Table_marks : Meth K C_Table "marks" f_Table_marks
  f_Table_weight : Addr
  d_Table_weight : FuncData
  F_Table_weight : Fun K "weight" "Table.weight" s_Table_weight f_Table_weight d_Table_weight
  b_Table_weight : Binds K d_Table_weight ["self", "pair"] []
  m_Table_weight : Meth K C_Table "weight" f_Table_weight
  f_Table_determinant : Addr
  d_Table_determinant : FuncData
  F_Table_determinant : Fun K "determinant" "Table.determinant" s_Table_determinant f_Table_determinant d_Table_determinant
  b_Table_determinant : Binds K d_Table_determinant ["self"] []
  m_Table_determinant : Meth K C_Table "determinant" f_Table_determinant
  f_Table_add : Addr
  d_Table_add : FuncData
  F_Table_add : Fun K "__add__" "Table.__add__" s_Table_add f_Table_add d_Table_add
  b_Table_add : Binds K d_Table_add ["self", "other"] []
  m_Table_add : Meth K C_Table "__add__" f_Table_add
  f_Table_sub : Addr
  d_Table_sub : FuncData
  F_Table_sub : Fun K "__sub__" "Table.__sub__" s_Table_sub f_Table_sub d_Table_sub
  b_Table_sub : Binds K d_Table_sub ["self", "other"] []
  m_Table_sub : Meth K C_Table "__sub__" f_Table_sub
  f_Table_neg : Addr
  d_Table_neg : FuncData
  F_Table_neg : Fun K "__neg__" "Table.__neg__" s_Table_neg f_Table_neg d_Table_neg
  b_Table_neg : Binds K d_Table_neg ["self"] []
  m_Table_neg : Meth K C_Table "__neg__" f_Table_neg
  f_Table_mul : Addr
  d_Table_mul : FuncData
  F_Table_mul : Fun K "__mul__" "Table.__mul__" s_Table_mul f_Table_mul d_Table_mul
  b_Table_mul : Binds K d_Table_mul ["self", "other"] []
  m_Table_mul : Meth K C_Table "__mul__" f_Table_mul
  f_Table_eq : Addr
  d_Table_eq : FuncData
  F_Table_eq : Fun K "__eq__" "Table.__eq__" s_Table_eq f_Table_eq d_Table_eq
  b_Table_eq : Binds K d_Table_eq ["self", "other"] []
  m_Table_eq : Meth K C_Table "__eq__" f_Table_eq
  f_Table_bool : Addr
  d_Table_bool : FuncData
  F_Table_bool : Fun K "__bool__" "Table.__bool__" s_Table_bool f_Table_bool d_Table_bool
  b_Table_bool : Binds K d_Table_bool ["self"] []
  m_Table_bool : Meth K C_Table "__bool__" f_Table_bool
  f_outer : Addr
  d_outer : FuncData
  F_outer : Fun K "outer" "outer" s_outer f_outer d_outer
  g_outer : mg "outer" = some (.ref f_outer)
  b_outer : Binds K d_outer ["one", "other"] []
  f_source : Addr
  d_source : FuncData
  F_source : Fun K "_law_source" "_law_source" s_source f_source d_source
  g_source : mg "_law_source" = some (.ref f_source)
  b_source : Binds K d_source ["_law_script"] []
  f_pull : Addr
  d_pull : FuncData
  F_pull : Fun K "_law_pull" "_law_pull" s_pull f_pull d_pull
  g_pull : mg "_law_pull" = some (.ref f_pull)
  b_pull : Binds K d_pull ["_law_bag", "_law_size"] []
  f_of : Addr
  d_of : FuncData
  F_of : Fun K "_law_of" "_law_of" s_of f_of d_of
  g_of : mg "_law_of" = some (.ref f_of)
  b_of : Binds K d_of ["_law_bag", "_law_some"] []
  f_any_pair : Addr
  d_any_pair : FuncData
  F_any_pair : Fun K "_law_any_pair" "_law_any_pair" s_any_pair f_any_pair d_any_pair
  g_any_pair : mg "_law_any_pair" = some (.ref f_any_pair)
  b_any_pair : Binds K d_any_pair ["_law_bag"] []
  f_a_number : Addr
  d_a_number : FuncData
  F_a_number : Fun K "_law_a_number" "_law_a_number" s_a_number f_a_number d_a_number
  g_a_number : mg "_law_a_number" = some (.ref f_a_number)
  b_a_number : Binds K d_a_number ["_law_bag"] []
  f_roots : Addr
  d_roots : FuncData
  F_roots : Fun K "_law_roots" "_law_roots" s_roots f_roots d_roots
  g_roots : mg "_law_roots" = some (.ref f_roots)
  b_roots : Binds K d_roots [] []
  f_a_root : Addr
  d_a_root : FuncData
  F_a_root : Fun K "_law_a_root" "_law_a_root" s_a_root f_a_root d_a_root
  g_a_root : mg "_law_a_root" = some (.ref f_a_root)
  b_a_root : Binds K d_a_root ["_law_bag"] []
  n_range : mg "range" = none
  n_str : mg "str" = none
  n_sum : mg "sum" = none
  n_any : mg "any" = none
  n_list : mg "list" = none
  n_isinstance : mg "isinstance" = none
  n_len : mg "len" = none
  n_bool : mg "bool" = none
  kb_Table_marks_turning : KBn K d_Table_marks ["self", "turning"] 1 ["turning"] (fun us ws : List Value => [us.getD 0 .none, ws.getD 0 .none]) (fun us ws : List V => [us.getD 0 .non, ws.getD 0 .non])
theorem vals_getD : ∀ {zs : List V} {ws : List Value} (_ : Vals zs ws) (i : Nat), RelV (zs.getD i .non) (ws.getD i .none)
  | _, _, .nil, _ => rfl
  | _, _, .cons r _, 0 => r
  | _, _, .cons _ t, i + 1 => vals_getD t i
theorem kbn_Table_marks_turning {K : PySem.W.Frag} {f : Addr} {fd : FuncData} (F : Fun K "marks" "Table.marks" s_Table_marks f fd) : KBn K fd ["self", "turning"] 1 ["turning"] (fun us ws : List Value => [us.getD 0 .none, ws.getD 0 .none]) (fun us ws : List V => [us.getD 0 .non, ws.getD 0 .non]) := by
  obtain ⟨o1, o2, v1, v2, v3, a1, v4, v5, s1, rfl, r1, r2⟩ := F.ex
  refine ⟨fun s us ws _ l1 l2 => ?_, fun r1 r2 => .cons (vals_getD r1 0) (.cons (vals_getD r2 0) (.nil))⟩
  match us, ws, l1, l2 with
  | [_], [_], _, _ => exact .of_eq rfl
/-! ### heaps, and the bag that the draws change -/
def Keep (b : Addr) (H H' : Hp) : Prop := ∀ a o, a ≠ b → H a = some o → H' a = some o
theorem Keep.refl {b : Addr} (H : Hp) : Keep b H H := fun _ _ _ e => e
theorem Keep.trans {b : Addr} {H H1 H2 : Hp} (x : Keep b H H1) (y : Keep b H1 H2) : Keep b H H2 := fun a o n e => y a o n (x a o n e)
theorem keep_put {b : Addr} {H : Hp} {o : HO} : Keep b H (upd H b o) := fun a u n e => (upd_ne n).trans e
theorem keep_new {b p : Addr} {H : Hp} {o : HO} (hp : H p = none) : Keep b H (upd H p o) := fun a u _ e => (upd_ne (ne_of_none e hp)).trans e
theorem same_new {p : Addr} {H : Hp} {o : HO} (hp : H p = none) : Same H (upd H p o) := fun a u e => (upd_ne (ne_of_none e hp)).trans e
theorem keep_of {b : Addr} {H H' : Hp} (s : Same H H') : Keep b H H' := fun a o _ e => s a o e
theorem Same.keep {b : Addr} {H H1 H2 : Hp} (s : Same H H1) (k : Keep b H1 H2) (hb : H b = none) : Same H H2 := fun a o e => k a o (ne_of_none e hb) (s a o e)
structure BagAt (H : Hp) (b s : Addr) (ns : List Int) (i j m c : Int) : Prop where
  hb : H b = some (.lst [.ref s, .int i, .int j, .int m, .int c])
  hs : H s = some (.lst (ns.map V.int))
  i0 : 0 ≤ i
  i1 : i ≤ (ns.length : Int)
  m0 : 0 ≤ m
  m1 : m < 2147483399
def Bag (H : Hp) (b sb : Addr) : Prop := ∃ (ns : List Int) (i j m c : Int), BagAt H b sb ns i j m c
theorem BagAt.ne {H : Hp} {b s : Addr} {ns : List Int} {i j m c : Int} (B : BagAt H b s ns i j m c) : s ≠ b := ne_of B.hs B.hb (by
  intro e
  injection e with e
  cases ns with
  | nil => simp at e
  | cons x r => simp at e)
theorem BagAt.put {H : Hp} {b s : Addr} {ns : List Int} {i j m c : Int} (B : BagAt H b s ns i j m c) {i' j' m' c' : Int} (h0 : 0 ≤ i') (h1 : i' ≤ (ns.length : Int)) (h2 : 0 ≤ m') (h3 : m' < 2147483399) :
    BagAt (upd H b (.lst [.ref s, .int i', .int j', .int m', .int c'])) b s ns i' j' m' c' := ⟨upd_same, (upd_ne B.ne).trans B.hs, h0, h1, h2, h3⟩
theorem BagAt.same {H H' : Hp} {b s : Addr} {ns : List Int} {i j m c : Int} (B : BagAt H b s ns i j m c) (e : Same H H') : BagAt H' b s ns i j m c := ⟨e _ _ B.hb, e _ _ B.hs, B.i0, B.i1, B.m0, B.m1⟩
theorem Bag.same {H H' : Hp} {b sb : Addr} (B : Bag H b sb) (e : Same H H') : Bag H' b sb := by
  obtain ⟨ns, i, j, m, c, B⟩ := B
  exact ⟨ns, i, j, m, c, B.same e⟩
theorem Bag.new {H : Hp} {b sb p : Addr} {o : HO} (B : Bag H b sb) (hp : H p = none) : Bag (upd H p o) b sb := B.same (same_new hp)
theorem Bag.ne {H : Hp} {b sb p : Addr} (B : Bag H b sb) (hp : H p = none) : p ≠ b := by
  obtain ⟨ns, i, j, m, c, B⟩ := B
  exact (ne_of_none B.hb hp).symm
theorem Bag.ne2 {H : Hp} {b sb p : Addr} (B : Bag H b sb) (hp : H p = none) : p ≠ sb := by
  obtain ⟨ns, i, j, m, c, B⟩ := B
  exact (ne_of_none B.hs hp).symm
theorem Bag.tup {H : Hp} {b sb p : Addr} {xs : List V} (B : Bag H b sb) (hp : H p = some (.tup xs)) : p ≠ b := by
  obtain ⟨ns, i, j, m, c, B⟩ := B
  exact ne_of hp B.hb (by intro z; cases z)
theorem Bag.put {H : Hp} {b sb l : Addr} {o : HO} (B : Bag H b sb) (h1 : l ≠ b) (h2 : l ≠ sb) : Bag (upd H l o) b sb := by
  obtain ⟨ns, i, j, m, c, B⟩ := B
  exact ⟨ns, i, j, m, c, (upd_ne h1.symm).trans B.hb, (upd_ne h2.symm).trans B.hs, B.i0, B.i1, B.m0, B.m1⟩
theorem Keep.list {K : PySem.W.Frag} {H H' : Hp} {b p : Addr} {xs : List V} (k : Keep b H H') (hp : p ≠ b) (h : H p = some (.lst xs)) : SqL K H' p xs := SqL.of (k _ _ hp h)
theorem at_some {α : Type} {xs : List α} {i : Int} (h0 : 0 ≤ i) (h1 : i < (xs.length : Int)) : ∃ v, xs[i.toNat]? = some v ∧ atI xs i = some v := by
  obtain ⟨n, rfl⟩ := Int.eq_ofNat_of_zero_le h0
  have hl : n < xs.length := by omega
  exact ⟨xs[n], by simp [hl], atI_nat (by simp [hl])⟩
theorem at_ex {ns : List Int} {i : Int} (h0 : 0 ≤ i) (h1 : i < (ns.length : Int)) : ∃ z, atI (ns.map V.int) i = some (.int z) := by
  obtain ⟨n, rfl⟩ := Int.eq_ofNat_of_zero_le h0
  have hl : n < ns.length := by omega
  exact ⟨ns[n], atI_nat (by simp [hl])⟩
/-! ### f(k = v, ..): keywords alone -/
section
variable {X : Cx}
theorem pe_kwOnly {CX : CXT} {k : Nat} {f : Addr} {fd : FuncData} {ps ks : List Str} {sp : Sp} {E : XK} {x : Str} {p pos : Pos} {kws : List Keyword} {tk : TA} {g : List Value → List Value → List Value} {gV : List V → List V → List V}
    (F : FnOk X.prog X.w X.K X.mg X.base CX k f fd ps sp) (hr : Room k X.A) (hg : Gl X x) (hm : X.mg x = some (.ref f))
    (hk : PySem.W.keepIn X.K (.ref f) = true) (hb : KBn X.K fd ps 0 ks g gV) (hx : Passes CX X E) (hkw : PK X kws tk)
    (hall : (backToKw pos (keywordEach kws X.env)).all (·.1.isSome) = true := by rfl)
    (hks : (backToKw pos (keywordEach kws X.env)).filterMap (·.1) = ks := by rfl)
    (hdb : (x == ("__debug__" : Str)) = false := by decide)
    (hpl : ((backTo pos (starEach [] X.env)).any (·.1) || (backToKw pos (keywordEach kws X.env)).any (·.1.isNone)) = false := by rfl) :
    PE X (.Call (.Name x p) [] kws pos) (fun σ H Q => tk σ H fun zs H2 => zs.length = ks.length ∧ sp (gV [] zs) H2 Q E) := by
  refine ⟨fun pins s σ H Q I h => wpAny_Call_Name_kw (ld_glob I hg hm ?_ hdb)⟩
  refine PySem.W.callWith_KW0 (h₀ := X.base) I.ok.mod.kin hk hall ?_ hpl
  refine thn (hkw.run pos pins s σ H _ I h) fun ws s2 ⟨zs, H2, I2, rz, l2, q2⟩ => ⟨I2.kIn, ?_⟩
  rw [hks]
  exact run_fnN (us := []) (vs := []) F hr hb hx I2 .nil rz rfl l2 q2
end
/-! ### the law's own draws -/
section
variable {base : Heap} {K : PySem.W.Frag} {mg : Str → Option Value} {P : Program} {w : World}
def spPull : Sp := fun vs H Q _ => ∃ (b sb : Addr) (n : Int), vs = [.ref b, .int n] ∧ Bag H b sb ∧ 0 < n ∧ n.natAbs < 2 ^ 100 ∧ ∀ z H', 0 ≤ z → z < n → Bag H' b sb → Keep b H H' → Q (.int z) H'
theorem ok_pull (T : Txt K mg) : FnOk P w K mg base CX0 1 T.f_pull T.d_pull ["_law_bag", "_law_size"] spPull := by
  refine T.F_pull.ok sc_pull (fun vs H Q E h => ?_) (fun cdv A outer s H vs Q E hr h => ?_)
  · obtain ⟨b, sb, n, rfl, _⟩ := h
    rfl
  · obtain ⟨b, s1, n, rfl, ⟨ns, i, j, m, c, B⟩, h0, h1, q⟩ := h
    refine ⟨_, (pss_cons (ps_asg (pe_op op_add (pe_ix ix_list (pv 0) pe_int (fun _ _ => rfl)) pe_int) (pg_sub (pv 0) pe_int set_list))
      (Evl.pss_cut (ps_if (PW.pt (pw_and (pt_cmpR op_eq (pe_ix ix_list (pv 0) pe_int (fun _ _ => rfl)) pe_int (nomark _)) (pw_and1 (pt_cmpR op_lt (pe_ix ix_list (pv 0) pe_int (fun _ _ => rfl)) (pe_callB call_len_seq (by rfl) T.n_len (by decide +kernel) (pa_cons (pe_ix ix_list (pv 0) pe_int (fun _ _ => rfl)) pa_nil)) (nomark _))))) (pss_cons (ps_set (i := 3) sc_pull.nd rfl (Or.inl rfl) (pe_ix ix_list (pe_ix ix_list (pv 0) pe_int (fun _ _ => rfl)) (pe_ix ix_list (pv 0) pe_int (fun _ _ => rfl)) (fun _ _ => rfl)))
      (pss_cons (ps_asg (pe_op op_add (pe_ix ix_list (pv 0) pe_int (fun _ _ => rfl)) pe_int) (pg_sub (pv 0) pe_int set_list))
      (pss_one (ps_if (pt_cmpR op_ge (pv 3) (pe_op op_pow pe_int pe_int) (nomark _)) (pss_one (ps_asg (pv 3) (pg_sub (pv 0) pe_int set_list))) (pss_cons (ps_set (i := 2) sc_pull.nd rfl (Or.inl rfl) (pe_op op_add (pe_op op_mul (pe_ix ix_list (pv 0) pe_int (fun _ _ => rfl)) pe_int) (pe_op op_mul (pe_op op_mod (pv 3) pe_int) pe_int)))
      (pss_one (ps_asg (pe_op op_mod (pe_op op_add (pv 2) pe_int) pe_int) (pg_sub (pv 0) pe_int set_list)))))))) pss_nil)
      (pss_cons (ps_if (pt_cmpR op_gt (pe_ix ix_list (pv 0) pe_int (fun _ _ => rfl)) pe_int (nomark _)) (pss_cons (ps_set (i := 4) sc_pull.nd rfl (Or.inl rfl) (pe_op op_mod (pe_ix ix_list (pv 0) pe_int (fun _ _ => rfl)) (pv 1)))
      (pss_cons (ps_asg (pe_op op_fdivW (pe_ix ix_list (pv 0) pe_int (fun _ _ => rfl)) (pv 1)) (pg_sub (pv 0) pe_int set_list))
      (pss_one (ps_ret (pv 4))))) pss_nil)
      (pss_cons (ps_set (i := 2) sc_pull.nd rfl (Or.inl rfl) (pe_op op_add (pe_op op_mul (pe_op op_mul (pe_ix ix_list (pv 0) pe_int (fun _ _ => rfl)) (pe_ix ix_list (pv 0) pe_int (fun _ _ => rfl))) pe_int) (pe_op op_mul (pe_ix ix_list (pv 0) pe_int (fun _ _ => rfl)) pe_int)))
      (pss_cons (ps_asg (pe_op op_mod (pe_op op_add (pv 2) (pe_op op_mul pe_int (pe_ix ix_list (pv 0) pe_int (fun _ _ => rfl)))) pe_int) (pg_sub (pv 0) pe_int set_list))
      (pss_one (ps_ret (pe_op op_mod (pe_op op_fdiv (pe_ix ix_list (pv 0) pe_int (fun _ _ => rfl)) pe_int) (pv 1))))))))), ?_⟩
    -- the count of the draws
    have B1 := B.put (j' := j) (c' := c + 1) B.i0 B.i1 B.m0 B.m1
    refine ⟨.ref b, rfl, b, _, 4, .int c, rfl, rfl, SqL.of B.hb, atI_nat (j := 4) rfl, c, 1, rfl, rfl, .ref b, rfl, b, _, 4, 4, rfl, rfl, B.hb, rfl, ?_⟩
    refine ⟨fun σ H' => ∃ y2 y3 y4, σ = [some (.ref b), some (.int n), y2, y3, y4] ∧ Bag H' b s1 ∧ Keep b H H', ?_, ?_⟩
    · -- the next cell of the script
      refine ⟨.ref b, rfl, b, _, 2, .int j, rfl, rfl, SqL.of B1.hb, atI_nat (j := 2) rfl, rfl, _, rfl, ite2 (fun e => ?_) (fun e => ?_)⟩
      · refine ⟨.ref b, rfl, b, _, 1, .int i, rfl, rfl, SqL.of B1.hb, atI_nat (j := 1) rfl, .ref b, rfl, b, _, 0, .ref s1, rfl, rfl, SqL.of B1.hb, atI_nat (j := 0) rfl, s1, _, rfl, .inl (SqL.of B1.hs), i, _, rfl, rfl, _, rfl, ite2 (fun e2 => ?_) (fun e2 => ?_)⟩
        · have e3 : i < (ns.length : Int) := by
            have := of_decide_eq_true e2
            rw [List.length_map] at this
            exact this
          obtain ⟨z, hz⟩ := at_ex B.i0 e3
          have B2 := B1.put (j' := j) (c' := c + 1) (show 0 ≤ i + 1 by have := B.i0; omega) (show i + 1 ≤ (ns.length : Int) by omega) B.m0 B.m1
          refine ⟨.ref b, rfl, b, _, 0, .ref s1, rfl, rfl, SqL.of B1.hb, atI_nat (j := 0) rfl, .ref b, rfl, b, _, 1, .int i, rfl, rfl, SqL.of B1.hb, atI_nat (j := 1) rfl, s1, _, i, _, rfl, rfl, SqL.of B1.hs, hz, ?_⟩
          refine ⟨.ref b, rfl, b, _, 1, .int i, rfl, rfl, SqL.of B1.hb, atI_nat (j := 1) rfl, i, 1, rfl, rfl, .ref b, rfl, b, _, 1, 1, rfl, rfl, B1.hb, rfl, ?_⟩
          refine ⟨_, rfl, 10, 18, rfl, rfl, ⟨by decide, by decide, by decide⟩, z, _, rfl, rfl, _, rfl, ite2 (fun e4 => ?_) (fun e4 => ?_)⟩
          · have B3 := B2.put (j' := z) (c' := c + 1) (show 0 ≤ i + 1 by have := B.i0; omega) (show i + 1 ≤ (ns.length : Int) by omega) B.m0 B.m1
            refine ⟨_, rfl, .ref b, rfl, b, _, 2, 2, rfl, rfl, B2.hb, rfl, ?_⟩
            exact ⟨_, _, _, rfl, ⟨ns, _, _, _, _, B3⟩, keep_put.trans (keep_put.trans keep_put)⟩
          · refine ⟨.ref b, rfl, b, _, 3, .int m, rfl, rfl, SqL.of B2.hb, atI_nat (j := 3) rfl, m, 40014, rfl, rfl, .inr ⟨by decide, by decide⟩, _, rfl, z, 2147483399, rfl, rfl, (by show (0 : Int) < 2147483399; decide), _, 69069, rfl, rfl, .inr ⟨by decide, by decide⟩, _, _, rfl, rfl, ?_⟩
            refine ⟨_, rfl, _, 11, rfl, rfl, _, 2147483399, rfl, rfl, (by show (0 : Int) < 2147483399; decide), .ref b, rfl, b, _, 3, 3, rfl, rfl, B2.hb, rfl, ?_⟩
            have B3 := B2.put (j' := j) (m' := (m * 40014 + z % 2147483399 * 69069 + 11) % 2147483399) (c' := c + 1) (show 0 ≤ i + 1 by have := B.i0; omega) (show i + 1 ≤ (ns.length : Int) by omega) (by omega) (by omega)
            exact ⟨_, _, _, rfl, ⟨ns, _, _, _, _, B3⟩, keep_put.trans (keep_put.trans keep_put)⟩
        · exact ⟨_, _, _, rfl, ⟨ns, _, _, _, _, B1⟩, keep_put⟩
      · exact ⟨_, _, _, rfl, ⟨ns, _, _, _, _, B1⟩, keep_put⟩
    · rintro σ H' ⟨y2, y3, y4, rfl, ⟨ns2, i2, j2, m2, c2, B2⟩, k2⟩
      refine ⟨.ref b, rfl, b, _, 2, .int j2, rfl, rfl, SqL.of B2.hb, atI_nat (j := 2) rfl, j2, 0, rfl, rfl, _, rfl, ite2 (fun e => ?_) (fun e => ?_)⟩
      · have B3 := B2.put (j' := j2 / n) (c' := c2) B2.i0 B2.i1 B2.m0 B2.m1
        refine ⟨.ref b, rfl, b, _, 2, .int j2, rfl, rfl, SqL.of B2.hb, atI_nat (j := 2) rfl, .int n, rfl, j2, n, rfl, rfl, h0, ?_⟩
        refine ⟨.ref b, rfl, b, _, 2, .int j2, rfl, rfl, SqL.of B2.hb, atI_nat (j := 2) rfl, .int n, rfl, j2, n, rfl, rfl, wide_div h0 h1 (by decide) (by decide), .ref b, rfl, b, _, 2, 2, rfl, rfl, B2.hb, rfl, ?_⟩
        exact ⟨_, rfl, q _ _ (Int.emod_nonneg _ (by omega)) (Int.emod_lt_of_pos _ h0) ⟨ns2, _, _, _, _, B3⟩ (k2.trans keep_put)⟩
      · have hm : -(2 ^ 64) < m2 ∧ m2 < 2 ^ 64 := ⟨by have := B2.m0; omega, by have := B2.m1; omega⟩
        refine ⟨.ref b, rfl, b, _, 3, .int m2, rfl, rfl, SqL.of B2.hb, atI_nat (j := 3) rfl, .ref b, rfl, b, _, 3, .int m2, rfl, rfl, SqL.of B2.hb, atI_nat (j := 3) rfl, m2, m2, rfl, rfl, .inl hm, _, 7, rfl, rfl, .inr ⟨by decide, by decide⟩,
          .ref b, rfl, b, _, 3, .int m2, rfl, rfl, SqL.of B2.hb, atI_nat (j := 3) rfl, m2, 40692, rfl, rfl, .inr ⟨by decide, by decide⟩, _, _, rfl, rfl, ?_⟩
        refine ⟨_, rfl, .ref b, rfl, b, _, 4, .int c2, rfl, rfl, SqL.of B2.hb, atI_nat (j := 4) rfl, 1013904223, c2, rfl, rfl, .inl ⟨by decide, by decide⟩, _, _, rfl, rfl, _, 2147483399, rfl, rfl, (by show (0 : Int) < 2147483399; decide), .ref b, rfl, b, _, 3, 3, rfl, rfl, B2.hb, rfl, ?_⟩
        have B3 := B2.put (j' := j2) (m' := (m2 * m2 * 7 + m2 * 40692 + 1013904223 * c2) % 2147483399) (c' := c2) B2.i0 B2.i1 (Int.emod_nonneg _ (by decide)) (Int.emod_lt_of_pos _ (by decide))
        refine ⟨.ref b, rfl, b, _, 3, _, rfl, rfl, SqL.of B3.hb, atI_nat (j := 3) rfl, _, 37, rfl, rfl, ⟨by decide, by decide⟩, .int n, rfl, _, n, rfl, rfl, h0, ?_⟩
        exact q _ _ (Int.emod_nonneg _ (by omega)) (Int.emod_lt_of_pos _ h0) ⟨ns2, _, _, _, _, B3⟩ (k2.trans keep_put)
def spOf : Sp := fun vs H Q _ => ∃ (b sb l : Addr) (xs : List V), vs = [.ref b, .ref l] ∧ Bag H b sb ∧ H l = some (.lst xs) ∧ l ≠ b ∧ 0 < xs.length ∧ xs.length ≤ 1000 ∧ ∀ (i : Nat) (v : V) (H' : Hp), xs[i]? = some v → Bag H' b sb → Keep b H H' → Q v H'
theorem ok_of (T : Txt K mg) : FnOk P w K mg base CX0 2 T.f_of T.d_of ["_law_bag", "_law_some"] spOf := by
  refine T.F_of.ok sc_of (fun vs H Q E h => ?_) (fun cdv A outer s H vs Q E hr h => ?_)
  · obtain ⟨b, sb, l, xs, rfl, _⟩ := h
    rfl
  · obtain ⟨b, sb, l, xs, rfl, B, hl, nl, h0, h1, q⟩ := h
    refine ⟨_, (pss_one (ps_ret (pe_ix ix_list (pv 1) (pe_call (ok_pull T) (hr.mono (by decide)) (by rfl) T.g_pull T.F_pull.kp T.b_pull .nil pass0 (pa_cons (pv 0) (pa_cons (pe_callB call_len_seq (by rfl) T.n_len (by decide +kernel) (pa_cons (pv 1) pa_nil)) pa_nil))) (fun _ _ => rfl)))), ?_⟩
    have hn : ((xs.length : Int)).natAbs < 2 ^ 100 := Nat.lt_of_le_of_lt (show (xs.length : Int).natAbs ≤ 1000 by omega) (by decide)
    refine ⟨.ref l, rfl, .ref b, rfl, .ref l, rfl, l, xs, rfl, .inl (SqL.of hl), b, sb, _, rfl, B, (by show (0 : Int) < (xs.length : Int); omega), hn, fun z H' z0 z1 B' k' => ?_⟩
    obtain ⟨v, e1, e2⟩ := at_some z0 z1
    exact ⟨l, xs, z, v, rfl, rfl, k'.list nl hl, e2, q _ _ _ e1 B' k'⟩
def okR (x : Int) : Bool := !inV (.int x) [.int 4, .int 9, .int 16, .int 25, .int 36, .int 49, .int 64, .int 81]
def rootsTo : Nat → List Int
  | 0 => []
  | n + 1 => if okR (2 + (n : Int)) = true then rootsTo n ++ [2 + (n : Int)] else rootsTo n
theorem rootsTo_len : ∀ n, (rootsTo n).length ≤ n
  | 0 => Nat.le_refl _
  | n + 1 => by
    have := rootsTo_len n
    unfold rootsTo
    split
    · rw [List.length_append]
      simp
      omega
    · omega
def IsRoot (d : Int) : Prop := 2 ≤ d ∧ d ≤ 99 ∧ ∃ k : Int, 0 ≤ k ∧ k * k < d ∧ d < (k + 1) * (k + 1)
def kOf (d : Int) : Int := if d < 4 then 1 else if d < 9 then 2 else if d < 16 then 3 else if d < 25 then 4 else if d < 36 then 5 else if d < 49 then 6 else if d < 64 then 7 else if d < 81 then 8 else 9
theorem roots_are {d : Int} (h : d ∈ rootsTo 98) : IsRoot d := by
  have z : ∀ d ∈ rootsTo 98, 2 ≤ d ∧ d ≤ 99 ∧ 0 ≤ kOf d ∧ kOf d * kOf d < d ∧ d < (kOf d + 1) * (kOf d + 1) := by decide +kernel
  obtain ⟨a, b, c⟩ := z d h
  exact ⟨a, b, kOf d, c⟩
theorem isRoot_by {d : Int} (h : 2 ≤ d ∧ d ≤ 99 ∧ 0 ≤ kOf d ∧ kOf d * kOf d < d ∧ d < (kOf d + 1) * (kOf d + 1)) : IsRoot d := ⟨h.1, h.2.1, kOf d, h.2.2⟩
def spRoots : Sp := fun vs H Q _ => vs = [] ∧ ∀ p H', H p = none → Same H H' → H' p = some (.lst ((rootsTo 98).map V.int)) → Q (.ref p) H'
theorem ok_roots (T : Txt K mg) : FnOk P w K mg base CX0 1 T.f_roots T.d_roots [] spRoots := by
  refine T.F_roots.ok sc_roots (fun vs H Q E h => ?_) (fun cdv A outer s H vs Q E hr h => ?_)
  · obtain ⟨rfl, _⟩ := h
    rfl
  · obtain ⟨rfl, q⟩ := h
    refine ⟨_, (pss_one (ps_ret (pe_lc (own := [("_law_d", 0)]) (g := (gName 0)) (tt := tTest (tOp (rIn K true) _ _)) (by rfl) sc_roots.nd (pi_range2 (by rfl) T.n_range (pa_cons pe_int (pa_cons pe_int pa_nil))) (blkOk_by (own := [("_law_d", 0)]) (N := ["_law_d"]) (sc := defScope s_roots) (by decide +kernel)) (fun _ _ _ _ _ => (pg_name (i := 0) sc_roots.nd rfl (Or.inl rfl))) (fun _ _ _ _ _ => (pts_one (pt_cmpR op_notIn_seq (pv 0) (pe_tup (pa_cons pe_int (pa_cons pe_int (pa_cons pe_int (pa_cons pe_int (pa_cons pe_int (pa_cons pe_int (pa_cons pe_int (pa_cons pe_int pa_nil))))))))) (by rfl)))) (fun _ _ _ _ _ => (pv 0))))), ?_⟩
    refine ⟨2, 100, rfl, ⟨by decide, by decide, by decide, by decide⟩, fun D hD => ?_⟩
    refine lc_range (lo := 2) (n := 98) (fun i H' => Same H H' ∧ H' D = some (.lst ((rootsTo i).map V.int))) ⟨same_new hD, upd_same⟩ ?_ ?_
    · rintro i H' hi ⟨sm, hd⟩
      refine ⟨rfl, _, rfl, (by show 8 ≤ sizeLine; decide), fun t ht => ?_⟩
      refine ⟨t, _, rfl, .inr (SqT.of upd_same), rfl, rfl, _, rfl, ?_⟩
      have hd2 : (upd H' t (.tup [.int 4, .int 9, .int 16, .int 25, .int 36, .int 49, .int 64, .int 81])) D = some (.lst ((rootsTo i).map V.int)) := (upd_ne (ne_of_none hd ht)).trans hd
      refine ite2 (fun e => ?_) (fun e => ?_)
      · refine ⟨_, rfl, _, hd2, ?_, ?_, ?_⟩
        · rw [List.length_map]
          have := rootsTo_len i
          exact small1000 (by omega)
        · exact fun a o z => (upd_ne (ne_of_none z hD)).trans ((sm.trans (same_new ht)) a o z)
        · rw [upd_same]
          have e' : okR (2 + (i : Int)) = true := e
          rw [show rootsTo (i + 1) = rootsTo i ++ [2 + (i : Int)] by
            show (if okR (2 + (i : Int)) = true then rootsTo i ++ [2 + (i : Int)] else rootsTo i) = _
            rw [if_pos e'], List.map_append]
          rfl
      · refine ⟨sm.trans (same_new ht), ?_⟩
        have e' : ¬ okR (2 + (i : Int)) = true := e
        rw [show rootsTo (i + 1) = rootsTo i by
          show (if okR (2 + (i : Int)) = true then rootsTo i ++ [2 + (i : Int)] else rootsTo i) = _
          rw [if_neg e']]
        exact hd2
    · rintro H' ⟨sm, hd⟩
      exact q D H' hD sm hd
def spARoot : Sp := fun vs H Q _ => ∃ b sb : Addr, vs = [.ref b] ∧ Bag H b sb ∧ ∀ d H', IsRoot d → Bag H' b sb → Keep b H H' → Q (.int d) H'
theorem root_in {i : Nat} {v : V} (h : ((rootsTo 98).map V.int)[i]? = some v) : ∃ d, v = .int d ∧ IsRoot d := by
  rw [List.getElem?_map] at h
  cases e : (rootsTo 98)[i]? with
  | none =>
    rw [e] at h
    cases h
  | some d =>
    rw [e] at h
    exact ⟨d, (Option.some.inj h).symm, roots_are (List.mem_of_getElem? e)⟩
theorem ok_a_root (T : Txt K mg) : FnOk P w K mg base CX0 3 T.f_a_root T.d_a_root ["_law_bag"] spARoot := by
  refine T.F_a_root.ok sc_a_root (fun vs H Q E h => ?_) (fun cdv A outer s H vs Q E hr h => ?_)
  · obtain ⟨b, sb, rfl, _⟩ := h
    rfl
  · obtain ⟨b, sb, rfl, B, q⟩ := h
    refine ⟨_, (pss_one (ps_ret (pe_call (ok_of T) (hr.mono (by decide)) (by rfl) T.g_of T.F_of.kp T.b_of .nil pass0 (pa_cons (pv 0) (pa_cons (pe_lst (pa_cons pe_int (pa_cons pe_int (pa_cons pe_int (pa_cons pe_int (pa_cons (pe_call (ok_of T) (hr.mono (by decide)) (by rfl) T.g_of T.F_of.kp T.b_of .nil pass0 (pa_cons (pv 0) (pa_cons (pe_call0 (ok_roots T) (hr.mono (by decide)) (by rfl) T.g_roots T.F_roots.kp T.b_roots .nil pass0) pa_nil))) (pa_cons (pe_call (ok_of T) (hr.mono (by decide)) (by rfl) T.g_of T.F_of.kp T.b_of .nil pass0 (pa_cons (pv 0) (pa_cons (pe_call0 (ok_roots T) (hr.mono (by decide)) (by rfl) T.g_roots T.F_roots.kp T.b_roots .nil pass0) pa_nil))) pa_nil))))))) pa_nil))))), ?_⟩
    have hz : ((rootsTo 98).map V.int).length = 90 := by decide +kernel
    refine ⟨.ref b, rfl, .ref b, rfl, rfl, fun p H1 hp s1 h1 => ?_⟩
    refine ⟨b, sb, p, _, rfl, B.same s1, h1, B.ne hp, by omega, by omega, fun i v H2 hv B2 k2 => ?_⟩
    obtain ⟨r1, rfl, i1⟩ := root_in hv
    refine ⟨.ref b, rfl, rfl, fun p' H3 hp' s3 h3 => ?_⟩
    refine ⟨b, sb, p', _, rfl, B2.same s3, h3, B2.ne hp', by omega, by omega, fun i' v' H4 hv' B4 k4 => ?_⟩
    obtain ⟨r2, rfl, i2⟩ := root_in hv'
    refine ⟨(by show 6 ≤ sizeLine; decide), fun l hl => ?_⟩
    refine ⟨b, sb, l, _, rfl, B4.new hl, upd_same, B4.ne hl, by simp, by simp, fun i v H5 hv B5 k5 => ?_⟩
    have kk : Keep b H H5 := (keep_of s1).trans (k2.trans ((keep_of s3).trans (k4.trans ((keep_new hl).trans k5))))
    match i, hv with
    | 0, hv => cases hv; exact q 2 H5 (isRoot_by (by decide)) B5 kk
    | 1, hv => cases hv; exact q 3 H5 (isRoot_by (by decide)) B5 kk
    | 2, hv => cases hv; exact q 5 H5 (isRoot_by (by decide)) B5 kk
    | 3, hv => cases hv; exact q 99 H5 (isRoot_by (by decide)) B5 kk
    | 4, hv => cases hv; exact q r1 H5 i1 B5 kk
    | 5, hv => cases hv; exact q r2 H5 i2 B5 kk
    | n + 6, hv => simp at hv
def spAnyPair : Sp := fun vs H Q _ => ∃ b sb : Addr, vs = [.ref b] ∧ Bag H b sb ∧ ∀ x y p H', -(10 ^ 6) ≤ x → x ≤ 10 ^ 6 → -(10 ^ 6) ≤ y → y ≤ 10 ^ 6 → H p = none → H' p = some (.tup [.int x, .int y]) → Bag H' b sb → Keep b H H' → Q (.ref p) H'
theorem ok_any_pair (T : Txt K mg) : FnOk P w K mg base CX0 3 T.f_any_pair T.d_any_pair ["_law_bag"] spAnyPair := by
  refine T.F_any_pair.ok sc_any_pair (fun vs H Q E h => ?_) (fun cdv A outer s H vs Q E hr h => ?_)
  · obtain ⟨b, sb, rfl, _⟩ := h
    rfl
  · obtain ⟨b, sb, rfl, B, q⟩ := h
    refine ⟨_, (pss_cons (ps_set (i := 1) sc_any_pair.nd rfl (Or.inl rfl) (pe_call (ok_of T) (hr.mono (by decide)) (by rfl) T.g_of T.F_of.kp T.b_of .nil pass0 (pa_cons (pv 0) (pa_cons (pe_lst (pa_cons pe_int (pa_cons pe_int (pa_cons pe_int (pa_cons pe_int (pa_cons (pe_op op_pow pe_int pe_int) pa_nil)))))) pa_nil))))
      (pss_one (ps_ret (pe_tup (pa_cons (pe_op op_sub (pe_call (ok_pull T) (hr.mono (by decide)) (by rfl) T.g_pull T.F_pull.kp T.b_pull .nil pass0 (pa_cons (pv 0) (pa_cons (pe_op op_add (pe_op op_mul pe_int (pv 1)) pe_int) pa_nil))) (pv 1)) (pa_cons (pe_op op_sub (pe_call (ok_pull T) (hr.mono (by decide)) (by rfl) T.g_pull T.F_pull.kp T.b_pull .nil pass0 (pa_cons (pv 0) (pa_cons (pe_op op_add (pe_op op_mul pe_int (pv 1)) pe_int) pa_nil))) (pv 1)) pa_nil)))))), ?_⟩
    refine ⟨.ref b, rfl, 10, 6, rfl, rfl, ⟨by decide, by decide, by decide⟩, (by show 5 ≤ sizeLine; decide), fun l hl => ?_⟩
    refine ⟨b, sb, l, _, rfl, B.new hl, upd_same, B.ne hl, by decide, by decide, fun i v H1 hv B1 k1 => ?_⟩
    obtain ⟨n, rfl, n0, n1⟩ : ∃ n : Int, v = .int n ∧ 1 ≤ n ∧ n ≤ 10 ^ 6 := by
      match i, hv with
      | 0, hv => cases hv; exact ⟨2, rfl, by decide, by decide⟩
      | 1, hv => cases hv; exact ⟨5, rfl, by decide, by decide⟩
      | 2, hv => cases hv; exact ⟨9, rfl, by decide, by decide⟩
      | 3, hv => cases hv; exact ⟨30, rfl, by decide, by decide⟩
      | 4, hv => cases hv; exact ⟨10 ^ 6, rfl, by decide, by decide⟩
      | n + 5, hv => simp at hv
    have hn : (2 * n + 1).natAbs < 2 ^ 100 := Nat.lt_of_le_of_lt (show (2 * n + 1).natAbs ≤ 2000001 by omega) (by decide)
    refine ⟨.ref b, rfl, _, rfl, 2, n, rfl, rfl, .inl ⟨by decide, by decide⟩, _, 1, rfl, rfl, b, sb, _, rfl, B1, (show (0 : Int) < 2 * n + 1 by omega), hn, fun z H2 z0 z1 B2 k2 => ?_⟩
    refine ⟨_, rfl, z, n, rfl, rfl, .ref b, rfl, _, rfl, 2, n, rfl, rfl, .inl ⟨by decide, by decide⟩, _, 1, rfl, rfl, b, sb, _, rfl, B2, (show (0 : Int) < 2 * n + 1 by omega), hn, fun z' H3 z0' z1' B3 k3 => ?_⟩
    refine ⟨_, rfl, z', n, rfl, rfl, (by show 2 ≤ sizeLine; decide), fun p hp => ?_⟩
    have kk : Keep b H H3 := (keep_new hl).trans (k1.trans (k2.trans k3))
    have hpn : H p = none := by
      cases e : H p with
      | none => rfl
      | some o => exact absurd (kk p o (B3.ne hp) e) (by rw [hp]; simp)
    exact q _ _ p _ (by omega) (by omega) (by omega) (by omega) hpn upd_same (B3.new hp) (kk.trans (keep_new hp))
def spANumber : Sp := fun vs H Q _ => ∃ b sb : Addr, vs = [.ref b] ∧ Bag H b sb ∧ ∀ x H', -(10 ^ 18) ≤ x → x ≤ 10 ^ 18 → Bag H' b sb → Keep b H H' → Q (.int x) H'
theorem ok_a_number (T : Txt K mg) : FnOk P w K mg base CX0 3 T.f_a_number T.d_a_number ["_law_bag"] spANumber := by
  refine T.F_a_number.ok sc_a_number (fun vs H Q E h => ?_) (fun cdv A outer s H vs Q E hr h => ?_)
  · obtain ⟨b, sb, rfl, _⟩ := h
    rfl
  · obtain ⟨b, sb, rfl, B, q⟩ := h
    refine ⟨_, (pss_cons (ps_set (i := 1) sc_a_number.nd rfl (Or.inl rfl) (pe_call (ok_of T) (hr.mono (by decide)) (by rfl) T.g_of T.F_of.kp T.b_of .nil pass0 (pa_cons (pv 0) (pa_cons (pe_lst (pa_cons pe_int (pa_cons pe_int (pa_cons pe_int (pa_cons pe_int (pa_cons pe_int (pa_cons (pe_op op_pow pe_int pe_int) (pa_cons (pe_op op_pow pe_int pe_int) pa_nil)))))))) pa_nil))))
      (pss_one (ps_ret (pe_op op_sub (pe_call (ok_pull T) (hr.mono (by decide)) (by rfl) T.g_pull T.F_pull.kp T.b_pull .nil pass0 (pa_cons (pv 0) (pa_cons (pe_op op_add (pe_op op_mul pe_int (pv 1)) pe_int) pa_nil))) (pv 1))))), ?_⟩
    refine ⟨.ref b, rfl, 10, 9, rfl, rfl, ⟨by decide, by decide, by decide⟩, 10, 18, rfl, rfl, ⟨by decide, by decide, by decide⟩, (by show 7 ≤ sizeLine; decide), fun l hl => ?_⟩
    refine ⟨b, sb, l, _, rfl, B.new hl, upd_same, B.ne hl, by decide, by decide, fun i v H1 hv B1 k1 => ?_⟩
    obtain ⟨n, rfl, n0, n1⟩ : ∃ n : Int, v = .int n ∧ 1 ≤ n ∧ n ≤ 10 ^ 18 := by
      match i, hv with
      | 0, hv => cases hv; exact ⟨3, rfl, by decide, by decide⟩
      | 1, hv => cases hv; exact ⟨7, rfl, by decide, by decide⟩
      | 2, hv => cases hv; exact ⟨13, rfl, by decide, by decide⟩
      | 3, hv => cases hv; exact ⟨60, rfl, by decide, by decide⟩
      | 4, hv => cases hv; exact ⟨1000, rfl, by decide, by decide⟩
      | 5, hv => cases hv; exact ⟨10 ^ 9, rfl, by decide, by decide⟩
      | 6, hv => cases hv; exact ⟨10 ^ 18, rfl, by decide, by decide⟩
      | n + 7, hv => simp at hv
    have hn : (2 * n + 1).natAbs < 2 ^ 100 := Nat.lt_of_le_of_lt (show (2 * n + 1).natAbs ≤ 2000000000000000001 by omega) (by decide)
    refine ⟨.ref b, rfl, _, rfl, 2, n, rfl, rfl, .inl ⟨by decide, by decide⟩, _, 1, rfl, rfl, b, sb, _, rfl, B1, (show (0 : Int) < 2 * n + 1 by omega), hn, fun z H2 z0 z1 B2 k2 => ?_⟩
    exact ⟨_, rfl, z, n, rfl, rfl, q _ _ (by omega) (by omega) B2 ((keep_new hl).trans (k1.trans k2))⟩
def spSource (K : PySem.W.Frag) : Sp := fun vs H Q _ => ∃ (a : Addr) (ns : List Int), vs = [.ref a] ∧ SqL K H a (ns.map V.int) ∧ ns.length ≤ 63 ∧ ∀ b sb H', H b = none → Same H H' → Bag H' b sb → Q (.ref b) H'
theorem ok_source (T : Txt K mg) : FnOk P w K mg base CX0 1 T.f_source T.d_source ["_law_script"] (spSource K) := by
  refine T.F_source.ok sc_source (fun vs H Q E h => ?_) (fun cdv A outer s H vs Q E hr h => ?_)
  · obtain ⟨a, ns, rfl, _⟩ := h
    rfl
  · obtain ⟨a, ns, rfl, hS, hlen, q⟩ := h
    refine ⟨_, (pss_cons (ps_set (i := 1) sc_source.nd rfl (Or.inl rfl) pe_int)
      (pss_cons (ps_for PassesOwn.never rfl (pi_list (pe_slice sl_list (pv 0) po_none (po_some pe_int))) (pg_name (i := 2) sc_source.nd rfl (Or.inl rfl)) (pss_one (ps_set (i := 1) sc_source.nd rfl (Or.inl rfl) (pe_op op_mod (pe_op op_add (pe_op op_add (pe_op op_mul (pv 1) pe_int) (pe_op op_mod (pv 2) pe_int)) pe_int) pe_int))))
      (pss_one (ps_ret (pe_lst (pa_cons (pe_callTy call_list_of (by rfl) T.n_list (by decide +kernel) (pa_cons (pe_slice sl_list (pv 0) po_none (po_some pe_int)) pa_nil)) (pa_cons pe_int (pa_cons pe_int (pa_cons (pv 1) (pa_cons pe_int pa_nil)))))))))), ?_⟩
    have hcut : cutV (ns.map V.int) none (some 63) = ns.map V.int := by
      unfold cutV
      rw [HT.sIx_none, show HT.sIx (ns.map V.int).length (ns.map V.int).length (some 63) = min 63 (ns.map V.int).length from HT.sIx_nat _ _ 63]
      rw [List.drop_zero, List.length_map, Nat.sub_zero, Nat.min_eq_right hlen]
      exact List.take_of_length_le (by rw [List.length_map]; exact Nat.le_refl _)
    refine ⟨.ref a, rfl, 63, rfl, a, _, rfl, hS, fun p hp => ?_⟩
    rw [hcut]
    refine ⟨p, rfl, ⟨_, SqL.of upd_same⟩, for_list (K := K) (a := p) (xs := ns.map V.int) (fun i σ H2 => ∃ (m : Int) (y : Option V), σ = [some (.ref a), some (.int m), y] ∧ 0 ≤ m ∧ m < 2147483399 ∧ H2 = upd H p (.lst (ns.map V.int)))
      ⟨3812, none, rfl, by decide, by decide, rfl⟩ (fun i σ H2 _ ⟨_, _, _, _, _, e⟩ => by rw [e]; exact SqL.of upd_same) ?_ ?_⟩
    · rintro i x σ H2 hx ⟨m, y, rfl, m0, m1, rfl⟩
      obtain ⟨z, rfl⟩ : ∃ z, x = V.int z := by
        rw [List.getElem?_map] at hx
        cases e : ns[i]? with
        | none =>
          rw [e] at hx
          cases hx
        | some z =>
          rw [e] at hx
          exact ⟨z, (Option.some.inj hx).symm⟩
      refine ⟨_, rfl, m, 40692, rfl, rfl, .inr ⟨by decide, by decide⟩, _, rfl, z, 2147483399, rfl, rfl, (by show (0 : Int) < 2147483399; decide), _, _, rfl, rfl, _, 17, rfl, rfl, _, 2147483399, rfl, rfl, (by show (0 : Int) < 2147483399; decide), ?_⟩
      exact ⟨_, _, rfl, Int.emod_nonneg _ (by decide), Int.emod_lt_of_pos _ (by decide), rfl⟩
    · rintro σ H2 ⟨m, y, rfl, m0, m1, rfl⟩
      have hS2 : SqL K (upd H p (.lst (ns.map V.int))) a (ns.map V.int) := (same_new hp).seq hS
      refine ⟨.ref a, rfl, 63, rfl, a, _, rfl, hS2, fun p2 hp2 => ?_⟩
      rw [hcut]
      refine ⟨p2, _, rfl, .inl (SqL.of upd_same), fun l hl => ?_⟩
      refine ⟨_, rfl, (by show 5 ≤ sizeLine; decide), fun b hb => ?_⟩
      have sm : Same H (upd (upd (upd (upd H p (.lst (ns.map V.int))) p2 (.lst (ns.map V.int))) l (.lst (ns.map V.int))) b (.lst [.ref l, .int 0, .int 0, .int m, .int 0])) := (same_new hp).trans ((same_new hp2).trans ((same_new hl).trans (same_new hb)))
      exact q b l _ (((same_new hp).trans ((same_new hp2).trans (same_new hl))).free hb) sm ⟨ns, 0, 0, m, 0, upd_same, same_new hb _ _ upd_same, Int.le_refl _, by omega, m0, m1⟩
end
/-! ### calls of a def with a star parameter -/
section
variable {X : Cx}
theorem pe_callR {CX : CXT} {k : Nat} {f : Addr} {sp : Sp} {E : XK} {x : Str} {p pos : Pos} {e : Expr} {es : List Expr} {t : TA}
    (F : FnR X.prog X.w X.K X.mg X.base CX k f sp) (hr : Room k X.A) (hg : Gl X x) (hm : X.mg x = some (.ref f)) (hk : PySem.W.keepIn X.K (.ref f) = true) (hx : Passes CX X E) (ha : PA X (e :: es) t)
    (hdb : (x == ("__debug__" : Str)) = false := by decide) (he : starEach (e :: es) X.env = (false, eval e X.env) :: starEach es X.env := by rfl)
    (hpl : (backTo pos (starEach es X.env)).any (·.1) = false := by rfl) :
    PE X (.Call (.Name x p) (e :: es) [] pos) (fun σ H Q => t σ H fun vs H1 => sp vs H1 Q E) :=
  ⟨fun pins s σ H Q I h => wpAny_Call_Name_kw (ld_glob I hg hm (PySem.W.callWith_K (h₀ := X.base) I.ok.mod.kin hk
    (thn (ha.run pos pins s σ H _ I h) fun us s1 ⟨vs, H1, I1, r, q⟩ => ⟨I1.kIn, wpAny_call (run_fnR F hr hx I1 r q)⟩) he hpl) hdb)⟩
theorem pe_callR0 {CX : CXT} {k : Nat} {f : Addr} {sp : Sp} {E : XK} {x : Str} {p pos : Pos}
    (F : FnR X.prog X.w X.K X.mg X.base CX k f sp) (hr : Room k X.A) (hg : Gl X x) (hm : X.mg x = some (.ref f)) (hk : PySem.W.keepIn X.K (.ref f) = true) (hx : Passes CX X E)
    (hdb : (x == ("__debug__" : Str)) = false := by decide) : PE X (.Call (.Name x p) [] [] pos) (fun _ H Q => sp [] H Q E) :=
  ⟨fun pins s σ H Q I h => wpAny_Call_Name_kw (ld_glob I hg hm (PySem.W.callWith_K0 I.kIn hk (wpAny_call (run_fnR (us := []) F hr hx I .nil h))) hdb)⟩
end
/-! ### lists of ints that comprehensions make -/
def Pt (H : Hp) (D : Addr) (ns : List Int) (i : Nat) (H' : Hp) : Prop := Same H H' ∧ H' D = some (.lst ((ns.take i).map V.int))
theorem pt_step {H H' : Hp} {D : Addr} {ns : List Int} {i : Nat} {z : Int} (h : Pt H D ns i H') (hD : H D = none) (hz : ns[i]? = some z) : Pt H D ns (i + 1) (upd H' D (.lst ((ns.take i).map V.int ++ [.int z]))) := by
  refine ⟨fun a o e => (upd_ne (ne_of_none e hD)).trans (h.1 a o e), ?_⟩
  rw [upd_same, List.take_add_one, hz, List.map_append]
  rfl
theorem pt_size {ns : List Int} {i : Nat} (h : ns.length ≤ 1000) : ((ns.take i).map V.int).length < sizeLine := by
  rw [List.length_map, List.length_take]
  exact small1000 (by omega)
theorem pt_end {H H' : Hp} {D : Addr} {ns : List Int} {i : Nat} (h : Pt H D ns i H') (hi : ns.length ≤ i) : Same H H' ∧ H' D = some (.lst (ns.map V.int)) := by
  have := h.2
  rw [List.take_of_length_le hi] at this
  exact ⟨h.1, this⟩
/-! ### pairs -/
def PairAt (K : PySem.W.Frag) (H : Hp) (v : V) (x y : Int) : Prop := ∃ t : Addr, v = .ref t ∧ SqT K H t [.int x, .int y]
theorem PairAt.same {K : PySem.W.Frag} {H H' : Hp} {v : V} {x y : Int} (h : PairAt K H v x y) (s : Same H H') : PairAt K H' v x y := by
  obtain ⟨t, e, h⟩ := h
  exact ⟨t, e, Evl.ex_t (show Evl.Ex H H' from s) h⟩
inductive PairsAt (K : PySem.W.Frag) (H : Hp) : List V → List (Int × Int) → Prop
  | nil : PairsAt K H [] []
  | cons {v : V} {vs : List V} {x y : Int} {ps : List (Int × Int)} : PairAt K H v x y → PairsAt K H vs ps → PairsAt K H (v :: vs) ((x, y) :: ps)
theorem PairsAt.get {K : PySem.W.Frag} {H : Hp} : ∀ {vs : List V} {ps : List (Int × Int)}, PairsAt K H vs ps → ∀ {i : Nat} {v : V}, vs[i]? = some v → ∃ x y, ps[i]? = some (x, y) ∧ PairAt K H v x y
  | _, _, .nil, i, v, h => by simp at h
  | _, _, .cons p t, 0, v, h => by cases h; exact ⟨_, _, rfl, p⟩
  | _, _, .cons p t, i + 1, v, h => t.get (i := i) (by simpa using h)
theorem PairsAt.same {K : PySem.W.Frag} {H H' : Hp} (s : Same H H') : ∀ {vs : List V} {ps : List (Int × Int)}, PairsAt K H vs ps → PairsAt K H' vs ps
  | _, _, .nil => .nil
  | _, _, .cons p t => .cons (p.same s) (t.same s)
theorem PairsAt.len {K : PySem.W.Frag} {H : Hp} : ∀ {vs : List V} {ps : List (Int × Int)}, PairsAt K H vs ps → vs.length = ps.length
  | _, _, .nil => rfl
  | _, _, .cons p t => congrArg Nat.succ t.len
def s1 (ps : List (Int × Int)) : Int := (ps.map (·.1)).sum
def s2 (ps : List (Int × Int)) : Int := (ps.map (·.2)).sum
/-- a new pair -/
def NewPair (H : Hp) (x y : Int) (Q : VK) : Prop := ∀ p H', H p = none → Same H H' → H' p = some (.tup [.int x, .int y]) → Q (.ref p) H'
/-! ### added -/
section
variable {base : Heap} {K : PySem.W.Frag} {mg : Str → Option Value} {P : Program} {w : World}
def spAdded (K : PySem.W.Frag) : Sp := fun vs H Q _ => ∃ ps : List (Int × Int), PairsAt K H vs ps ∧ ps.length ≤ 1000 ∧ NewPair H (s1 ps) (s2 ps) Q
def spAddedB (K : PySem.W.Frag) : Sp := fun vs H Q _ => ∃ (t : Addr) (xs : List V) (ps : List (Int × Int)), vs = [.ref t] ∧ H t = some (.tup xs) ∧ PairsAt K H xs ps ∧ ps.length ≤ 1000 ∧ NewPair H (s1 ps) (s2 ps) Q
theorem ok_added (T : Txt K mg) : FnR P w K mg base CX0 1 T.f_added (spAdded K) := by
  obtain ⟨o1, o2, v1, v2, v3, a1, v4, v5, sl1, e1, r1, r2⟩ := T.F_added.ex
  have r1' := r1
  rw [e1] at r1'
  refine FnR.imp (StX.fn_star (ps := []) (pv := "pairs") (sp := spAddedB K) (N := ["pairs", "a", "b"]) r1' r2 sc_added StX.cxUp_none ?_ ?_) ?_
  · intro us rest hu
    match us, rest, hu with
    | [], [], _ => rfl
    | [], _ :: _, _ => rfl
  · intro A outer s H vs Q E hr h
    obtain ⟨t, xs, ps, rfl, ht, hp, hn, q⟩ := h
    refine ⟨_, PSs.nox (pss_one (ps_ret (pe_tup (pa_cons (pe_callB (cr_sum rfl) (by rfl) T.n_sum (by decide +kernel) (pa_cons (pe_lc (own := [("a", 1), ("b", 2)]) (g := (gTup K 2 (gCons (gName 1) (gCons (gName 2) gNil)))) (tt := tYes) (by rfl) sc_added.nd (pi_tup (pv 0)) (blkOk_by (own := [("a", 1), ("b", 2)]) (N := ["pairs", "a", "b"]) (sc := defScope s_added) (by decide +kernel)) (fun _ _ _ _ _ => (pg_tup (by rfl) (pgs_cons (pg_name (i := 1) sc_added.nd rfl (Or.inl rfl)) (pgs_cons (pg_name (i := 2) sc_added.nd rfl (Or.inl rfl)) pgs_nil)))) (fun _ _ _ _ _ => pts_nil) (fun _ _ _ _ _ => (pv 1))) pa_nil)) (pa_cons (pe_callB (cr_sum rfl) (by rfl) T.n_sum (by decide +kernel) (pa_cons (pe_lc (own := [("a", 1), ("b", 2)]) (g := (gTup K 2 (gCons (gName 1) (gCons (gName 2) gNil)))) (tt := tYes) (by rfl) sc_added.nd (pi_tup (pv 0)) (blkOk_by (own := [("a", 1), ("b", 2)]) (N := ["pairs", "a", "b"]) (sc := defScope s_added) (by decide +kernel)) (fun _ _ _ _ _ => (pg_tup (by rfl) (pgs_cons (pg_name (i := 1) sc_added.nd rfl (Or.inl rfl)) (pgs_cons (pg_name (i := 2) sc_added.nd rfl (Or.inl rfl)) pgs_nil)))) (fun _ _ _ _ _ => pts_nil) (fun _ _ _ _ _ => (pv 2))) pa_nil)) pa_nil))))), ?_⟩
    have hl := hp.len
    refine ⟨_, rfl, t, rfl, ⟨_, SqT.of ht⟩, fun D hD => lc_tup (K := K) (a := t) (xs := xs) (Pt H D (ps.map (·.1))) ⟨same_new hD, upd_same⟩ (fun i H' _ h => SqT.of (h.1 _ _ ht)) (fun i x H' hx hP => ?_) (fun H1 hP => ?_)⟩
    · obtain ⟨c, e, hc, u, rfl, hu⟩ := hp.get hx
      refine ⟨u, _, rfl, Evl.ex_t (show Evl.Ex H H' from hP.1) hu, rfl, .int c, [.int e], rfl, .int e, [], rfl, rfl, rfl, ⟨_, rfl, _, hP.2, pt_size (by rw [List.length_map]; exact hn), pt_step hP hD ?_⟩⟩
      rw [List.getElem?_map, hc]
      rfl
    obtain ⟨e1, f1⟩ := pt_end hP (by rw [List.length_map]; omega)
    refine ⟨D, _, rfl, SqL.of f1, ?_⟩
    refine ⟨_, rfl, t, rfl, ⟨_, SqT.of (e1 _ _ ht)⟩, fun D2 hD2 => lc_tup (K := K) (a := t) (xs := xs) (Pt H1 D2 (ps.map (·.2))) ⟨same_new hD2, upd_same⟩ (fun i H' _ h => SqT.of (h.1 _ _ (e1 _ _ ht))) (fun i x H' hx hP => ?_) (fun H2 hP => ?_)⟩
    · obtain ⟨c, e, hc, u, rfl, hu⟩ := hp.get hx
      refine ⟨u, _, rfl, Evl.ex_t (show Evl.Ex H H' from e1.trans hP.1) hu, rfl, .int c, [.int e], rfl, .int e, [], rfl, rfl, rfl, ⟨_, rfl, _, hP.2, pt_size (by rw [List.length_map]; exact hn), pt_step hP hD2 ?_⟩⟩
      rw [List.getElem?_map, hc]
      rfl
    obtain ⟨e2, f2⟩ := pt_end hP (by rw [List.length_map]; omega)
    exact ⟨D2, _, rfl, SqL.of f2, by show 2 ≤ sizeLine; decide, fun p hp => q p _ ((e1.trans e2).free hp) ((e1.trans e2).trans (same_new hp)) upd_same⟩
  · rintro vs H Q E ⟨ps, hp, hl, q⟩
    refine ⟨[], vs, rfl, rfl, Nat.le_of_lt (small1000 (by rw [hp.len]; exact hl)), fun p hpn => ⟨p, vs, ps, rfl, upd_same, hp.same (same_new hpn), hl, fun p' H' hp' sm h' => ?_⟩⟩
    exact q p' H' ((same_new hpn).free hp') ((same_new hpn).trans sm) h'
end
/-! ### scaled -/
section
variable {base : Heap} {K : PySem.W.Frag} {mg : Str → Option Value} {P : Program} {w : World}
def spScaled (K : PySem.W.Frag) : Sp := fun vs H Q _ => ∃ (v : V) (x y n : Int), vs = [v, .int n] ∧ PairAt K H v x y ∧ x.natAbs < 2 ^ 9000 ∧ y.natAbs < 2 ^ 9000 ∧ n.natAbs < 2 ^ 9000 ∧ NewPair H (x * n) (y * n) Q
theorem ok_scaled (T : Txt K mg) : FnOk P w K mg base CX0 1 T.f_scaled T.d_scaled ["pair", "number"] (spScaled K) := by
  refine T.F_scaled.ok sc_scaled (fun vs H Q E h => ?_) (fun cdv A outer s H vs Q E hr h => ?_)
  · obtain ⟨v, x, y, n, rfl, _⟩ := h
    rfl
  · obtain ⟨v, x, y, n, rfl, ⟨t, rfl, ht⟩, x1, y1, n1, q⟩ := h
    refine ⟨_, (pss_cons (ps_asg (pv 0) (pg_tup (by rfl) (pgs_cons (pg_name (i := 2) sc_scaled.nd rfl (Or.inl rfl)) (pgs_cons (pg_name (i := 3) sc_scaled.nd rfl (Or.inl rfl)) pgs_nil))))
      (pss_one (ps_ret (pe_tup (pa_cons (pe_op op_mulW (pv 2) (pv 1)) (pa_cons (pe_op op_mulW (pv 3) (pv 1)) pa_nil)))))), ?_⟩
    refine ⟨_, rfl, t, _, rfl, ht, rfl, .int x, [.int y], rfl, .int y, [], rfl, rfl, ?_⟩
    exact ⟨_, rfl, _, rfl, x, n, rfl, rfl, wide_mul x1 n1 (by decide) (by decide) (by decide), _, rfl, _, rfl, y, n, rfl, rfl, wide_mul y1 n1 (by decide) (by decide) (by decide), by show 2 ≤ sizeLine; decide, fun p hp => q p _ hp (same_new hp) upd_same⟩
end
/-! ### product -/
section
variable {base : Heap} {K : PySem.W.Frag} {mg : Str → Option Value} {P : Program} {w : World}
def spProduct (K : PySem.W.Frag) : Sp := fun vs H Q _ => ∃ (u v : V) (a b c e d : Int), vs = [u, v, .int d] ∧ PairAt K H u a b ∧ PairAt K H v c e ∧ a.natAbs < 2 ^ 9000 ∧ b.natAbs < 2 ^ 9000 ∧ c.natAbs < 2 ^ 9000 ∧ e.natAbs < 2 ^ 9000 ∧ d.natAbs < 2 ^ 64 ∧
  NewPair H (a * c + d * b * e) (a * e + b * c) Q
theorem ok_product (T : Txt K mg) : FnOk P w K mg base CX0 1 T.f_product T.d_product ["one", "other", "root"] (spProduct K) := by
  refine T.F_product.ok sc_product (fun vs H Q E h => ?_) (fun cdv A outer s H vs Q E hr h => ?_)
  · obtain ⟨u, v, a, b, c, e, d, rfl, _⟩ := h
    rfl
  · obtain ⟨u, v, a, b, c, e, d, rfl, ⟨t, rfl, ht⟩, ⟨t2, rfl, ht2⟩, h1, h2, h3, h4, h5, q⟩ := h
    refine ⟨_, (pss_cons (ps_asg (pv 0) (pg_tup (by rfl) (pgs_cons (pg_name (i := 3) sc_product.nd rfl (Or.inl rfl)) (pgs_cons (pg_name (i := 4) sc_product.nd rfl (Or.inl rfl)) pgs_nil))))
      (pss_cons (ps_asg (pv 1) (pg_tup (by rfl) (pgs_cons (pg_name (i := 5) sc_product.nd rfl (Or.inl rfl)) (pgs_cons (pg_name (i := 6) sc_product.nd rfl (Or.inl rfl)) pgs_nil))))
      (pss_one (ps_ret (pe_tup (pa_cons (pe_op op_add (pe_op op_mulW (pv 3) (pv 5)) (pe_op op_mulW (pe_op op_mulW (pv 2) (pv 4)) (pv 6))) (pa_cons (pe_op op_add (pe_op op_mulW (pv 3) (pv 6)) (pe_op op_mulW (pv 4) (pv 5))) pa_nil))))))), ?_⟩
    have m1 : (d * b).natAbs < 2 ^ (64 + 9000) := wide_lt h5 h2
    refine ⟨_, rfl, t, _, rfl, ht, rfl, .int a, [.int b], rfl, .int b, [], rfl, rfl, ?_⟩
    refine ⟨_, rfl, t2, _, rfl, ht2, rfl, .int c, [.int e], rfl, .int e, [], rfl, rfl, ?_⟩
    exact ⟨_, rfl, _, rfl, a, c, rfl, rfl, wide_mul h1 h3 (by decide) (by decide) (by decide), _, rfl, _, rfl, d, b, rfl, rfl, wide_mul h5 h2 (by decide) (by decide) (by decide), _, rfl, _, e, rfl, rfl, wide_mul m1 h4 (by decide) (by decide) (by decide), _, _, rfl, rfl,
      _, rfl, _, rfl, a, e, rfl, rfl, wide_mul h1 h4 (by decide) (by decide) (by decide), _, rfl, _, rfl, b, c, rfl, rfl, wide_mul h2 h3 (by decide) (by decide) (by decide), _, _, rfl, rfl, by show 2 ≤ sizeLine; decide, fun p hp => q p _ hp (same_new hp) upd_same⟩
end
/-! ### a pair of one of two kinds -/
def tDraw (i : Nat) : TE := tCall spOf [] E0 (tCons (tVar i) (tCons (tLst (tCons (tCall spAnyPair [] E0 (tCons (tVar i) tNil)) (tCons (tTup (tCons (tCall spANumber [] E0 (tCons (tVar i) tNil)) (tCons (tCall spANumber [] E0 (tCons (tVar i) tNil)) tNil))) tNil))) tNil))
theorem draw_ok {i : Nat} {σ : L2.St} {H : Hp} {Q : VK} {b sb : Addr} (hσ : σ[i]? = some (some (.ref b))) (B : Bag H b sb)
    (q : ∀ p x y H', H' p = some (.tup [.int x, .int y]) → p ≠ b → x.natAbs ≤ 10 ^ 18 → y.natAbs ≤ 10 ^ 18 → Bag H' b sb → Keep b H H' → Q (.ref p) H') : tDraw i σ H Q := by
  refine ⟨.ref b, hσ, .ref b, hσ, b, sb, rfl, B, fun x1 z1 p1 H1 a1 a2 a3 a4 n1 h1 B1 k1 => ?_⟩
  refine ⟨.ref b, hσ, b, sb, rfl, B1, fun x2 H2 a5 a6 B2 k2 => ?_⟩
  refine ⟨.ref b, hσ, b, sb, rfl, B2, fun z2 H3 a7 a8 B3 k3 => ⟨by show 2 ≤ sizeLine; decide, fun p2 hp2 => ?_⟩⟩
  have B4 := B3.new (o := .tup [.int x2, .int z2]) hp2
  refine ⟨by show 2 ≤ sizeLine; decide, fun l hl => ?_⟩
  have B5 := B4.new (o := .lst [.ref p1, .ref p2]) hl
  refine ⟨b, sb, l, _, rfl, B5, upd_same, B4.ne hl, by simp, by simp, fun j v H6 hv B6 k6 => ?_⟩
  have k5 : Keep b H3 H6 := (keep_new hp2).trans ((keep_new hl).trans k6)
  have kk : Keep b H H6 := k1.trans (k2.trans (k3.trans k5))
  match j, hv with
  | 0, hv =>
    cases hv
    exact q p1 x1 z1 H6 ((k2.trans (k3.trans k5)) _ _ (B.ne n1) h1) (B.ne n1) (by omega) (by omega) B6 kk
  | 1, hv =>
    cases hv
    exact q p2 x2 z2 H6 (((keep_new hl).trans k6) _ _ (B3.ne hp2) upd_same) (B3.ne hp2) (by omega) (by omega) B6 kk
  | n + 2, hv => simp at hv
/-- what is drawn: pairs at places that are not the bag's -/
inductive Dr (H : Hp) : List V → List (Int × Int) → Prop
  | nil : Dr H [] []
  | cons {p : Addr} {vs : List V} {x y : Int} {ps : List (Int × Int)} : H p = some (.tup [.int x, .int y]) → x.natAbs ≤ 10 ^ 18 → y.natAbs ≤ 10 ^ 18 → Dr H vs ps → Dr H (.ref p :: vs) ((x, y) :: ps)
theorem Dr.inv {H : Hp} {v : V} {vs : List V} {ps : List (Int × Int)} (h : Dr H (v :: vs) ps) : ∃ (p : Addr) (x y : Int) (ps' : List (Int × Int)), v = .ref p ∧ ps = (x, y) :: ps' ∧ H p = some (.tup [.int x, .int y]) ∧ x.natAbs ≤ 10 ^ 18 ∧ y.natAbs ≤ 10 ^ 18 ∧ Dr H vs ps' := by
  cases h with
  | cons h a b t => exact ⟨_, _, _, _, rfl, rfl, h, a, b, t⟩
theorem Dr.keep {H H' : Hp} (k : ∀ p xs, H p = some (.tup xs) → H' p = some (.tup xs)) : ∀ {vs : List V} {ps : List (Int × Int)}, Dr H vs ps → Dr H' vs ps
  | _, _, .nil => .nil
  | _, _, .cons h a b t => .cons (k _ _ h) a b (t.keep k)
theorem Dr.snoc {H : Hp} {p : Addr} {x y : Int} (h : H p = some (.tup [.int x, .int y])) (a : x.natAbs ≤ 10 ^ 18) (b : y.natAbs ≤ 10 ^ 18) : ∀ {vs : List V} {ps : List (Int × Int)}, Dr H vs ps → Dr H (vs ++ [.ref p]) (ps ++ [(x, y)])
  | _, _, .nil => .cons h a b .nil
  | _, _, .cons h' a' b' t => .cons h' a' b' (t.snoc h a b)
theorem Dr.at {K : PySem.W.Frag} {H : Hp} : ∀ {vs : List V} {ps : List (Int × Int)}, Dr H vs ps → PairsAt K H vs ps
  | _, _, .nil => .nil
  | _, _, .cons h _ _ t => .cons ⟨_, rfl, SqT.of h⟩ t.at
theorem tup_keep {H H' : Hp} {b sb : Addr} (B : Bag H b sb) (k : Keep b H H') (p : Addr) (xs : List V) (h : H p = some (.tup xs)) : H' p = some (.tup xs) := k _ _ (B.tup h) h
theorem tup_put {H : Hp} {l : Addr} {ys zs : List V} (hl : H l = some (.lst ys)) (p : Addr) (xs : List V) (h : H p = some (.tup xs)) : (upd H l (.lst zs)) p = some (.tup xs) := (upd_ne (ne_of h hl (by intro z; cases z))).trans h
theorem tup_same {H H' : Hp} (s : Same H H') (p : Addr) (xs : List V) (h : H p = some (.tup xs)) : H' p = some (.tup xs) := s _ _ h
/-! ### alike, from its parts -/
/-! ### tables -/
/-- two pairs, as they are handed in -/
def CellsK (K : PySem.W.Frag) (H : Hp) (r : V) (a b c e : Int) : Prop := ∃ t u v : Addr, r = .ref t ∧ SqT K H t [.ref u, .ref v] ∧ SqT K H u [.int a, .int b] ∧ SqT K H v [.int c, .int e]
/-- two pairs that the program has made -/
def CellsAt (H : Hp) (t : Addr) (a b c e : Int) : Prop := ∃ u v : Addr, H t = some (.tup [.ref u, .ref v]) ∧ H u = some (.tup [.int a, .int b]) ∧ H v = some (.tup [.int c, .int e])
def TabAt (C : Addr) (H : Hp) (p : Addr) (a b c e : Int) : Prop := ∃ dx t : Addr, H p = some (.ins C dx [("cells", .ref t)]) ∧ CellsAt H t a b c e
theorem CellsAt.same {H H' : Hp} {t : Addr} {a b c e : Int} (h : CellsAt H t a b c e) (s : Same H H') : CellsAt H' t a b c e := by
  obtain ⟨u, v, h1, h2, h3⟩ := h
  exact ⟨u, v, s _ _ h1, s _ _ h2, s _ _ h3⟩
theorem CellsAt.k {K : PySem.W.Frag} {H : Hp} {t : Addr} {a b c e : Int} (h : CellsAt H t a b c e) : CellsK K H (.ref t) a b c e := by
  obtain ⟨u, v, h1, h2, h3⟩ := h
  exact ⟨t, u, v, rfl, SqT.of h1, SqT.of h2, SqT.of h3⟩
theorem TabAt.same {C : Addr} {H H' : Hp} {p : Addr} {a b c e : Int} (h : TabAt C H p a b c e) (s : Same H H') : TabAt C H' p a b c e := by
  obtain ⟨dx, t, h1, h2⟩ := h
  exact ⟨dx, t, s _ _ h1, h2.same s⟩
theorem CellsAt.keep {H H' : Hp} {bg sb t : Addr} {a b c e : Int} (h : CellsAt H t a b c e) (B : Bag H bg sb) (k : Keep bg H H') : CellsAt H' t a b c e := by
  obtain ⟨u, v, h1, h2, h3⟩ := h
  exact ⟨u, v, k _ _ (B.tup h1) h1, k _ _ (B.tup h2) h2, k _ _ (B.tup h3) h3⟩
theorem TabAt.keep {C : Addr} {H H' : Hp} {bg sb p : Addr} {a b c e : Int} (h : TabAt C H p a b c e) (B : Bag H bg sb) (k : Keep bg H H') : TabAt C H' p a b c e := by
  obtain ⟨dx, t, h1, h2⟩ := h
  refine ⟨dx, t, k _ _ ?_ h1, h2.keep B k⟩
  obtain ⟨ns, i, j, m, c', B⟩ := B
  exact ne_of h1 B.hb (by intro z; cases z)
section
variable {base : Heap} {K : PySem.W.Frag} {mg : Str → Option Value} {P : Program} {w : World}
def spTInit (K : PySem.W.Frag) (C : Addr) : Sp := fun vs H Q _ => ∃ (p dx : Addr) (r : V) (a b c e : Int), vs = [.ref p, r] ∧ H p = some (.ins C dx []) ∧ CellsK K H r a b c e ∧ ∀ H', TabAt C H' p a b c e → (∀ q o, H q = some o → q ≠ p → H' q = some o) → Q .non H'
theorem ok_Table_init (T : Txt K mg) : FnOk P w K mg base CX0 1 T.f_Table_init T.d_Table_init ["self", "rows"] (spTInit K T.C_Table) := by
  refine T.F_Table_init.ok sc_Table_init (fun vs H Q E h => ?_) (fun cdv A outer s H vs Q E hr h => ?_)
  · obtain ⟨p, dx, r, a, b, c, e, rfl, _⟩ := h
    rfl
  · obtain ⟨p, dx, r, a, b, c, e, rfl, hp, ⟨t, u, v, rfl, ht, hu, hv⟩, q⟩ := h
    refine ⟨_, PSs.nox (pss_cons (ps_asg (pv 1) (pg_tup (by rfl) (pgs_cons (pg_tup (by rfl) (pgs_cons (pg_name (i := 2) sc_Table_init.nd rfl (Or.inl rfl)) (pgs_cons (pg_name (i := 3) sc_Table_init.nd rfl (Or.inl rfl)) pgs_nil))) (pgs_cons (pg_tup (by rfl) (pgs_cons (pg_name (i := 4) sc_Table_init.nd rfl (Or.inl rfl)) (pgs_cons (pg_name (i := 5) sc_Table_init.nd rfl (Or.inl rfl)) pgs_nil))) pgs_nil))))
      (pss_one (ps_fld (pv 0) (pe_tup (pa_cons (pe_tup (pa_cons (pv 2) (pa_cons (pv 3) pa_nil))) (pa_cons (pe_tup (pa_cons (pv 4) (pa_cons (pv 5) pa_nil))) pa_nil))) rfl))), ?_⟩
    refine ⟨_, rfl, t, _, rfl, ht, rfl, .ref u, _, rfl, u, _, rfl, hu, rfl, .int a, _, rfl, .int b, _, rfl, rfl, .ref v, _, rfl, v, _, rfl, hv, rfl, .int c, _, rfl, .int e, _, rfl, rfl, rfl, ?_⟩
    refine ⟨_, rfl, _, rfl, by show 2 ≤ sizeLine; decide, fun u1 n1 => ⟨_, rfl, _, rfl, by show 2 ≤ sizeLine; decide, fun v1 n2 => ⟨by show 2 ≤ sizeLine; decide, fun t1 n3 => ?_⟩⟩⟩
    have e1 := same_new (o := .tup [.int a, .int b]) n1
    have e2 := same_new (o := .tup [.int c, .int e]) n2
    have e3 := same_new (o := .tup [.ref u1, .ref v1]) n3
    have ee := e1.trans (e2.trans e3)
    refine ⟨_, rfl, p, T.C_Table, dx, [], rfl, ee _ _ hp, T.cl_Table, T.n_Table_cells, (by show 0 < 1000; decide), ?_⟩
    have np1 : u1 ≠ p := (ne_of_none hp n1).symm
    have np2 : v1 ≠ p := (ne_of_none (e1 _ _ hp) n2).symm
    have np3 : t1 ≠ p := (ne_of_none ((e1.trans e2) _ _ hp) n3).symm
    refine q _ ⟨dx, t1, upd_same, u1, v1, (upd_ne np3).trans upd_same, (upd_ne np1).trans ((e2.trans e3) _ _ upd_same), (upd_ne np2).trans (e3 _ _ upd_same)⟩ fun q1 o h1 h2 => (upd_ne h2).trans (ee _ _ h1)
theorem mk_tab {C : Addr} {H : Hp} {r : V} {a b c e : Int} {R : Addr → Hp → Prop} {E : XK} (hr : CellsK K H r a b c e) (q : ∀ x H', H x = none → Same H H' → TabAt C H' x a b c e → R x H') :
    ∀ x dx, H x = none → H dx = none → dx ≠ x → spTInit K C [.ref x, r] (upd (upd H dx (.own x)) x (.ins C dx [])) (fun v H2 => v = .non ∧ R x H2) E := by
  intro x dx nx nd ne
  have s1 : Same H (upd (upd H dx (.own x)) x (.ins C dx [])) := fun b o z => by
    rw [upd_ne (ne_of_none z nx), upd_ne (ne_of_none z nd)]
    exact z
  obtain ⟨t, u, v, rfl, h1, h2, h3⟩ := hr
  exact ⟨x, dx, _, a, b, c, e, rfl, upd_same, ⟨t, u, v, rfl, Evl.ex_t s1 h1, Evl.ex_t s1 h2, Evl.ex_t s1 h3⟩, fun H' hT hk => ⟨rfl, q x H' nx (fun p o z => hk p o (s1 p o z) (ne_of_none z nx)) hT⟩⟩
def spRows (C : Addr) : Sp := fun vs H Q _ => ∃ (p : Addr) (a b c e : Int), vs = [.ref p] ∧ TabAt C H p a b c e ∧ ∀ t, CellsAt H t a b c e → Q (.ref t) H
theorem ok_Table_rows (T : Txt K mg) : FnOk P w K mg base CX0 1 T.f_Table_rows T.d_Table_rows ["self"] (spRows T.C_Table) := by
  refine T.F_Table_rows.ok sc_Table_rows (fun vs H Q E h => ?_) (fun cdv A outer s H vs Q E hr h => ?_)
  · obtain ⟨p, a, b, c, e, rfl, _⟩ := h
    rfl
  · obtain ⟨p, a, b, c, e, rfl, ⟨dx, t, hp, ht⟩, q⟩ := h
    exact ⟨_, (pss_one (ps_ret (pe_fld (pv 0) rfl))), _, rfl, p, T.C_Table, dx, _, _, rfl, hp, T.cl_Table, T.n_Table_cells, rfl, q t ht⟩
end
/-! ### the formulas of a table -/
def Bd (n : Nat) (xs : List Int) : Prop := ∀ x ∈ xs, x.natAbs < 2 ^ n
theorem bd_w {n m : Nat} {x : Int} (h : x.natAbs < 2 ^ n) (l : n ≤ m) : x.natAbs < 2 ^ m := Nat.lt_of_lt_of_le h (Nat.pow_le_pow_right (by decide) l)
theorem bd_a {n : Nat} {x y : Int} (h1 : x.natAbs < 2 ^ n) (h2 : y.natAbs < 2 ^ n) : (x + y).natAbs < 2 ^ (n + 1) := by
  rw [Nat.pow_succ]
  omega
section
variable {base : Heap} {K : PySem.W.Frag} {mg : Str → Option Value} {P : Program} {w : World}
def spArea (C : Addr) : Sp := fun vs H Q _ => ∃ (p : Addr) (a b c e d : Int), vs = [.ref p, .int d] ∧ TabAt C H p a b c e ∧ -(2 ^ 64) < d ∧ d < 2 ^ 64 ∧ NewPair H (a + d * e) (b + c) Q
theorem ok_Table_area_for (T : Txt K mg) : FnOk P w K mg base CX0 1 T.f_Table_area_for T.d_Table_area_for ["self", "root"] (spArea T.C_Table) := by
  refine T.F_Table_area_for.ok sc_Table_area_for (fun vs H Q E h => ?_) (fun cdv A outer s H vs Q E hr h => ?_)
  · obtain ⟨p, a, b, c, e, d, rfl, _⟩ := h
    rfl
  · obtain ⟨p, a, b, c, e, d, rfl, ⟨dx, t, hp, u, v, ht, hu, hv⟩, d1, d2, q⟩ := h
    refine ⟨_, (pss_cons (ps_asg (pe_fld (pv 0) rfl) (pg_tup (by rfl) (pgs_cons (pg_tup (by rfl) (pgs_cons (pg_name (i := 2) sc_Table_area_for.nd rfl (Or.inl rfl)) (pgs_cons (pg_name (i := 3) sc_Table_area_for.nd rfl (Or.inl rfl)) pgs_nil))) (pgs_cons (pg_tup (by rfl) (pgs_cons (pg_name (i := 4) sc_Table_area_for.nd rfl (Or.inl rfl)) (pgs_cons (pg_name (i := 5) sc_Table_area_for.nd rfl (Or.inl rfl)) pgs_nil))) pgs_nil))))
      (pss_one (ps_ret (pe_tup (pa_cons (pe_op op_add (pv 2) (pe_op op_mul (pv 1) (pv 5))) (pa_cons (pe_op op_add (pv 3) (pv 4)) pa_nil)))))), ?_⟩
    refine ⟨_, rfl, p, T.C_Table, dx, _, _, rfl, hp, T.cl_Table, T.n_Table_cells, rfl, t, _, rfl, SqT.of ht, rfl, .ref u, _, rfl, u, _, rfl, SqT.of hu, rfl, .int a, _, rfl, .int b, _, rfl, rfl, .ref v, _, rfl, v, _, rfl, SqT.of hv, rfl, .int c, _, rfl, .int e, _, rfl, rfl, rfl, ?_⟩
    exact ⟨_, rfl, _, rfl, _, rfl, d, e, rfl, rfl, .inl ⟨d1, d2⟩, a, _, rfl, rfl, _, rfl, _, rfl, b, c, rfl, rfl, by show 2 ≤ sizeLine; decide, fun p hp => q p _ hp (same_new hp) upd_same⟩
def spMarks (C : Addr) : Sp := fun vs H Q _ => ∃ (p : Addr) (a b c e : Int) (k : Bool), vs = [.ref p, .bl k] ∧ TabAt C H p a b c e ∧
  ∀ p H', H p = none → Same H H' → H' p = some (.tup (if k then [.int a, .int (b + c), .int e] else [.int a, .int b, .int c, .int e])) → Q (.ref p) H'
theorem ok_Table_marks (T : Txt K mg) : FnOk P w K mg base CX0 1 T.f_Table_marks T.d_Table_marks ["self", "turning"] (spMarks T.C_Table) := by
  refine T.F_Table_marks.ok sc_Table_marks (fun vs H Q E h => ?_) (fun cdv A outer s H vs Q E hr h => ?_)
  · obtain ⟨p, a, b, c, e, k, rfl, _⟩ := h
    rfl
  · obtain ⟨p, a, b, c, e, k, rfl, ⟨dx, t, hp, u, v, ht, hu, hv⟩, q⟩ := h
    refine ⟨_, (pss_cons (ps_asg (pe_fld (pv 0) rfl) (pg_tup (by rfl) (pgs_cons (pg_tup (by rfl) (pgs_cons (pg_name (i := 2) sc_Table_marks.nd rfl (Or.inl rfl)) (pgs_cons (pg_name (i := 3) sc_Table_marks.nd rfl (Or.inl rfl)) pgs_nil))) (pgs_cons (pg_tup (by rfl) (pgs_cons (pg_name (i := 4) sc_Table_marks.nd rfl (Or.inl rfl)) (pgs_cons (pg_name (i := 5) sc_Table_marks.nd rfl (Or.inl rfl)) pgs_nil))) pgs_nil))))
      (pss_cons (ps_if (pt_val (pv 1)) (pss_one (ps_ret (pe_tup (pa_cons (pv 2) (pa_cons (pe_op op_add (pv 3) (pv 4)) (pa_cons (pv 5) pa_nil)))))) pss_nil)
      (pss_one (ps_ret (pe_tup (pa_cons (pv 2) (pa_cons (pv 3) (pa_cons (pv 4) (pa_cons (pv 5) pa_nil))))))))), ?_⟩
    refine ⟨_, rfl, p, T.C_Table, dx, _, _, rfl, hp, T.cl_Table, T.n_Table_cells, rfl, t, _, rfl, SqT.of ht, rfl, .ref u, _, rfl, u, _, rfl, SqT.of hu, rfl, .int a, _, rfl, .int b, _, rfl, rfl, .ref v, _, rfl, v, _, rfl, SqT.of hv, rfl, .int c, _, rfl, .int e, _, rfl, rfl, rfl, ?_⟩
    refine ⟨_, rfl, k, rfl, ?_⟩
    cases k with
    | true => exact iteT ⟨_, rfl, _, rfl, _, rfl, b, c, rfl, rfl, _, rfl, by show 3 ≤ sizeLine; decide, fun p hp => q p _ hp (same_new hp) upd_same⟩
    | false => exact iteF ⟨_, rfl, _, rfl, _, rfl, _, rfl, by show 4 ≤ sizeLine; decide, fun p hp => q p _ hp (same_new hp) upd_same⟩
def spWeight (K : PySem.W.Frag) (C : Addr) : Sp := fun vs H Q _ => ∃ (p : Addr) (r : V) (a b c e x y : Int), vs = [.ref p, r] ∧ TabAt C H p a b c e ∧ PairAt K H r x y ∧ Bd 9000 [a, b, c, e, x, y] ∧ Q (.int (a * x * x + (b + c) * x * y + e * y * y)) H
theorem ok_Table_weight (T : Txt K mg) : FnOk P w K mg base CX0 1 T.f_Table_weight T.d_Table_weight ["self", "pair"] (spWeight K T.C_Table) := by
  refine T.F_Table_weight.ok sc_Table_weight (fun vs H Q E h => ?_) (fun cdv A outer s H vs Q E hr h => ?_)
  · obtain ⟨p, r, a, b, c, e, x, y, rfl, _⟩ := h
    rfl
  · obtain ⟨p, r, a, b, c, e, x, y, rfl, ⟨dx, t, hp, u, v, ht, hu, hv⟩, ⟨tr, rfl, hr1⟩, bd, q⟩ := h
    have ba := bd a (by simp)
    have bb := bd b (by simp)
    have bc := bd c (by simp)
    have be := bd e (by simp)
    have bx := bd x (by simp)
    have bY := bd y (by simp)
    refine ⟨_, (pss_cons (ps_asg (pv 1) (pg_tup (by rfl) (pgs_cons (pg_name (i := 2) sc_Table_weight.nd rfl (Or.inl rfl)) (pgs_cons (pg_name (i := 3) sc_Table_weight.nd rfl (Or.inl rfl)) pgs_nil))))
      (pss_cons (ps_asg (pe_fld (pv 0) rfl) (pg_tup (by rfl) (pgs_cons (pg_tup (by rfl) (pgs_cons (pg_name (i := 4) sc_Table_weight.nd rfl (Or.inl rfl)) (pgs_cons (pg_name (i := 5) sc_Table_weight.nd rfl (Or.inl rfl)) pgs_nil))) (pgs_cons (pg_tup (by rfl) (pgs_cons (pg_name (i := 6) sc_Table_weight.nd rfl (Or.inl rfl)) (pgs_cons (pg_name (i := 7) sc_Table_weight.nd rfl (Or.inl rfl)) pgs_nil))) pgs_nil))))
      (pss_one (ps_ret (pe_op op_add (pe_op op_add (pe_op op_mulW (pe_op op_mulW (pv 4) (pv 2)) (pv 2)) (pe_op op_mulW (pe_op op_mulW (pe_op op_add (pv 5) (pv 6)) (pv 2)) (pv 3))) (pe_op op_mulW (pe_op op_mulW (pv 7) (pv 3)) (pv 3))))))), ?_⟩
    refine ⟨_, rfl, tr, _, rfl, hr1, rfl, .int x, _, rfl, .int y, _, rfl, rfl, ?_⟩
    refine ⟨_, rfl, p, T.C_Table, dx, _, _, rfl, hp, T.cl_Table, T.n_Table_cells, rfl, t, _, rfl, SqT.of ht, rfl, .ref u, _, rfl, u, _, rfl, SqT.of hu, rfl, .int a, _, rfl, .int b, _, rfl, rfl, .ref v, _, rfl, v, _, rfl, SqT.of hv, rfl, .int c, _, rfl, .int e, _, rfl, rfl, rfl, ?_⟩
    exact ⟨_, rfl, _, rfl, a, x, rfl, rfl, wide_mul ba bx (by decide) (by decide) (by decide), _, rfl, _, x, rfl, rfl, wide_mul (wide_lt ba bx) bx (by decide) (by decide) (by decide),
      _, rfl, _, rfl, b, c, rfl, rfl, _, rfl, _, x, rfl, rfl, wide_mul (bd_a bb bc) bx (by decide) (by decide) (by decide), _, rfl, _, y, rfl, rfl, wide_mul (wide_lt (bd_a bb bc) bx) bY (by decide) (by decide) (by decide), _, _, rfl, rfl,
      _, rfl, _, rfl, e, y, rfl, rfl, wide_mul be bY (by decide) (by decide) (by decide), _, rfl, _, y, rfl, rfl, wide_mul (wide_lt be bY) bY (by decide) (by decide) (by decide), _, _, rfl, rfl, q⟩
def spDet (C : Addr) : Sp := fun vs H Q _ => ∃ (p : Addr) (a b c e : Int), vs = [.ref p] ∧ TabAt C H p a b c e ∧ Bd 9000 [a, b, c, e] ∧ Q (.int (a * e - b * c)) H
theorem ok_Table_determinant (T : Txt K mg) : FnOk P w K mg base CX0 1 T.f_Table_determinant T.d_Table_determinant ["self"] (spDet T.C_Table) := by
  refine T.F_Table_determinant.ok sc_Table_determinant (fun vs H Q E h => ?_) (fun cdv A outer s H vs Q E hr h => ?_)
  · obtain ⟨p, a, b, c, e, rfl, _⟩ := h
    rfl
  · obtain ⟨p, a, b, c, e, rfl, ⟨dx, t, hp, u, v, ht, hu, hv⟩, bd, q⟩ := h
    have ba := bd a (by simp)
    have bb := bd b (by simp)
    have bc := bd c (by simp)
    have be := bd e (by simp)
    refine ⟨_, (pss_cons (ps_asg (pe_fld (pv 0) rfl) (pg_tup (by rfl) (pgs_cons (pg_tup (by rfl) (pgs_cons (pg_name (i := 1) sc_Table_determinant.nd rfl (Or.inl rfl)) (pgs_cons (pg_name (i := 2) sc_Table_determinant.nd rfl (Or.inl rfl)) pgs_nil))) (pgs_cons (pg_tup (by rfl) (pgs_cons (pg_name (i := 3) sc_Table_determinant.nd rfl (Or.inl rfl)) (pgs_cons (pg_name (i := 4) sc_Table_determinant.nd rfl (Or.inl rfl)) pgs_nil))) pgs_nil))))
      (pss_one (ps_ret (pe_op op_sub (pe_op op_mulW (pv 1) (pv 4)) (pe_op op_mulW (pv 2) (pv 3)))))), ?_⟩
    refine ⟨_, rfl, p, T.C_Table, dx, _, _, rfl, hp, T.cl_Table, T.n_Table_cells, rfl, t, _, rfl, SqT.of ht, rfl, .ref u, _, rfl, u, _, rfl, SqT.of hu, rfl, .int a, _, rfl, .int b, _, rfl, rfl, .ref v, _, rfl, v, _, rfl, SqT.of hv, rfl, .int c, _, rfl, .int e, _, rfl, rfl, rfl, ?_⟩
    exact ⟨_, rfl, _, rfl, a, e, rfl, rfl, wide_mul ba be (by decide) (by decide) (by decide), _, rfl, _, rfl, b, c, rfl, rfl, wide_mul bb bc (by decide) (by decide) (by decide), _, _, rfl, rfl, q⟩
def NewTab (C : Addr) (H : Hp) (a b c e : Int) (Q : VK) : Prop := ∀ x H', H x = none → Same H H' → TabAt C H' x a b c e → Q (.ref x) H'
def spOuter (K : PySem.W.Frag) (C : Addr) : Sp := fun vs H Q _ => ∃ (u v : V) (a b c e : Int), vs = [u, v] ∧ PairAt K H u a b ∧ PairAt K H v c e ∧ Bd 9000 [a, b, c, e] ∧ NewTab C H (c * a) (e * a) (c * b) (e * b) Q
theorem ok_outer (T : Txt K mg) : FnOk P w K mg base CX0 3 T.f_outer T.d_outer ["one", "other"] (spOuter K T.C_Table) := by
  refine T.F_outer.ok sc_outer (fun vs H Q E h => ?_) (fun cdv A outer s H vs Q E hr h => ?_)
  · obtain ⟨u, v, a, b, c, e, rfl, _⟩ := h
    rfl
  · obtain ⟨u, v, a, b, c, e, rfl, ⟨t, rfl, ht⟩, ⟨t2, rfl, ht2⟩, bd, q⟩ := h
    have ba := bd a (by simp)
    have bb := bd b (by simp)
    have bc := bd c (by simp)
    have be := bd e (by simp)
    refine ⟨_, (pss_cons (ps_asg (pv 0) (pg_tup (by rfl) (pgs_cons (pg_name (i := 2) sc_outer.nd rfl (Or.inl rfl)) (pgs_cons (pg_name (i := 3) sc_outer.nd rfl (Or.inl rfl)) pgs_nil))))
      (pss_one (ps_ret (pe_make T.M_Table (ok_Table_init T) (hr.mono (by decide)) (by rfl) T.g_Table T.b_Table_init .nil pass0 (pa_cons (pe_tup (pa_cons (pe_call (ok_scaled T) (hr.mono (by decide)) (by rfl) T.g_scaled T.F_scaled.kp T.b_scaled .nil pass0 (pa_cons (pv 1) (pa_cons (pv 2) pa_nil))) (pa_cons (pe_call (ok_scaled T) (hr.mono (by decide)) (by rfl) T.g_scaled T.F_scaled.kp T.b_scaled .nil pass0 (pa_cons (pv 1) (pa_cons (pv 3) pa_nil))) pa_nil))) pa_nil))))), ?_⟩
    refine ⟨_, rfl, t, _, rfl, ht, rfl, .int a, _, rfl, .int b, _, rfl, rfl, ?_⟩
    refine ⟨_, rfl, _, rfl, _, c, e, a, rfl, ⟨t2, rfl, ht2⟩, bc, be, ba, fun p1 H1 n1 e1 f1 => ?_⟩
    refine ⟨_, rfl, _, rfl, _, c, e, b, rfl, ⟨t2, rfl, Evl.ex_t e1 ht2⟩, bc, be, bb, fun p2 H2 n2 e2 f2 => ?_⟩
    refine ⟨by show 2 ≤ sizeLine; decide, fun p3 n3 => ?_⟩
    have e3 := same_new (o := .tup [.ref p1, .ref p2]) n3
    refine mk_tab (K := K) ⟨p3, p1, p2, rfl, SqT.of upd_same, SqT.of ((e2.trans e3) _ _ f1), SqT.of (e3 _ _ f2)⟩ fun x H' nx sx hx => ?_
    exact q x H' ((e1.trans (e2.trans e3)).free nx) ((e1.trans (e2.trans e3)).trans sx) hx
end
/-! ### the signs of tables -/
theorem eqv4 (a b c e a' b' c' e' : Int) : PyData.eqv (.tuple [.tuple [.int a, .int b], .tuple [.int c, .int e]]) (.tuple [.tuple [.int a', .int b'], .tuple [.int c', .int e']]) = decide (a = a' ∧ b = b' ∧ c = c' ∧ e = e') := by
  simp [PyData.eqv, PyData.eqvAll]
  first | rfl | (by_cases h1 : a = a' <;> by_cases h2 : b = b' <;> by_cases h3 : c = c' <;> by_cases h4 : e = e' <;> simp [h1, h2, h3, h4])
theorem CellsAt.dp {K : PySem.W.Frag} {H : Hp} {t : Addr} {a b c e : Int} (h : CellsAt H t a b c e) : Dp K H (.ref t) (.tuple [.tuple [.int a, .int b], .tuple [.int c, .int e]]) := by
  obtain ⟨u, v, h1, h2, h3⟩ := h
  exact .tup (SqT.of h1) (.cons (.tup (SqT.of h2) (.cons (.int a) (.cons (.int b) .nil))) (.cons (.tup (SqT.of h3) (.cons (.int c) (.cons (.int e) .nil))) .nil))
section
variable {base : Heap} {K : PySem.W.Frag} {mg : Str → Option Value} {P : Program} {w : World}
def spAdd (C : Addr) : Sp := fun vs H Q _ => ∃ (p q : Addr) (a b c e a' b' c' e' : Int), vs = [.ref p, .ref q] ∧ TabAt C H p a b c e ∧ TabAt C H q a' b' c' e' ∧ NewTab C H (a + a') (b + b') (c + c') (e + e') Q
theorem ok_Table_add (T : Txt K mg) : FnOk P w K mg base CX0 3 T.f_Table_add T.d_Table_add ["self", "other"] (spAdd T.C_Table) := by
  refine T.F_Table_add.ok sc_Table_add (fun vs H Q E h => ?_) (fun cdv A outer s H vs Q E hr h => ?_)
  · obtain ⟨p, q, a, b, c, e, a', b', c', e', rfl, _⟩ := h
    rfl
  · obtain ⟨p, q, a, b, c, e, a', b', c', e', rfl, ⟨dx, t, hp, u, v, ht, hu, hv⟩, ⟨dy, t', hq, u', v', ht', hu', hv'⟩, k⟩ := h
    refine ⟨_, (pss_cons (ps_asg (pe_fld (pv 0) rfl) (pg_tup (by rfl) (pgs_cons (pg_name (i := 2) sc_Table_add.nd rfl (Or.inl rfl)) (pgs_cons (pg_name (i := 3) sc_Table_add.nd rfl (Or.inl rfl)) pgs_nil))))
      (pss_cons (ps_asg (pe_fld (pv 1) rfl) (pg_tup (by rfl) (pgs_cons (pg_name (i := 4) sc_Table_add.nd rfl (Or.inl rfl)) (pgs_cons (pg_name (i := 5) sc_Table_add.nd rfl (Or.inl rfl)) pgs_nil))))
      (pss_one (ps_ret (pe_make T.M_Table (ok_Table_init T) (hr.mono (by decide)) (by rfl) T.g_Table T.b_Table_init .nil pass0 (pa_cons (pe_tup (pa_cons (pe_callR (ok_added T) (hr.mono (by decide)) (by rfl) T.g_added T.F_added.kp pass0 (pa_cons (pv 2) (pa_cons (pv 4) pa_nil))) (pa_cons (pe_callR (ok_added T) (hr.mono (by decide)) (by rfl) T.g_added T.F_added.kp pass0 (pa_cons (pv 3) (pa_cons (pv 5) pa_nil))) pa_nil))) pa_nil)))))), ?_⟩
    refine ⟨_, rfl, p, T.C_Table, dx, _, _, rfl, hp, T.cl_Table, T.n_Table_cells, rfl, t, _, rfl, SqT.of ht, rfl, .ref u, _, rfl, .ref v, _, rfl, rfl, ?_⟩
    refine ⟨_, rfl, q, T.C_Table, dy, _, _, rfl, hq, T.cl_Table, T.n_Table_cells, rfl, t', _, rfl, SqT.of ht', rfl, .ref u', _, rfl, .ref v', _, rfl, rfl, ?_⟩
    refine ⟨_, rfl, _, rfl, [(a, b), (a', b')], .cons ⟨u, rfl, SqT.of hu⟩ (.cons ⟨u', rfl, SqT.of hu'⟩ .nil), by simp, fun p1 H1 n1 e1 f1 => ?_⟩
    refine ⟨_, rfl, _, rfl, [(c, e), (c', e')], .cons ⟨v, rfl, SqT.of (e1 _ _ hv)⟩ (.cons ⟨v', rfl, SqT.of (e1 _ _ hv')⟩ .nil), by simp, fun p2 H2 n2 e2 f2 => ?_⟩
    rw [show Gy.s1 [(a, b), (a', b')] = a + a' by simp [Gy.s1], show Gy.s2 [(a, b), (a', b')] = b + b' by simp [Gy.s2]] at f1
    rw [show Gy.s1 [(c, e), (c', e')] = c + c' by simp [Gy.s1], show Gy.s2 [(c, e), (c', e')] = e + e' by simp [Gy.s2]] at f2
    refine ⟨by show 2 ≤ sizeLine; decide, fun p3 n3 => ?_⟩
    have e3 := same_new (o := .tup [.ref p1, .ref p2]) n3
    refine mk_tab (K := K) ⟨p3, p1, p2, rfl, SqT.of upd_same, SqT.of ((e2.trans e3) _ _ f1), SqT.of (e3 _ _ f2)⟩ fun x H' nx sx hx => ?_
    exact k x H' ((e1.trans (e2.trans e3)).free nx) ((e1.trans (e2.trans e3)).trans sx) hx
def spMul (C : Addr) : Sp := fun vs H Q _ => ∃ (p : Addr) (a b c e n : Int), vs = [.ref p, .int n] ∧ TabAt C H p a b c e ∧ Bd 9000 [a, b, c, e, n] ∧ NewTab C H (a * n) (b * n) (c * n) (e * n) Q
theorem ok_Table_mul (T : Txt K mg) : FnOk P w K mg base CX0 3 T.f_Table_mul T.d_Table_mul ["self", "other"] (spMul T.C_Table) := by
  refine T.F_Table_mul.ok sc_Table_mul (fun vs H Q E h => ?_) (fun cdv A outer s H vs Q E hr h => ?_)
  · obtain ⟨p, a, b, c, e, n, rfl, _⟩ := h
    rfl
  · obtain ⟨p, a, b, c, e, n, rfl, ⟨dx, t, hp, u, v, ht, hu, hv⟩, bd, k⟩ := h
    have ba := bd a (by simp)
    have bb := bd b (by simp)
    have bc := bd c (by simp)
    have be := bd e (by simp)
    have bn := bd n (by simp)
    refine ⟨_, (pss_cons (ps_asg (pe_fld (pv 0) rfl) (pg_tup (by rfl) (pgs_cons (pg_name (i := 2) sc_Table_mul.nd rfl (Or.inl rfl)) (pgs_cons (pg_name (i := 3) sc_Table_mul.nd rfl (Or.inl rfl)) pgs_nil))))
      (pss_one (ps_ret (pe_make T.M_Table (ok_Table_init T) (hr.mono (by decide)) (by rfl) T.g_Table T.b_Table_init .nil pass0 (pa_cons (pe_tup (pa_cons (pe_call (ok_scaled T) (hr.mono (by decide)) (by rfl) T.g_scaled T.F_scaled.kp T.b_scaled .nil pass0 (pa_cons (pv 2) (pa_cons (pv 1) pa_nil))) (pa_cons (pe_call (ok_scaled T) (hr.mono (by decide)) (by rfl) T.g_scaled T.F_scaled.kp T.b_scaled .nil pass0 (pa_cons (pv 3) (pa_cons (pv 1) pa_nil))) pa_nil))) pa_nil))))), ?_⟩
    refine ⟨_, rfl, p, T.C_Table, dx, _, _, rfl, hp, T.cl_Table, T.n_Table_cells, rfl, t, _, rfl, SqT.of ht, rfl, .ref u, _, rfl, .ref v, _, rfl, rfl, ?_⟩
    refine ⟨_, rfl, _, rfl, _, a, b, n, rfl, ⟨u, rfl, SqT.of hu⟩, ba, bb, bn, fun p1 H1 n1 e1 f1 => ?_⟩
    refine ⟨_, rfl, _, rfl, _, c, e, n, rfl, ⟨v, rfl, SqT.of (e1 _ _ hv)⟩, bc, be, bn, fun p2 H2 n2 e2 f2 => ?_⟩
    refine ⟨by show 2 ≤ sizeLine; decide, fun p3 n3 => ?_⟩
    have e3 := same_new (o := .tup [.ref p1, .ref p2]) n3
    refine mk_tab (K := K) ⟨p3, p1, p2, rfl, SqT.of upd_same, SqT.of ((e2.trans e3) _ _ f1), SqT.of (e3 _ _ f2)⟩ fun x H' nx sx hx => ?_
    exact k x H' ((e1.trans (e2.trans e3)).free nx) ((e1.trans (e2.trans e3)).trans sx) hx
def spNeg (C : Addr) : Sp := fun vs H Q _ => ∃ (p : Addr) (a b c e : Int), vs = [.ref p] ∧ TabAt C H p a b c e ∧ Bd 9000 [a, b, c, e] ∧ NewTab C H (-a) (-b) (-c) (-e) Q
theorem Bd.nil {n : Nat} : Bd n [] := fun _ h => nomatch h
theorem Bd.cons {n : Nat} {x : Int} {xs : List Int} (h : x.natAbs < 2 ^ n) (t : Bd n xs) : Bd n (x :: xs) := fun y hy => by
  rcases List.mem_cons.mp hy with rfl | e
  · exact h
  · exact t y e
theorem Bd.b4 {n : Nat} {a b c e : Int} (h : Bd n [a, b, c, e]) : a.natAbs < 2 ^ n ∧ b.natAbs < 2 ^ n ∧ c.natAbs < 2 ^ n ∧ e.natAbs < 2 ^ n := ⟨h a (by simp), h b (by simp), h c (by simp), h e (by simp)⟩
theorem mk4 {n : Nat} {a b c e : Int} (h1 : a.natAbs < 2 ^ n) (h2 : b.natAbs < 2 ^ n) (h3 : c.natAbs < 2 ^ n) (h4 : e.natAbs < 2 ^ n) : Bd n [a, b, c, e] := .cons h1 (.cons h2 (.cons h3 (.cons h4 .nil)))
theorem mk5 {n : Nat} {a b c e x : Int} (h : Bd n [a, b, c, e]) (h5 : x.natAbs < 2 ^ n) : Bd n [a, b, c, e, x] := by
  obtain ⟨h1, h2, h3, h4⟩ := h.b4
  exact .cons h1 (.cons h2 (.cons h3 (.cons h4 (.cons h5 .nil))))
theorem one_bd {n : Nat} (h : 1 ≤ n) : (1 : Int).natAbs < 2 ^ n := Nat.lt_of_lt_of_le (show 1 < 2 ^ 1 by decide) (Nat.pow_le_pow_right (by decide) h)
theorem ok_Table_neg (T : Txt K mg) : FnOk P w K mg base CX0 4 T.f_Table_neg T.d_Table_neg ["self"] (spNeg T.C_Table) := by
  refine T.F_Table_neg.ok sc_Table_neg (fun vs H Q E h => ?_) (fun cdv A outer s H vs Q E hr h => ?_)
  · obtain ⟨p, a, b, c, e, rfl, _⟩ := h
    rfl
  · obtain ⟨p, a, b, c, e, rfl, hT, bd, k⟩ := h
    obtain ⟨dx, t, hp, _⟩ := id hT
    refine ⟨_, (pss_one (ps_ret (pe_op (op_binI T.m_Table_mul T.sf_Table T.x_Table_rmul T.i_mul T.i_rmul T.is_Table (ok_Table_mul T) (hr.mono (by decide)) T.b_Table_mul pass0) (pv 0) (pe_un un_neg pe_int)))), ?_⟩
    refine ⟨_, rfl, 1, rfl, p, dx, _, -1, rfl, rfl, hp, p, a, b, c, e, -1, rfl, hT, mk5 bd (by simpa using one_bd (by decide)), fun x H' nx sx hx => k x H' nx sx ?_⟩
    simpa using hx
def spSub (C : Addr) : Sp := fun vs H Q _ => ∃ (p q : Addr) (a b c e a' b' c' e' : Int), vs = [.ref p, .ref q] ∧ TabAt C H p a b c e ∧ TabAt C H q a' b' c' e' ∧ Bd 9000 [a', b', c', e'] ∧ NewTab C H (a - a') (b - b') (c - c') (e - e') Q
theorem ok_Table_sub (T : Txt K mg) : FnOk P w K mg base CX0 5 T.f_Table_sub T.d_Table_sub ["self", "other"] (spSub T.C_Table) := by
  refine T.F_Table_sub.ok sc_Table_sub (fun vs H Q E h => ?_) (fun cdv A outer s H vs Q E hr h => ?_)
  · obtain ⟨p, q, a, b, c, e, a', b', c', e', rfl, _⟩ := h
    rfl
  · obtain ⟨p, q, a, b, c, e, a', b', c', e', rfl, hT, hU, bd, k⟩ := h
    obtain ⟨dx, t, hp, _⟩ := id hT
    obtain ⟨dy, t', hq, _⟩ := id hU
    refine ⟨_, (pss_one (ps_ret (pe_op (op_bin T.m_Table_add T.sf_Table (ok_Table_add T) (hr.mono (by decide)) T.b_Table_add pass0) (pv 0) (pe_un (un_own T.m_Table_neg (ok_Table_neg T) (hr.mono (by decide)) T.b_Table_neg pass0) (pv 1))))), ?_⟩
    refine ⟨_, rfl, _, rfl, q, dy, _, rfl, hq, q, a', b', c', e', rfl, hU, bd, fun x H1 n1 e1 hx => ?_⟩
    obtain ⟨dz, tz, hz, _⟩ := id hx
    refine ⟨p, dx, _, x, dz, _, rfl, rfl, e1 _ _ hp, hz, p, x, a, b, c, e, -a', -b', -c', -e', rfl, hT.same e1, hx, fun y H2 n2 e2 hy => k y H2 (e1.free n2) (e1.trans e2) ?_⟩
    simpa [Int.sub_eq_add_neg] using hy
def spEqT (K : PySem.W.Frag) (C : Addr) : Sp := fun vs H Q _ => ∃ (p : Addr) (y : V) (a b c e : Int), vs = [.ref p, y] ∧ TabAt C H p a b c e ∧
  ((∃ (q : Addr) (a' b' c' e' : Int), y = .ref q ∧ TabAt C H q a' b' c' e' ∧ Q (.bl (decide (a = a' ∧ b = b' ∧ c = c' ∧ e = e'))) H) ∨ (∃ t, TyX K H y t ∧ PySem.W.kitOne K t (.ref C) = some false ∧ Q (.bl false) H))
theorem ok_Table_eq (T : Txt K mg) : FnOk P w K mg base CX0 1 T.f_Table_eq T.d_Table_eq ["self", "other"] (spEqT K T.C_Table) := by
  refine T.F_Table_eq.ok sc_Table_eq (fun vs H Q E h => ?_) (fun cdv A outer s H vs Q E hr h => ?_)
  · obtain ⟨p, y, a, b, c, e, rfl, _⟩ := h
    rfl
  · obtain ⟨p, y, a, b, c, e, rfl, ⟨dx, t, hp, hc⟩, h⟩ := h
    refine ⟨_, (pss_one (ps_ret (pe_and (pe_callB call_isi (by rfl) T.n_isinstance (by decide +kernel) (pa_cons (pv 1) (pa_cons (pe_glob (v := .ref T.C_Table) (by rfl) T.g_Table rfl) pa_nil))) (pe_one (pe_cmpR (op_eqD hr.units) (pe_fld (pv 0) rfl) (pe_fld (pv 1) rfl) (nomark _)))))), ?_⟩
    rcases h with ⟨q, a', b', c', e', rfl, ⟨dy, t', hq, hc'⟩, k⟩ | ⟨ty, h1, h2, k⟩
    · refine ⟨_, rfl, .ref q, .ref T.C_Table, .ref T.C_Table, .ref T.C_Table, true, rfl, ClsV.own _, TyX.base (TyOf.ins hq T.cl_Table T.ca_Table T.hn T.ht T.mo_Table), by simp [PySem.W.kitOne], true, rfl, iteT ?_⟩
      refine ⟨_, rfl, p, T.C_Table, dx, _, _, rfl, hp, T.cl_Table, T.n_Table_cells, rfl, _, rfl, q, T.C_Table, dy, _, _, rfl, hq, T.cl_Table, T.n_Table_cells, rfl, _, _, hc.dp, hc'.dp, rfl, rfl, ?_⟩
      rw [eqv4]
      exact k
    · exact ⟨_, rfl, y, .ref T.C_Table, ty, .ref T.C_Table, false, rfl, ClsV.own _, h1, h2, false, rfl, iteF k⟩
def spBoolT (C : Addr) : Sp := fun vs H Q _ => ∃ (p : Addr) (a b c e : Int), vs = [.ref p] ∧ TabAt C H p a b c e ∧ ∀ H', Same H H' → Q (.bl ([a, b, c, e].any fun i => i != 0)) H'
theorem ok_Table_bool (T : Txt K mg) : FnOk P w K mg base CX0 1 T.f_Table_bool T.d_Table_bool ["self"] (spBoolT T.C_Table) := by
  refine T.F_Table_bool.ok sc_Table_bool (fun vs H Q E h => ?_) (fun cdv A outer s H vs Q E hr h => ?_)
  · obtain ⟨p, a, b, c, e, rfl, _⟩ := h
    rfl
  · obtain ⟨p, a, b, c, e, rfl, ⟨dx, t, hp, u, v, ht, hu, hv⟩, q⟩ := h
    refine ⟨_, (pss_cons (ps_asg (pe_fld (pv 0) rfl) (pg_tup (by rfl) (pgs_cons (pg_tup (by rfl) (pgs_cons (pg_name (i := 1) sc_Table_bool.nd rfl (Or.inl rfl)) (pgs_cons (pg_name (i := 2) sc_Table_bool.nd rfl (Or.inl rfl)) pgs_nil))) (pgs_cons (pg_tup (by rfl) (pgs_cons (pg_name (i := 3) sc_Table_bool.nd rfl (Or.inl rfl)) (pgs_cons (pg_name (i := 4) sc_Table_bool.nd rfl (Or.inl rfl)) pgs_nil))) pgs_nil))))
      (pss_one (ps_ret (pe_callB (cr_anyI rfl) (by rfl) T.n_any (by decide +kernel) (pa_cons (pe_lst (pa_cons (pv 1) (pa_cons (pv 2) (pa_cons (pv 3) (pa_cons (pv 4) pa_nil))))) pa_nil))))), ?_⟩
    refine ⟨_, rfl, p, T.C_Table, dx, _, _, rfl, hp, T.cl_Table, T.n_Table_cells, rfl, t, _, rfl, SqT.of ht, rfl, .ref u, _, rfl, u, _, rfl, SqT.of hu, rfl, .int a, _, rfl, .int b, _, rfl, rfl, .ref v, _, rfl, v, _, rfl, SqT.of hv, rfl, .int c, _, rfl, .int e, _, rfl, rfl, rfl, ?_⟩
    exact ⟨_, rfl, _, rfl, _, rfl, _, rfl, by show 4 ≤ sizeLine; decide, fun l hl => ⟨l, [a, b, c, e], rfl, SqL.of upd_same, q _ (same_new hl)⟩⟩
end
/-! ### the signs, used -/
theorem Dflt.cells {K : PySem.W.Frag} {H : Hp} {r : Addr} (h : Dflt K r) : CellsK K H (.ref r) 0 0 0 0 := by
  obtain ⟨a, b, c⟩ := h
  exact ⟨_, _, _, rfl, .inr ⟨_, _, _, a, rfl, rfl, by show 2 ≤ sizeLine; decide, .cons rfl (.cons rfl .nil)⟩, .inr ⟨_, _, _, b, rfl, rfl, by show 2 ≤ sizeLine; decide, .cons ⟨_, rfl⟩ (.cons ⟨_, rfl⟩ .nil)⟩, .inr ⟨_, _, _, c, rfl, rfl, by show 2 ≤ sizeLine; decide, .cons ⟨_, rfl⟩ (.cons ⟨_, rfl⟩ .nil)⟩⟩
theorem wn {x : Int} (h : x.natAbs ≤ 10 ^ 18) : x.natAbs < 2 ^ 60 := Nat.lt_of_le_of_lt h (by decide)
theorem nc : ∀ {t : Addr} {m : Str}, ¬ m = "cells" → ([(("cells" : Str), V.ref t)] : List (Str × V)).lookup m = none := by
  intro t m h
  rw [List.lookup_cons, show (m == "cells") = false from beq_eq_false_iff_ne.mpr h]
  rfl
theorem Bd.up {n m : Nat} {xs : List Int} (h : Bd n xs) (l : n ≤ m) : Bd m xs := fun x hx => bd_w (h x hx) l
theorem Bd.add {n : Nat} {a b c e a' b' c' e' : Int} (h : Bd n [a, b, c, e]) (h' : Bd n [a', b', c', e']) : Bd (n + 1) [a + a', b + b', c + c', e + e'] := by
  obtain ⟨h1, h2, h3, h4⟩ := h.b4
  obtain ⟨k1, k2, k3, k4⟩ := h'.b4
  exact mk4 (bd_a h1 k1) (bd_a h2 k2) (bd_a h3 k3) (bd_a h4 k4)
theorem Bd.sub {n : Nat} {a b c e a' b' c' e' : Int} (h : Bd n [a, b, c, e]) (h' : Bd n [a', b', c', e']) : Bd (n + 1) [a - a', b - b', c - c', e - e'] := by
  obtain ⟨h1, h2, h3, h4⟩ := h.b4
  obtain ⟨k1, k2, k3, k4⟩ := h'.b4
  have g : ∀ x y : Int, x.natAbs < 2 ^ n → y.natAbs < 2 ^ n → (x - y).natAbs < 2 ^ (n + 1) := fun x y hx hy => by
    rw [Nat.pow_succ]
    omega
  exact mk4 (g _ _ h1 k1) (g _ _ h2 k2) (g _ _ h3 k3) (g _ _ h4 k4)
theorem Bd.mul {n m : Nat} {a b c e x : Int} (h : Bd n [a, b, c, e]) (hx : x.natAbs < 2 ^ m) : Bd (n + m) [a * x, b * x, c * x, e * x] := by
  obtain ⟨h1, h2, h3, h4⟩ := h.b4
  exact mk4 (wide_lt h1 hx) (wide_lt h2 hx) (wide_lt h3 hx) (wide_lt h4 hx)
section
variable {K : PySem.W.Frag} {C : Addr} {H : Hp} {E : XK} {Q : VK} {p q : Addr} {a b c e a' b' c' e' n : Int}
theorem add_do (hX : TabAt C H p a b c e) (hY : TabAt C H q a' b' c' e') (k : NewTab C H (a + a') (b + b') (c + c') (e + e') Q) : rOwn2 C (spAdd C) E (.ref p) (.ref q) H Q := by
  obtain ⟨dx, t, hp, _⟩ := id hX
  obtain ⟨dy, t', hq, _⟩ := id hY
  exact ⟨p, dx, _, q, dy, _, rfl, rfl, hp, hq, p, q, a, b, c, e, a', b', c', e', rfl, hX, hY, k⟩
theorem sub_do {m : Nat} (hX : TabAt C H p a b c e) (hY : TabAt C H q a' b' c' e') (bd : Bd m [a', b', c', e']) (hm : m ≤ 9000) (k : NewTab C H (a - a') (b - b') (c - c') (e - e') Q) : rOwn2 C (spSub C) E (.ref p) (.ref q) H Q := by
  obtain ⟨dx, t, hp, _⟩ := id hX
  obtain ⟨dy, t', hq, _⟩ := id hY
  exact ⟨p, dx, _, q, dy, _, rfl, rfl, hp, hq, p, q, a, b, c, e, a', b', c', e', rfl, hX, hY, bd.up hm, k⟩
theorem mul_do {m : Nat} (hX : TabAt C H p a b c e) (bd : Bd m [a, b, c, e]) (bn : n.natAbs < 2 ^ 9000) (hm : m ≤ 9000) (k : NewTab C H (a * n) (b * n) (c * n) (e * n) Q) : rOwnI C (spMul C) E (.ref p) (.int n) H Q := by
  obtain ⟨dx, t, hp, _⟩ := id hX
  exact ⟨p, dx, _, n, rfl, rfl, hp, p, a, b, c, e, n, rfl, hX, mk5 (bd.up hm) bn, k⟩
theorem neg_do {m : Nat} (hX : TabAt C H p a b c e) (bd : Bd m [a, b, c, e]) (hm : m ≤ 9000) (k : NewTab C H (-a) (-b) (-c) (-e) Q) : rOwn1 C (spNeg C) E (.ref p) H Q := by
  obtain ⟨dx, t, hp, _⟩ := id hX
  exact ⟨p, dx, _, rfl, hp, p, a, b, c, e, rfl, hX, bd.up hm, k⟩
theorem neq_do (hX : TabAt C H p a b c e) (hY : TabAt C H q a' b' c' e') (k : Q (.bl (!decide (a = a' ∧ b = b' ∧ c = c' ∧ e = e'))) H) : rOwnN C (spEqT K C) E (.ref p) (.ref q) H Q := by
  obtain ⟨dx, t, hp, _⟩ := id hX
  obtain ⟨dy, t', hq, _⟩ := id hY
  exact ⟨p, dx, _, q, dy, _, rfl, rfl, hp, hq, p, .ref q, a, b, c, e, rfl, hX, .inl ⟨q, a', b', c', e', rfl, hY, _, rfl, k⟩⟩
theorem ne_do (hX : TabAt C H p a b c e) (hY : TabAt C H q a' b' c' e') (e1 : a = a') (e2 : b = b') (e3 : c = c') (e4 : e = e') (k : Q (.bl false) H) : rOwnN C (spEqT K C) E (.ref p) (.ref q) H Q := by
  refine neq_do hX hY ?_
  rw [decide_eq_true ⟨e1, e2, e3, e4⟩]
  exact k
theorem eq_do (hX : TabAt C H p a b c e) (hY : TabAt C H q a' b' c' e') (k : Q (.bl (decide (a = a' ∧ b = b' ∧ c = c' ∧ e = e'))) H) : rOwn2 C (spEqT K C) E (.ref p) (.ref q) H Q := by
  obtain ⟨dx, t, hp, _⟩ := id hX
  obtain ⟨dy, t', hq, _⟩ := id hY
  exact ⟨p, dx, _, q, dy, _, rfl, rfl, hp, hq, p, .ref q, a, b, c, e, rfl, hX, .inl ⟨q, a', b', c', e', rfl, hY, k⟩⟩
theorem bool_do (hX : TabAt C H p a b c e) (k : ∀ H', Same H H' → Q (.bl ([a, b, c, e].any fun i => i != 0)) H') : rBoolO C (spBoolT C) E [.ref p] H Q := by
  obtain ⟨dx, t, hp, _⟩ := id hX
  exact ⟨p, dx, _, rfl, hp, p, a, b, c, e, rfl, hX, fun H' s => ⟨_, rfl, k H' s⟩⟩
end
theorem any4 (a b c e a' b' c' e' : Int) : ([a - a', b - b', c - c', e - e'].any fun i => i != 0) = !decide (a = a' ∧ b = b' ∧ c = c' ∧ e = e') := by
  have h : ∀ x y : Int, (x - y != 0) = !decide (x = y) := fun x y => by
    by_cases h : x = y
    · subst h
      simp
    · have : x - y ≠ 0 := fun z => h (by omega)
      simp [h, this]
  simp only [List.any_cons, List.any_nil, h, Bool.or_false]
  by_cases h1 : a = a' <;> by_cases h2 : b = b' <;> by_cases h3 : c = c' <;> by_cases h4 : e = e' <;> simp [h1, h2, h3, h4]
/-- tables that were drawn -/
inductive Tabs (C : Addr) (H : Hp) : List V → List (Int × Int × Int × Int) → Prop
  | nil : Tabs C H [] []
  | cons {p : Addr} {vs : List V} {a b c e : Int} {ts : List (Int × Int × Int × Int)} : TabAt C H p a b c e → Bd 60 [a, b, c, e] → Tabs C H vs ts → Tabs C H (.ref p :: vs) ((a, b, c, e) :: ts)
theorem Tabs.inv {C : Addr} {H : Hp} {v : V} {vs : List V} {ts : List (Int × Int × Int × Int)} (h : Tabs C H (v :: vs) ts) : ∃ (p : Addr) (a b c e : Int) (ts' : List (Int × Int × Int × Int)), v = .ref p ∧ ts = (a, b, c, e) :: ts' ∧ TabAt C H p a b c e ∧ Bd 60 [a, b, c, e] ∧ Tabs C H vs ts' := by
  cases h with
  | cons h b t => exact ⟨_, _, _, _, _, _, rfl, rfl, h, b, t⟩
theorem Tabs.mono {C : Addr} {H H' : Hp} (k : ∀ p a b c e, TabAt C H p a b c e → TabAt C H' p a b c e) : ∀ {vs : List V} {ts : List (Int × Int × Int × Int)}, Tabs C H vs ts → Tabs C H' vs ts
  | _, _, .nil => .nil
  | _, _, .cons h b t => .cons (k _ _ _ _ _ h) b (t.mono k)
theorem Tabs.snoc {C : Addr} {H : Hp} {p : Addr} {a b c e : Int} (h : TabAt C H p a b c e) (bd : Bd 60 [a, b, c, e]) : ∀ {vs : List V} {ts : List (Int × Int × Int × Int)}, Tabs C H vs ts → Tabs C H (vs ++ [.ref p]) (ts ++ [(a, b, c, e)])
  | _, _, .nil => .cons h bd .nil
  | _, _, .cons h' b' t => .cons h' b' (t.snoc h bd)
theorem TabAt.put {C : Addr} {H : Hp} {p l : Addr} {a b c e : Int} {ys zs : List V} (hl : H l = some (.lst ys)) (h : TabAt C H p a b c e) : TabAt C (upd H l (.lst zs)) p a b c e := by
  obtain ⟨dx, t, h1, u, v, h2, h3, h4⟩ := h
  exact ⟨dx, t, (upd_ne (ne_of h1 hl (by intro z; cases z))).trans h1, u, v, (upd_ne (ne_of h2 hl (by intro z; cases z))).trans h2, (upd_ne (ne_of h3 hl (by intro z; cases z))).trans h3, (upd_ne (ne_of h4 hl (by intro z; cases z))).trans h4⟩
theorem dpair {K : PySem.W.Frag} {H : Hp} {p : Addr} {x y : Int} (h : H p = some (.tup [.int x, .int y])) : Dp K H (.ref p) (.tuple [.int x, .int y]) := .tup (SqT.of h) (.cons (.int x) (.cons (.int y) .nil))
theorem eqv2 (a b c e : Int) : PyData.eqv (.tuple [.int a, .int b]) (.tuple [.int c, .int e]) = (decide (a = c) && decide (b = e)) := by
  simp [PyData.eqv, PyData.eqvAll]
  first | rfl | (by_cases h1 : a = c <;> by_cases h2 : b = e <;> simp [h1, h2])
theorem ne_pair {a b c e : Int} (h1 : a = c) (h2 : b = e) : (!PyData.eqv (.tuple [.int a, .int b]) (.tuple [.int c, .int e])) = false := by
  rw [eqv2, decide_eq_true h1, decide_eq_true h2]
  rfl
theorem dtri {K : PySem.W.Frag} {H : Hp} {p : Addr} {x y z : Int} (h : H p = some (.tup [.int x, .int y, .int z])) : Dp K H (.ref p) (.tuple [.int x, .int y, .int z]) := .tup (SqT.of h) (.cons (.int x) (.cons (.int y) (.cons (.int z) .nil)))
theorem ne_tri {a b c a' b' c' : Int} (h1 : a = a') (h2 : b = b') (h3 : c = c') : (!PyData.eqv (.tuple [.int a, .int b, .int c]) (.tuple [.int a', .int b', .int c'])) = false := by
  subst h1 h2 h3
  simp [PyData.eqv, PyData.eqvAll]
/-! ### the law -/
section
variable {base : Heap} {K : PySem.W.Frag} {mg : Str → Option Value} {P : Program} {w : World}
def spLaw (K : PySem.W.Frag) : Sp := fun vs H Q _ => ∃ (a : Addr) (ns : List Int), vs = [.ref a] ∧ SqL K H a (ns.map V.int) ∧ ns.length ≤ 63 ∧ ∀ H', Q (.bl true) H'
theorem ok_law {f : Addr} {fd : FuncData} (F : Fun K "law" "law" s_law f fd) (T : Txt K mg) : FnOk P w K mg base CX0 12 f fd ["_law_script"] (spLaw K) := by
  refine F.ok sc_law (fun vs H Q E h => ?_) (fun cdv A outer s H vs Q E hr h => ?_)
  · obtain ⟨a, ns, rfl, _⟩ := h
    rfl
  · obtain ⟨a, ns, rfl, hS, hlen, q⟩ := h
    refine ⟨_, (pss_cons (ps_set (i := 1) sc_law.nd rfl (Or.inr rfl) (pe_call (ok_source T) (hr.mono (by decide)) (by rfl) T.g_source T.F_source.kp T.b_source .nil pass0 (pa_cons (pv 0) pa_nil)))
      (pss_cons (ps_for PassesOwn.never rfl (pi_range1 (by rfl) T.n_range (pa_cons pe_int pa_nil)) (pg_name (i := 2) sc_law.nd rfl (Or.inl rfl)) (pss_cons (ps_asg (pe_lc (own := [("_law_k", 13)]) (g := (gName 13)) (tt := tYes) (by rfl) sc_law.nd (pi_range1 (by rfl) T.n_range (pa_cons pe_int pa_nil)) (blkOk_by (own := [("_law_k", 13)]) (N := ["_law_script", "_law_bag", "_law_turn", "_law_pair", "_law_x", "_law_y", "_law_z", "_law_size", "_law_more", "_law_root", "_law_u", "_law_v", "_law_w", "_law_k"]) (sc := defScope s_law) (by decide +kernel)) (fun _ _ _ _ _ => (pg_name (i := 13) sc_law.nd rfl (Or.inl rfl))) (fun _ _ _ _ _ => pts_nil) (fun _ _ _ _ _ => (pe_make T.M_Table (ok_Table_init T) (hr.mono (by decide)) (by rfl) T.g_Table T.b_Table_init .nil pass0 (pa_cons (pe_tup (pa_cons (pe_call (ok_any_pair T) (hr.mono (by decide)) (by rfl) T.g_any_pair T.F_any_pair.kp T.b_any_pair .nil pass0 (pa_cons (pv 1) pa_nil)) (pa_cons (pe_tup (pa_cons (pe_call (ok_a_number T) (hr.mono (by decide)) (by rfl) T.g_a_number T.F_a_number.kp T.b_a_number .nil pass0 (pa_cons (pv 1) pa_nil)) (pa_cons (pe_call (ok_a_number T) (hr.mono (by decide)) (by rfl) T.g_a_number T.F_a_number.kp T.b_a_number .nil pass0 (pa_cons (pv 1) pa_nil)) pa_nil))) pa_nil))) pa_nil)))) (pg_unl (by rfl) (pgs_cons (pg_name (i := 4) sc_law.nd rfl (Or.inl rfl)) (pgs_cons (pg_name (i := 5) sc_law.nd rfl (Or.inl rfl)) (pgs_cons (pg_name (i := 6) sc_law.nd rfl (Or.inl rfl)) pgs_nil)))))
      (pss_cons (ps_par3 (i := 7) (j := 8) (l := 9) (by rfl) sc_law.nd rfl rfl rfl (by decide) (by decide) (by decide) rfl rfl rfl (pa_cons (pe_call (ok_a_number T) (hr.mono (by decide)) (by rfl) T.g_a_number T.F_a_number.kp T.b_a_number .nil pass0 (pa_cons (pv 1) pa_nil)) (pa_cons (pe_call (ok_of T) (hr.mono (by decide)) (by rfl) T.g_of T.F_of.kp T.b_of .nil pass0 (pa_cons (pv 1) (pa_cons (pe_lst (pa_cons pe_int (pa_cons pe_int (pa_cons pe_int (pa_cons pe_int (pa_cons (pe_un un_neg pe_int) pa_nil)))))) pa_nil))) (pa_cons (pe_call (ok_a_root T) (hr.mono (by decide)) (by rfl) T.g_a_root T.F_a_root.kp T.b_a_root .nil pass0 (pa_cons (pv 1) pa_nil)) pa_nil))) (by rfl))
      (pss_cons (ps_if (PW.pt (pw_or (pt_cmpR (op_neO2 T.m_Table_eq T.mo_Table T.ne_Table (ok_Table_eq T) (hr.mono (by decide)) T.b_Table_eq pass0) (pe_op (op_bin T.m_Table_add T.sf_Table (ok_Table_add T) (hr.mono (by decide)) T.b_Table_add pass0) (pv 4) (pv 5)) (pe_op (op_bin T.m_Table_add T.sf_Table (ok_Table_add T) (hr.mono (by decide)) T.b_Table_add pass0) (pv 5) (pv 4)) (nomark _)) (pw_or (pt_cmpR (op_neO2 T.m_Table_eq T.mo_Table T.ne_Table (ok_Table_eq T) (hr.mono (by decide)) T.b_Table_eq pass0) (pe_op (op_bin T.m_Table_add T.sf_Table (ok_Table_add T) (hr.mono (by decide)) T.b_Table_add pass0) (pe_op (op_bin T.m_Table_add T.sf_Table (ok_Table_add T) (hr.mono (by decide)) T.b_Table_add pass0) (pv 4) (pv 5)) (pv 6)) (pe_op (op_bin T.m_Table_add T.sf_Table (ok_Table_add T) (hr.mono (by decide)) T.b_Table_add pass0) (pv 4) (pe_op (op_bin T.m_Table_add T.sf_Table (ok_Table_add T) (hr.mono (by decide)) T.b_Table_add pass0) (pv 5) (pv 6))) (nomark _)) (pw_or (pt_cmpR (op_neO2 T.m_Table_eq T.mo_Table T.ne_Table (ok_Table_eq T) (hr.mono (by decide)) T.b_Table_eq pass0) (pe_op (op_bin T.m_Table_sub T.sf_Table (ok_Table_sub T) (hr.mono (by decide)) T.b_Table_sub pass0) (pe_op (op_bin T.m_Table_add T.sf_Table (ok_Table_add T) (hr.mono (by decide)) T.b_Table_add pass0) (pv 4) (pv 5)) (pv 5)) (pv 4) (nomark _)) (pw_or (pt_cmpR (op_neO2 T.m_Table_eq T.mo_Table T.ne_Table (ok_Table_eq T) (hr.mono (by decide)) T.b_Table_eq pass0) (pe_op (op_bin T.m_Table_sub T.sf_Table (ok_Table_sub T) (hr.mono (by decide)) T.b_Table_sub pass0) (pv 4) (pv 5)) (pe_un (un_own T.m_Table_neg (ok_Table_neg T) (hr.mono (by decide)) T.b_Table_neg pass0) (pe_op (op_bin T.m_Table_sub T.sf_Table (ok_Table_sub T) (hr.mono (by decide)) T.b_Table_sub pass0) (pv 5) (pv 4))) (nomark _)) (pw_or1 (pt_cmpR (op_neO2 T.m_Table_eq T.mo_Table T.ne_Table (ok_Table_eq T) (hr.mono (by decide)) T.b_Table_eq pass0) (pe_op (op_bin T.m_Table_add T.sf_Table (ok_Table_add T) (hr.mono (by decide)) T.b_Table_add pass0) (pv 4) (pe_make0 T.M_Table (ok_Table_init T) (hr.mono (by decide)) (by rfl) T.g_Table T.b0_Table_init T.v0_Table_init pass0)) (pv 4) (nomark _)))))))) (pss_one (ps_ret pe_bl)) pss_nil)
      (pss_cons (ps_if (PW.pt (pw_or (pt_cmpR (op_neO2 T.m_Table_eq T.mo_Table T.ne_Table (ok_Table_eq T) (hr.mono (by decide)) T.b_Table_eq pass0) (pe_op (op_binI T.m_Table_mul T.sf_Table T.x_Table_rmul T.i_mul T.i_rmul T.is_Table (ok_Table_mul T) (hr.mono (by decide)) T.b_Table_mul pass0) (pe_op (op_bin T.m_Table_add T.sf_Table (ok_Table_add T) (hr.mono (by decide)) T.b_Table_add pass0) (pv 4) (pv 5)) (pv 7)) (pe_op (op_bin T.m_Table_add T.sf_Table (ok_Table_add T) (hr.mono (by decide)) T.b_Table_add pass0) (pe_op (op_binI T.m_Table_mul T.sf_Table T.x_Table_rmul T.i_mul T.i_rmul T.is_Table (ok_Table_mul T) (hr.mono (by decide)) T.b_Table_mul pass0) (pv 4) (pv 7)) (pe_op (op_binI T.m_Table_mul T.sf_Table T.x_Table_rmul T.i_mul T.i_rmul T.is_Table (ok_Table_mul T) (hr.mono (by decide)) T.b_Table_mul pass0) (pv 5) (pv 7))) (nomark _)) (pw_or (pt_cmpR (op_neO2 T.m_Table_eq T.mo_Table T.ne_Table (ok_Table_eq T) (hr.mono (by decide)) T.b_Table_eq pass0) (pe_op (op_bin T.m_Table_add T.sf_Table (ok_Table_add T) (hr.mono (by decide)) T.b_Table_add pass0) (pe_op (op_binI T.m_Table_mul T.sf_Table T.x_Table_rmul T.i_mul T.i_rmul T.is_Table (ok_Table_mul T) (hr.mono (by decide)) T.b_Table_mul pass0) (pv 4) (pv 7)) (pe_op (op_binI T.m_Table_mul T.sf_Table T.x_Table_rmul T.i_mul T.i_rmul T.is_Table (ok_Table_mul T) (hr.mono (by decide)) T.b_Table_mul pass0) (pv 4) (pv 8))) (pe_op (op_binI T.m_Table_mul T.sf_Table T.x_Table_rmul T.i_mul T.i_rmul T.is_Table (ok_Table_mul T) (hr.mono (by decide)) T.b_Table_mul pass0) (pv 4) (pe_op op_add (pv 7) (pv 8))) (nomark _)) (pw_or1 (pt_cmpR (op_neO2 T.m_Table_eq T.mo_Table T.ne_Table (ok_Table_eq T) (hr.mono (by decide)) T.b_Table_eq pass0) (pe_op (op_binI T.m_Table_mul T.sf_Table T.x_Table_rmul T.i_mul T.i_rmul T.is_Table (ok_Table_mul T) (hr.mono (by decide)) T.b_Table_mul pass0) (pv 4) (pe_un un_neg pe_int)) (pe_un (un_own T.m_Table_neg (ok_Table_neg T) (hr.mono (by decide)) T.b_Table_neg pass0) (pv 4)) (nomark _)))))) (pss_one (ps_ret pe_bl)) pss_nil)
      (pss_cons (ps_if (PW.pt (pw_or (pt_cmpR (op_neO2 T.m_Table_eq T.mo_Table T.ne_Table (ok_Table_eq T) (hr.mono (by decide)) T.b_Table_eq pass0) (pe_op (op_binI T.m_Table_mul T.sf_Table T.x_Table_rmul T.i_mul T.i_rmul T.is_Table (ok_Table_mul T) (hr.mono (by decide)) T.b_Table_mul pass0) (pe_op (op_binI T.m_Table_mul T.sf_Table T.x_Table_rmul T.i_mul T.i_rmul T.is_Table (ok_Table_mul T) (hr.mono (by decide)) T.b_Table_mul pass0) (pv 4) (pv 7)) (pv 8)) (pe_op (op_binI T.m_Table_mul T.sf_Table T.x_Table_rmul T.i_mul T.i_rmul T.is_Table (ok_Table_mul T) (hr.mono (by decide)) T.b_Table_mul pass0) (pv 4) (pe_op op_mul (pv 7) (pv 8))) (nomark _)) (pw_or1 (pt_cmpR op_ne (pe_callTy (call_boolO T.m_Table_bool (ok_Table_bool T) (hr.mono (by decide)) T.b_Table_bool pass0) (by rfl) T.n_bool (by decide +kernel) (pa_cons (pe_op (op_bin T.m_Table_sub T.sf_Table (ok_Table_sub T) (hr.mono (by decide)) T.b_Table_sub pass0) (pv 4) (pv 5)) pa_nil)) (pe_cmpR (op_neO2 T.m_Table_eq T.mo_Table T.ne_Table (ok_Table_eq T) (hr.mono (by decide)) T.b_Table_eq pass0) (pv 4) (pv 5) (nomark _)) (nomark _))))) (pss_one (ps_ret pe_bl)) pss_nil)
      (pss_cons (ps_if (pt_cmpR (op_neD hr.units) (pe_meth (pe_op (op_bin T.m_Table_add T.sf_Table (ok_Table_add T) (hr.mono (by decide)) T.b_Table_add pass0) (pv 4) (pv 5)) T.cl_Table T.m_Table_area_for (ok_Table_area_for T) (hr.mono (by decide)) T.b_Table_area_for .nil pass0 (pa_cons (pv 9) pa_nil)) (pe_callR (ok_added T) (hr.mono (by decide)) (by rfl) T.g_added T.F_added.kp pass0 (pa_cons (pe_meth (pv 4) T.cl_Table T.m_Table_area_for (ok_Table_area_for T) (hr.mono (by decide)) T.b_Table_area_for .nil pass0 (pa_cons (pv 9) pa_nil)) (pa_cons (pe_meth (pv 5) T.cl_Table T.m_Table_area_for (ok_Table_area_for T) (hr.mono (by decide)) T.b_Table_area_for .nil pass0 (pa_cons (pv 9) pa_nil)) pa_nil))) (nomark _)) (pss_one (ps_ret pe_bl)) pss_nil)
      (pss_cons (ps_set (i := 3) sc_law.nd rfl (Or.inl rfl) (pe_call (ok_any_pair T) (hr.mono (by decide)) (by rfl) T.g_any_pair T.F_any_pair.kp T.b_any_pair .nil pass0 (pa_cons (pv 1) pa_nil)))
      (pss_cons (ps_if (PW.pt (pw_or (pt_cmpR op_ne (pe_meth (pe_op (op_bin T.m_Table_add T.sf_Table (ok_Table_add T) (hr.mono (by decide)) T.b_Table_add pass0) (pv 4) (pv 5)) T.cl_Table T.m_Table_weight (ok_Table_weight T) (hr.mono (by decide)) T.b_Table_weight .nil pass0 (pa_cons (pv 3) pa_nil)) (pe_op op_add (pe_meth (pv 4) T.cl_Table T.m_Table_weight (ok_Table_weight T) (hr.mono (by decide)) T.b_Table_weight .nil pass0 (pa_cons (pv 3) pa_nil)) (pe_meth (pv 5) T.cl_Table T.m_Table_weight (ok_Table_weight T) (hr.mono (by decide)) T.b_Table_weight .nil pass0 (pa_cons (pv 3) pa_nil))) (nomark _)) (pw_or1 (pt_cmpR op_ne (pe_meth (pv 4) T.cl_Table T.m_Table_weight (ok_Table_weight T) (hr.mono (by decide)) T.b_Table_weight .nil pass0 (pa_cons (pe_call (ok_scaled T) (hr.mono (by decide)) (by rfl) T.g_scaled T.F_scaled.kp T.b_scaled .nil pass0 (pa_cons (pv 3) (pa_cons pe_int pa_nil))) pa_nil)) (pe_op op_mul pe_int (pe_meth (pv 4) T.cl_Table T.m_Table_weight (ok_Table_weight T) (hr.mono (by decide)) T.b_Table_weight .nil pass0 (pa_cons (pv 3) pa_nil))) (nomark _))))) (pss_one (ps_ret pe_bl)) pss_nil)
      (pss_cons (ps_par3 (i := 10) (j := 11) (l := 12) (by rfl) sc_law.nd rfl rfl rfl (by decide) (by decide) (by decide) rfl rfl rfl (pa_cons (pe_call (ok_any_pair T) (hr.mono (by decide)) (by rfl) T.g_any_pair T.F_any_pair.kp T.b_any_pair .nil pass0 (pa_cons (pv 1) pa_nil)) (pa_cons (pe_call (ok_any_pair T) (hr.mono (by decide)) (by rfl) T.g_any_pair T.F_any_pair.kp T.b_any_pair .nil pass0 (pa_cons (pv 1) pa_nil)) (pa_cons (pe_call (ok_any_pair T) (hr.mono (by decide)) (by rfl) T.g_any_pair T.F_any_pair.kp T.b_any_pair .nil pass0 (pa_cons (pv 1) pa_nil)) pa_nil))) (by rfl))
      (pss_cons (ps_if (PW.pt (pw_or (pt_cmpR (op_neO2 T.m_Table_eq T.mo_Table T.ne_Table (ok_Table_eq T) (hr.mono (by decide)) T.b_Table_eq pass0) (pe_call (ok_outer T) (hr.mono (by decide)) (by rfl) T.g_outer T.F_outer.kp T.b_outer .nil pass0 (pa_cons (pe_callR (ok_added T) (hr.mono (by decide)) (by rfl) T.g_added T.F_added.kp pass0 (pa_cons (pv 10) (pa_cons (pv 11) pa_nil))) (pa_cons (pv 12) pa_nil))) (pe_op (op_bin T.m_Table_add T.sf_Table (ok_Table_add T) (hr.mono (by decide)) T.b_Table_add pass0) (pe_call (ok_outer T) (hr.mono (by decide)) (by rfl) T.g_outer T.F_outer.kp T.b_outer .nil pass0 (pa_cons (pv 10) (pa_cons (pv 12) pa_nil))) (pe_call (ok_outer T) (hr.mono (by decide)) (by rfl) T.g_outer T.F_outer.kp T.b_outer .nil pass0 (pa_cons (pv 11) (pa_cons (pv 12) pa_nil)))) (nomark _)) (pw_or1 (pt_cmpR (op_neO2 T.m_Table_eq T.mo_Table T.ne_Table (ok_Table_eq T) (hr.mono (by decide)) T.b_Table_eq pass0) (pe_call (ok_outer T) (hr.mono (by decide)) (by rfl) T.g_outer T.F_outer.kp T.b_outer .nil pass0 (pa_cons (pv 12) (pa_cons (pe_callR (ok_added T) (hr.mono (by decide)) (by rfl) T.g_added T.F_added.kp pass0 (pa_cons (pv 10) (pa_cons (pv 11) pa_nil))) pa_nil))) (pe_op (op_bin T.m_Table_add T.sf_Table (ok_Table_add T) (hr.mono (by decide)) T.b_Table_add pass0) (pe_call (ok_outer T) (hr.mono (by decide)) (by rfl) T.g_outer T.F_outer.kp T.b_outer .nil pass0 (pa_cons (pv 12) (pa_cons (pv 10) pa_nil))) (pe_call (ok_outer T) (hr.mono (by decide)) (by rfl) T.g_outer T.F_outer.kp T.b_outer .nil pass0 (pa_cons (pv 12) (pa_cons (pv 11) pa_nil)))) (nomark _))))) (pss_one (ps_ret pe_bl)) pss_nil)
      (pss_cons (ps_if (PW.pt (pw_or (pt_cmpR op_ne (pe_meth0 (pe_call (ok_outer T) (hr.mono (by decide)) (by rfl) T.g_outer T.F_outer.kp T.b_outer .nil pass0 (pa_cons (pv 10) (pa_cons (pv 11) pa_nil))) T.cl_Table T.m_Table_determinant (ok_Table_determinant T) (hr.mono (by decide)) T.b_Table_determinant .nil pass0) pe_int (nomark _)) (pw_or1 (pt_cmpR (op_neD hr.units) (pe_meth (pe_call (ok_outer T) (hr.mono (by decide)) (by rfl) T.g_outer T.F_outer.kp T.b_outer .nil pass0 (pa_cons (pv 10) (pa_cons (pv 11) pa_nil))) T.cl_Table T.m_Table_area_for (ok_Table_area_for T) (hr.mono (by decide)) T.b_Table_area_for .nil pass0 (pa_cons (pv 9) pa_nil)) (pe_call (ok_product T) (hr.mono (by decide)) (by rfl) T.g_product T.F_product.kp T.b_product .nil pass0 (pa_cons (pv 10) (pa_cons (pv 11) (pa_cons (pv 9) pa_nil)))) (nomark _))))) (pss_one (ps_ret pe_bl)) pss_nil)
      (pss_one (ps_if (pt_cmpR (op_neD hr.units) (pe_methK0 (pe_call (ok_outer T) (hr.mono (by decide)) (by rfl) T.g_outer T.F_outer.kp T.b_outer .nil pass0 (pa_cons (pv 10) (pa_cons (pv 11) pa_nil))) T.cl_Table T.m_Table_marks (ok_Table_marks T) (hr.mono (by decide)) T.kb_Table_marks_turning pass0 (pk_cons pe_bl pk_nil)) (pe_methK0 (pe_call (ok_outer T) (hr.mono (by decide)) (by rfl) T.g_outer T.F_outer.kp T.b_outer .nil pass0 (pa_cons (pv 11) (pa_cons (pv 10) pa_nil))) T.cl_Table T.m_Table_marks (ok_Table_marks T) (hr.mono (by decide)) T.kb_Table_marks_turning pass0 (pk_cons pe_bl pk_nil)) (nomark _)) (pss_one (ps_ret pe_bl)) pss_nil))))))))))))))
      (pss_one (ps_ret pe_bl)))), ?_⟩
    refine ⟨.ref a, rfl, a, ns, rfl, hS, hlen, fun bg sb H1 hb s1 B1 => ?_⟩
    refine ⟨5, rfl, by decide, by decide, for_range (lo := 0) (n := 5) (fun i σ H' => ∃ y2 y3 y4 y5 y6 y7 y8 y9 y10 y11 y12 y13, σ = [some (.ref a), some (.ref bg), y2, y3, y4, y5, y6, y7, y8, y9, y10, y11, y12, y13] ∧ Bag H' bg sb) ⟨none, none, none, none, none, none, none, none, none, none, none, none, rfl, B1⟩ ?_ ?_⟩
    · rintro i σ H2 hi ⟨y2, y3, y4, y5, y6, y7, y8, y9, y10, y11, y12, y13, rfl, B2⟩
      refine ⟨3, rfl, by decide, by decide, fun D hD => lc_range (lo := 0) (n := 3) (fun j H' => ∃ (vs : List V) (ts : List (Int × Int × Int × Int)), H' D = some (.lst vs) ∧ vs.length = j ∧ Tabs T.C_Table H' vs ts ∧ Bag H' bg sb) ⟨[], [], upd_same, rfl, .nil, B2.new hD⟩ ?_ ?_⟩
      · rintro j H4 hj ⟨vs, ts, h4, hv, D4, B4⟩
        refine ⟨rfl, ?_⟩
        refine ⟨.ref bg, rfl, bg, sb, rfl, B4, fun x1 z1 p1 H5 a1 a2 a3 a4 n5 f5 B5 k5 => ?_⟩
        refine ⟨.ref bg, rfl, bg, sb, rfl, B5, fun x2 H6 a5 a6 B6 k6 => ⟨.ref bg, rfl, bg, sb, rfl, B6, fun z2 H7 a7 a8 B7 k7 => ⟨by show 2 ≤ sizeLine; decide, fun p2 n8 => ⟨by show 2 ≤ sizeLine; decide, fun t n9 => ?_⟩⟩⟩⟩
        have e8 := same_new (o := .tup [.int x2, .int z2]) n8
        have e9 := same_new (o := .tup [.ref p1, .ref p2]) n9
        have g5 := tup_keep B6 k7 _ _ (tup_keep B5 k6 _ _ f5)
        refine mk_tab (K := K) ⟨t, p1, p2, rfl, SqT.of upd_same, SqT.of ((e8.trans e9) _ _ g5), SqT.of (e9 _ _ upd_same)⟩ fun x H10 nx sx hx => ?_
        have ee := e8.trans (e9.trans sx)
        have kk : Keep bg H4 H7 := k5.trans (k6.trans k7)
        have lb := B2.ne hD
        have h10 := ee _ _ (kk _ _ lb h4)
        exact ⟨vs, h10, small1000 (by omega), vs ++ [.ref x], ts ++ [(x1, z1, x2, z2)], upd_same, by rw [List.length_append, hv]; rfl,
          (((D4.mono fun p a b c e h => (h.keep B4 kk).same ee).snoc hx (mk4 (wn (by omega)) (wn (by omega)) (wn (by omega)) (wn (by omega))))).mono fun p a b c e h => h.put h10, (B7.same ee).put lb (B2.ne2 hD)⟩
      · rintro H4 ⟨vs, ts, h4, hv, D4, B4⟩
        match vs, hv, h4, D4 with
        | [v0, v1, v2], _, h4, D4 =>
          obtain ⟨px, a1, b1, c1, e1, ts1, rfl, rfl, hX, bX, D4⟩ := D4.inv
          obtain ⟨py, a2, b2, c2, e2, ts2, rfl, rfl, hY, bY, D4⟩ := D4.inv
          obtain ⟨pz, a3, b3, c3, e3, ts3, rfl, rfl, hZ, bZ, D4⟩ := D4.inv
          refine ⟨D, _, rfl, SqL.of h4, rfl, .ref px, _, rfl, .ref py, _, rfl, .ref pz, _, rfl, rfl, ?_⟩
          -- size, more, root
          refine ⟨.ref bg, rfl, bg, sb, rfl, B4, fun n H5 n0 n1 B5 k5 => ?_⟩
          refine ⟨.ref bg, rfl, 1, rfl, by show 5 ≤ sizeLine; decide, fun l hl => ⟨bg, sb, l, _, rfl, B5.new hl, upd_same, B5.ne hl, by simp, by simp, fun j v H6 hjv B6 k6 => ?_⟩⟩
          have hm : ∃ m : Int, v = .int m ∧ m.natAbs ≤ 60 := by
            match j, hjv with
            | 0, hjv => cases hjv; exact ⟨3, rfl, by decide⟩
            | 1, hjv => cases hjv; exact ⟨7, rfl, by decide⟩
            | 2, hjv => cases hjv; exact ⟨13, rfl, by decide⟩
            | 3, hjv => cases hjv; exact ⟨60, rfl, by decide⟩
            | 4, hjv => cases hjv; exact ⟨-1, rfl, by decide⟩
            | j + 5, hjv => simp at hjv
          obtain ⟨m, rfl, bm⟩ := hm
          refine ⟨.ref bg, rfl, bg, sb, rfl, B6, fun d H7 hd B7 k7 => ⟨_, _, _, rfl, ?_⟩⟩
          have kk : Keep bg H4 H7 := k5.trans ((keep_new hl).trans (k6.trans k7))
          have hX := hX.keep B4 kk
          have hY := hY.keep B4 kk
          have hZ := hZ.keep B4 kk
          have d1 : -(2 ^ 64) < d := by have := hd.1; omega
          have d2 : d < 2 ^ 64 := by have := hd.2.1; omega
          have dd : d.natAbs < 2 ^ 64 := by omega
          have bn := wn (show n.natAbs ≤ 10 ^ 18 by omega)
          have bm := wn (show m.natAbs ≤ 10 ^ 18 by omega)
          -- sums in any order
          refine ⟨_, rfl, _, rfl, add_do hX hY fun s1 G1 n1 e1 h1 => ?_⟩
          refine ⟨_, rfl, _, rfl, add_do (hY.same e1) (hX.same e1) fun s2 G2 n2 e2 h2 => ?_⟩
          refine ne_do (h1.same e2) h2 (Int.add_comm _ _) (Int.add_comm _ _) (Int.add_comm _ _) (Int.add_comm _ _) ⟨false, rfl, iteF ?_⟩
          have w2 := e1.trans e2
          -- 2
          refine ⟨_, rfl, _, rfl, add_do (hX.same w2) (hY.same w2) fun s3 G3 n3 e3 h3 => ?_⟩
          have w3 := w2.trans e3
          refine ⟨_, rfl, add_do h3 (hZ.same w3) fun s4 G4 n4 e4 h4 => ?_⟩
          have w4 := w3.trans e4
          refine ⟨_, rfl, _, rfl, _, rfl, add_do (hY.same w4) (hZ.same w4) fun s5 G5 n5 e5 h5 => ?_⟩
          have w5 := w4.trans e5
          refine add_do (hX.same w5) h5 fun s6 G6 n6 e6 h6 => ?_
          have w6 := w5.trans e6
          refine ne_do (h4.same (e5.trans e6)) h6 (Int.add_assoc _ _ _) (Int.add_assoc _ _ _) (Int.add_assoc _ _ _) (Int.add_assoc _ _ _) ⟨false, rfl, iteF ?_⟩
          -- 3
          refine ⟨_, rfl, _, rfl, add_do (hX.same w6) (hY.same w6) fun s7 G7 n7 e7 h7 => ?_⟩
          have w7 := w6.trans e7
          refine ⟨_, rfl, sub_do h7 (hY.same w7) bY (by decide) fun s8 G8 n8 e8 h8 => ?_⟩
          have w8 := w7.trans e8
          refine ⟨_, rfl, ne_do h8 (hX.same w8) (by omega) (by omega) (by omega) (by omega) ⟨false, rfl, iteF ?_⟩⟩
          -- 4
          refine ⟨_, rfl, _, rfl, sub_do (hX.same w8) (hY.same w8) bY (by decide) fun s9 G9 n9 e9 h9 => ?_⟩
          have w9 := w8.trans e9
          refine ⟨_, rfl, _, rfl, sub_do (hY.same w9) (hX.same w9) bX (by decide) fun s10 G10 n10 e10 h10 => ?_⟩
          have w10 := w9.trans e10
          refine neg_do h10 (bY.sub bX) (by decide) fun s11 G11 n11 e11 h11 => ?_
          have w11 := w10.trans e11
          refine ne_do (h9.same (e10.trans e11)) h11 (by omega) (by omega) (by omega) (by omega) ⟨false, rfl, iteF ?_⟩
          -- 5
          refine ⟨_, rfl, mk_tab (K := K) T.z0_Table_init.cells fun s12 G12 n12 e12 h12 => ?_⟩
          have w12 := w11.trans e12
          refine add_do (hX.same w12) h12 fun s13 G13 n13 e13 h13 => ?_
          have w13 := w12.trans e13
          refine ⟨_, rfl, ne_do h13 (hX.same w13) (Int.add_zero _) (Int.add_zero _) (Int.add_zero _) (Int.add_zero _) ⟨false, rfl, iteF ?_⟩⟩
          -- multiples
          refine ⟨_, rfl, _, rfl, add_do (hX.same w13) (hY.same w13) fun s14 G14 n14 e14 h14 => ?_⟩
          have w14 := w13.trans e14
          refine ⟨_, rfl, mul_do h14 (bX.add bY) (bd_w bn (by decide)) (by decide) fun s15 G15 n15 e15 h15 => ?_⟩
          have w15 := w14.trans e15
          refine ⟨_, rfl, _, rfl, mul_do (hX.same w15) bX (bd_w bn (by decide)) (by decide) fun s16 G16 n16 e16 h16 => ?_⟩
          have w16 := w15.trans e16
          refine ⟨_, rfl, _, rfl, mul_do (hY.same w16) bY (bd_w bn (by decide)) (by decide) fun s17 G17 n17 e17 h17 => ?_⟩
          have w17 := w16.trans e17
          refine add_do (h16.same e17) h17 fun s18 G18 n18 e18 h18 => ?_
          have w18 := w17.trans e18
          refine ne_do (h15.same (e16.trans (e17.trans e18))) h18 (Int.add_mul _ _ _) (Int.add_mul _ _ _) (Int.add_mul _ _ _) (Int.add_mul _ _ _) ⟨false, rfl, iteF ?_⟩
          -- x * size + x * more
          refine ⟨_, rfl, _, rfl, mul_do (hX.same w18) bX (bd_w bn (by decide)) (by decide) fun s19 G19 n19 e19 h19 => ?_⟩
          have w19 := w18.trans e19
          refine ⟨_, rfl, _, rfl, mul_do (hX.same w19) bX (bd_w bm (by decide)) (by decide) fun s20 G20 n20 e20 h20 => ?_⟩
          have w20 := w19.trans e20
          refine add_do (h19.same e20) h20 fun s21 G21 n21 e21 h21 => ?_
          have w21 := w20.trans e21
          refine ⟨_, rfl, _, rfl, _, rfl, n, m, rfl, rfl, mul_do (hX.same w21) bX (bd_w (bd_a bn bm) (by decide)) (by decide) fun s22 G22 n22 e22 h22 => ?_⟩
          have w22 := w21.trans e22
          refine ne_do (h21.same e22) h22 (Int.mul_add _ _ _).symm (Int.mul_add _ _ _).symm (Int.mul_add _ _ _).symm (Int.mul_add _ _ _).symm ⟨false, rfl, iteF ?_⟩
          -- x * -1
          refine ⟨_, rfl, 1, rfl, mul_do (hX.same w22) bX (by simpa using one_bd (by decide)) (by decide) fun s23 G23 n23 e23 h23 => ?_⟩
          have w23 := w22.trans e23
          refine ⟨_, rfl, neg_do (hX.same w23) bX (by decide) fun s24 G24 n24 e24 h24 => ?_⟩
          have w24 := w23.trans e24
          refine ne_do (h23.same e24) h24 (by simp) (by simp) (by simp) (by simp) ⟨false, rfl, iteF ?_⟩
          -- x * size * more
          refine ⟨_, rfl, _, rfl, mul_do (hX.same w24) bX (bd_w bn (by decide)) (by decide) fun s25 G25 n25 e25 h25 => ?_⟩
          have w25 := w24.trans e25
          refine ⟨_, rfl, mul_do h25 (bX.mul bn) (bd_w bm (by decide)) (by decide) fun s26 G26 n26 e26 h26 => ?_⟩
          have w26 := w25.trans e26
          refine ⟨_, rfl, _, rfl, _, rfl, n, m, rfl, rfl, .inl ⟨by omega, by omega⟩, mul_do (hX.same w26) bX (bd_w (wide_lt bn bm) (by decide)) (by decide) fun s27 G27 n27 e27 h27 => ?_⟩
          have w27 := w26.trans e27
          refine ne_do (h26.same e27) h27 (Int.mul_assoc _ _ _) (Int.mul_assoc _ _ _) (Int.mul_assoc _ _ _) (Int.mul_assoc _ _ _) ⟨false, rfl, iteF ?_⟩
          -- bool
          refine ⟨_, rfl, _, rfl, sub_do (hX.same w27) (hY.same w27) bY (by decide) fun s28 G28 n28 e28 h28 => ?_⟩
          obtain ⟨d28, t28, hp28, _⟩ := id h28
          refine ⟨s28, d28, _, rfl, hp28, s28, _, _, _, _, rfl, h28, fun G29 e29 => ⟨_, rfl, ?_⟩⟩
          have w29 := w27.trans (e28.trans e29)
          refine ⟨_, rfl, _, rfl, neq_do (hX.same w29) (hY.same w29) ?_⟩
          rw [any4]
          refine ⟨rfl, false, by rw [decide_eq_true rfl]; rfl, iteF ?_⟩
          -- areas
          refine ⟨_, rfl, _, rfl, add_do (hX.same w29) (hY.same w29) fun s30 G30 n30 e30 h30 => ?_⟩
          have w30 := w29.trans e30
          obtain ⟨d30, t30, hp30, _⟩ := id h30
          refine ⟨s30, d30, _, rfl, hp30, nc (by decide +kernel), _, rfl, s30, _, _, _, _, d, rfl, h30, d1, d2, fun q31 G31 n31 e31 f31 => ?_⟩
          have w31 := w30.trans e31
          obtain ⟨dx, tx, hpx, _⟩ := id (hX.same w31)
          refine ⟨_, rfl, px, dx, _, rfl, hpx, nc (by decide +kernel), _, rfl, px, _, _, _, _, d, rfl, hX.same w31, d1, d2, fun q32 G32 n32 e32 f32 => ?_⟩
          have w32 := w31.trans e32
          obtain ⟨dy, ty, hpy, _⟩ := id (hY.same w32)
          refine ⟨_, rfl, py, dy, _, rfl, hpy, nc (by decide +kernel), _, rfl, py, _, _, _, _, d, rfl, hY.same w32, d1, d2, fun q33 G33 n33 e33 f33 => ?_⟩
          refine ⟨[(_, _), (_, _)], .cons ⟨q32, rfl, SqT.of (e33 _ _ f32)⟩ (.cons ⟨q33, rfl, SqT.of f33⟩ .nil), by simp, fun q34 G34 n34 e34 f34 => ?_⟩
          have w34 := w32.trans (e33.trans e34)
          refine ⟨_, _, dpair ((e32.trans (e33.trans e34)) _ _ f31), dpair f34, rfl, rfl, false, (by rw [ne_pair (by simp only [Gy.s1, List.map_cons, List.map_nil, List.sum_cons, List.sum_nil]; grind) (by simp only [Gy.s2, List.map_cons, List.map_nil, List.sum_cons, List.sum_nil]; grind)]), iteF ?_⟩
          -- pair
          have B34 := B7.same w34
          refine ⟨.ref bg, rfl, bg, sb, rfl, B34, fun x y pp H35 x0 x1 z0 z1 n35 f35 B35 k35 => ?_⟩
          have hX := (hX.same w34).keep B34 k35
          have hY := (hY.same w34).keep B34 k35
          have bx := wn (show x.natAbs ≤ 10 ^ 18 by omega)
          have by' := wn (show y.natAbs ≤ 10 ^ 18 by omega)
          have six : ∀ {k : Nat} {a b c e x y : Int}, Bd k [a, b, c, e] → x.natAbs < 2 ^ k → y.natAbs < 2 ^ k → k ≤ 9000 → Bd 9000 [a, b, c, e, x, y] := fun h hx hy hk => by
            obtain ⟨h1, h2, h3, h4⟩ := h.b4
            exact Bd.up (.cons h1 (.cons h2 (.cons h3 (.cons h4 (.cons hx (.cons hy .nil)))))) hk
          refine ⟨_, rfl, _, rfl, add_do hX hY fun s36 G36 n36 e36 h36 => ?_⟩
          obtain ⟨d36, t36, hp36, _⟩ := id h36
          refine ⟨s36, d36, _, rfl, hp36, nc (by decide +kernel), _, rfl, s36, .ref pp, _, _, _, _, x, y, rfl, h36, ⟨pp, rfl, SqT.of (e36 _ _ f35)⟩, six (bX.add bY) (bd_w bx (by decide)) (bd_w by' (by decide)) (by decide), ?_⟩
          obtain ⟨dx, tx, hpx, _⟩ := id (hX.same e36)
          obtain ⟨dy, ty, hpy, _⟩ := id (hY.same e36)
          refine ⟨_, rfl, px, dx, _, rfl, hpx, nc (by decide +kernel), _, rfl, px, .ref pp, _, _, _, _, x, y, rfl, hX.same e36, ⟨pp, rfl, SqT.of (e36 _ _ f35)⟩, six bX bx by' (by decide), ?_⟩
          refine ⟨_, rfl, py, dy, _, rfl, hpy, nc (by decide +kernel), _, rfl, py, .ref pp, _, _, _, _, x, y, rfl, hY.same e36, ⟨pp, rfl, SqT.of (e36 _ _ f35)⟩, six bY bx by' (by decide), _, _, rfl, rfl, ?_⟩
          refine ⟨rfl, false, ?_, iteF ?_⟩
          · rw [decide_eq_true (congrArg V.int (by grind))]
            rfl
          -- three times
          refine ⟨_, rfl, px, dx, _, rfl, hpx, nc (by decide +kernel), _, rfl, .ref pp, x, y, 3, rfl, ⟨pp, rfl, SqT.of (e36 _ _ f35)⟩, bd_w bx (by decide), bd_w by' (by decide), bd_w (show (3 : Int).natAbs < 2 ^ 2 by decide) (by decide), fun q37 G37 n37 e37 f37 => ?_⟩
          have b3 : (3 : Int).natAbs < 2 ^ 2 := by decide
          refine ⟨px, .ref q37, _, _, _, _, x * 3, y * 3, rfl, hX.same (e36.trans e37), ⟨q37, rfl, SqT.of f37⟩, six (bX.up (show 60 ≤ 62 by decide)) (wide_lt bx b3) (wide_lt by' b3) (by decide), ?_⟩
          refine ⟨_, rfl, px, dx, _, rfl, e37 _ _ hpx, nc (by decide +kernel), _, rfl, px, .ref pp, _, _, _, _, x, y, rfl, hX.same (e36.trans e37), ⟨pp, rfl, SqT.of (e37 _ _ (e36 _ _ f35))⟩, six bX bx by' (by decide), 9, _, rfl, rfl, .inl ⟨by decide, by decide⟩, ?_⟩
          refine ⟨rfl, false, ?_, iteF ?_⟩
          · rw [decide_eq_true (congrArg V.int (by grind))]
            rfl
          have B37 := B35.same (e36.trans e37)
          -- u, v, w
          refine ⟨.ref bg, rfl, bg, sb, rfl, B37, fun u1 u2 pu H38 ua ub uc ud n38 f38 B38 k38 => ?_⟩
          refine ⟨.ref bg, rfl, bg, sb, rfl, B38, fun v1 v2 pv' H39 va vb vc vd n39 f39 B39 k39 => ?_⟩
          refine ⟨.ref bg, rfl, bg, sb, rfl, B39, fun w1 w2 pw H40 wa wb wc wd n40 f40 B40 k40 => ⟨_, _, _, rfl, ?_⟩⟩
          have gu := tup_keep B39 k40 _ _ (tup_keep B38 k39 _ _ f38)
          have gv := tup_keep B39 k40 _ _ f39
          have bu1 := wn (show u1.natAbs ≤ 10 ^ 18 by omega)
          have bu2 := wn (show u2.natAbs ≤ 10 ^ 18 by omega)
          have bv1 := wn (show v1.natAbs ≤ 10 ^ 18 by omega)
          have bv2 := wn (show v2.natAbs ≤ 10 ^ 18 by omega)
          have bw1 := wn (show w1.natAbs ≤ 10 ^ 18 by omega)
          have bw2 := wn (show w2.natAbs ≤ 10 ^ 18 by omega)
          have buv1 := bd_a bu1 bv1
          have buv2 := bd_a bu2 bv2
          -- outer of sums
          refine ⟨_, rfl, _, rfl, [(u1, u2), (v1, v2)], .cons ⟨pu, rfl, SqT.of gu⟩ (.cons ⟨pv', rfl, SqT.of gv⟩ .nil), by simp, fun q41 G41 n41 e41 f41 => ?_⟩
          rw [show Gy.s1 [(u1, u2), (v1, v2)] = u1 + v1 by simp [Gy.s1], show Gy.s2 [(u1, u2), (v1, v2)] = u2 + v2 by simp [Gy.s2]] at f41
          refine ⟨_, rfl, .ref q41, .ref pw, u1 + v1, u2 + v2, w1, w2, rfl, ⟨q41, rfl, SqT.of f41⟩, ⟨pw, rfl, SqT.of (e41 _ _ f40)⟩, (mk4 buv1 buv2 (bd_w bw1 (by decide)) (bd_w bw2 (by decide))).up (by decide), fun s42 G42 n42 e42 h42 => ?_⟩
          have w42 := e41.trans e42
          refine ⟨_, rfl, _, rfl, .ref pu, .ref pw, u1, u2, w1, w2, rfl, ⟨pu, rfl, SqT.of (w42 _ _ gu)⟩, ⟨pw, rfl, SqT.of (w42 _ _ f40)⟩, (mk4 bu1 bu2 bw1 bw2).up (by decide), fun s43 G43 n43 e43 h43 => ?_⟩
          have w43 := w42.trans e43
          refine ⟨_, rfl, _, rfl, .ref pv', .ref pw, v1, v2, w1, w2, rfl, ⟨pv', rfl, SqT.of (w43 _ _ gv)⟩, ⟨pw, rfl, SqT.of (w43 _ _ f40)⟩, (mk4 bv1 bv2 bw1 bw2).up (by decide), fun s44 G44 n44 e44 h44 => ?_⟩
          have w44 := w43.trans e44
          refine add_do (h43.same e44) h44 fun s45 G45 n45 e45 h45 => ?_
          have w45 := w44.trans e45
          refine ne_do (h42.same (e43.trans (e44.trans e45))) h45 (Int.mul_add _ _ _) (Int.mul_add _ _ _) (Int.mul_add _ _ _) (Int.mul_add _ _ _) ⟨false, rfl, iteF ?_⟩
          refine ⟨_, rfl, _, rfl, _, rfl, [(u1, u2), (v1, v2)], .cons ⟨pu, rfl, SqT.of (w45 _ _ gu)⟩ (.cons ⟨pv', rfl, SqT.of (w45 _ _ gv)⟩ .nil), by simp, fun q46 G46 n46 e46 f46 => ?_⟩
          rw [show Gy.s1 [(u1, u2), (v1, v2)] = u1 + v1 by simp [Gy.s1], show Gy.s2 [(u1, u2), (v1, v2)] = u2 + v2 by simp [Gy.s2]] at f46
          have w46 := w45.trans e46
          refine ⟨.ref pw, .ref q46, w1, w2, u1 + v1, u2 + v2, rfl, ⟨pw, rfl, SqT.of (w46 _ _ f40)⟩, ⟨q46, rfl, SqT.of f46⟩, (mk4 (bd_w bw1 (by decide)) (bd_w bw2 (by decide)) buv1 buv2).up (by decide), fun s47 G47 n47 e47 h47 => ?_⟩
          have w47 := w46.trans e47
          refine ⟨_, rfl, _, rfl, .ref pw, .ref pu, w1, w2, u1, u2, rfl, ⟨pw, rfl, SqT.of (w47 _ _ f40)⟩, ⟨pu, rfl, SqT.of (w47 _ _ gu)⟩, (mk4 bw1 bw2 bu1 bu2).up (by decide), fun s48 G48 n48 e48 h48 => ?_⟩
          have w48 := w47.trans e48
          refine ⟨_, rfl, _, rfl, .ref pw, .ref pv', w1, w2, v1, v2, rfl, ⟨pw, rfl, SqT.of (w48 _ _ f40)⟩, ⟨pv', rfl, SqT.of (w48 _ _ gv)⟩, (mk4 bw1 bw2 bv1 bv2).up (by decide), fun s49 G49 n49 e49 h49 => ?_⟩
          have w49 := w48.trans e49
          refine add_do (h48.same e49) h49 fun s50 G50 n50 e50 h50 => ?_
          have w50 := w49.trans e50
          refine ne_do (h47.same (e48.trans (e49.trans e50))) h50 (Int.add_mul _ _ _) (Int.add_mul _ _ _) (Int.add_mul _ _ _) (Int.add_mul _ _ _) ⟨false, rfl, iteF ?_⟩
          -- determinant
          have buv := (mk4 bu1 bu2 bv1 bv2)
          refine ⟨_, rfl, _, rfl, .ref pu, .ref pv', u1, u2, v1, v2, rfl, ⟨pu, rfl, SqT.of (w50 _ _ gu)⟩, ⟨pv', rfl, SqT.of (w50 _ _ gv)⟩, buv.up (by decide), fun s51 G51 n51 e51 h51 => ?_⟩
          have w51 := w50.trans e51
          obtain ⟨d51, t51, hp51, _⟩ := id h51
          refine ⟨s51, d51, _, rfl, hp51, nc (by decide +kernel), s51, _, _, _, _, rfl, h51, (mk4 (wide_lt bv1 bu1) (wide_lt bv2 bu1) (wide_lt bv1 bu2) (wide_lt bv2 bu2)).up (by decide), rfl, false, ?_, iteF ?_⟩
          · rw [decide_eq_true (congrArg V.int (by grind))]
            rfl
          refine ⟨_, rfl, _, rfl, .ref pu, .ref pv', u1, u2, v1, v2, rfl, ⟨pu, rfl, SqT.of (w51 _ _ gu)⟩, ⟨pv', rfl, SqT.of (w51 _ _ gv)⟩, buv.up (by decide), fun s52 G52 n52 e52 h52 => ?_⟩
          have w52 := w51.trans e52
          obtain ⟨d52, t52, hp52, _⟩ := id h52
          refine ⟨s52, d52, _, rfl, hp52, nc (by decide +kernel), _, rfl, s52, _, _, _, _, d, rfl, h52, d1, d2, fun q53 G53 n53 e53 f53 => ?_⟩
          have w53 := w52.trans e53
          refine ⟨_, rfl, _, rfl, _, rfl, .ref pu, .ref pv', u1, u2, v1, v2, d, rfl, ⟨pu, rfl, SqT.of (w53 _ _ gu)⟩, ⟨pv', rfl, SqT.of (w53 _ _ gv)⟩, bd_w bu1 (by decide), bd_w bu2 (by decide), bd_w bv1 (by decide), bd_w bv2 (by decide), dd, fun q54 G54 n54 e54 f54 => ?_⟩
          have w54 := w53.trans e54
          refine ⟨_, _, dpair (e54 _ _ f53), dpair f54, rfl, rfl, false, (by rw [ne_pair (by grind) (by grind)]), iteF ?_⟩
          -- marks
          refine ⟨_, rfl, _, rfl, .ref pu, .ref pv', u1, u2, v1, v2, rfl, ⟨pu, rfl, SqT.of (w54 _ _ gu)⟩, ⟨pv', rfl, SqT.of (w54 _ _ gv)⟩, buv.up (by decide), fun s55 G55 n55 e55 h55 => ?_⟩
          have w55 := w54.trans e55
          obtain ⟨d55, t55, hp55, _⟩ := id h55
          refine ⟨s55, d55, _, rfl, hp55, nc (by decide +kernel), rfl, s55, _, _, _, _, true, rfl, h55, fun q56 G56 n56 e56 f56 => ?_⟩
          have w56 := w55.trans e56
          refine ⟨_, rfl, _, rfl, .ref pv', .ref pu, v1, v2, u1, u2, rfl, ⟨pv', rfl, SqT.of (w56 _ _ gv)⟩, ⟨pu, rfl, SqT.of (w56 _ _ gu)⟩, (mk4 bv1 bv2 bu1 bu2).up (by decide), fun s57 G57 n57 e57 h57 => ?_⟩
          have w57 := w56.trans e57
          obtain ⟨d57, t57, hp57, _⟩ := id h57
          refine ⟨s57, d57, _, rfl, hp57, nc (by decide +kernel), rfl, s57, _, _, _, _, true, rfl, h57, fun q58 G58 n58 e58 f58 => ?_⟩
          have w58 := w57.trans e58
          refine ⟨_, _, dtri ((e57.trans e58) _ _ f56), dtri f58, rfl, rfl, false, (by rw [ne_tri (by grind) (by grind) (by grind)]), iteF ?_⟩
          exact ⟨_, _, _, _, _, _, _, _, _, _, _, _, rfl, B40.same w58⟩
    · rintro σ H2 ⟨y2, y3, y4, y5, y6, y7, y8, y9, y10, y11, y12, y13, rfl, B2⟩
      exact q _
end
theorem all_mk {l : PySem.W.OpenLaw} {w : World} {K : PySem.W.Frag} {h : Heap} {mg : Str → Option Value} {fa : Addr} (X : K.In h) (G : h.Ns mainGlobals mg) (hfa : mg "law" = some (.ref fa))
    {C_Table : Addr} (aC_Table : PySem.W.nsIn K mainGlobals "Table" = some (some (.ref C_Table))) (pg_Table : PySem.W.plainGet K C_Table Str.empty = true) (hd_Table : PySem.W.hasDictIn K C_Table = true) (po_Table : PySem.W.plainOver K C_Table = true) (sa_Table : PySem.W.findIn K (.ref C_Table) "__setattr__" = some (some (.builtin "object.__setattr__"))) (mk_Table : PySem.W.makesIn K C_Table = true) (kc_Table : PySem.W.keepIn K (.ref C_Table) = true) (sf_Table : PySem.W.selfFirst K C_Table = true) (nq_Table : PySem.W.noSeq K C_Table = true) (n_Table_cells : PySem.W.findIn K (.ref C_Table) "cells" = some none)
    (mo_Table : PySem.W.mroIn K C_Table (.type "object") = some true) (ne_Table : PySem.W.findIn K (.ref C_Table) "__ne__" = some (some (.builtin "object.__ne__"))) (ca_Table : PySem.W.findIn K (.ref C_Table) "__class__" = some (some (.builtin "object.__class__"))) (hn : PySem.W.specialIn K (.builtin "object.__class__") "__get__" = some (some (.builtin "getset_descriptor.__get__"))) (ht : PySem.W.takesIn K (.builtin "object.__class__") = some true) (x_Table_rmul : PySem.W.findIn K (.ref C_Table) "__rmul__" = some none) (i_mul : PySem.W.findIn K (.type "int") "__mul__" = some (some (.builtin "int.__mul__"))) (i_rmul : PySem.W.findIn K (.type "int") "__rmul__" = some (some (.builtin "int.__rmul__"))) (is_Table : PySem.W.subIn K (.type "int") (.ref C_Table) = some false)
    {od0 an0 : Option Addr} {sl0 : Array (Option Value)} {oc0 kV0 dc0 pm0 cd0 ct0 : Value} {f0 : Addr}
    (a0 : PySem.W.nsIn K mainGlobals "added" = some (some (.ref f0))) (l0 : K.lookup f0 = some ⟨oc0, od0, .func (PySem.W.fnOf "added" "added" (defArgs s_added) (defBody s_added) (defScope s_added) .none kV0 dc0 pm0 an0 cd0 ct0), sl0⟩) (c0 : PySem.W.codeIn K cd0 "added" = true) (k0 : PySem.W.keepIn K (.ref f0) = true)
    {od1 an1 : Option Addr} {sl1 : Array (Option Value)} {oc1 kV1 dc1 pm1 cd1 ct1 : Value} {f1 : Addr}
    (a1 : PySem.W.nsIn K mainGlobals "scaled" = some (some (.ref f1))) (l1 : K.lookup f1 = some ⟨oc1, od1, .func (PySem.W.fnOf "scaled" "scaled" (defArgs s_scaled) (defBody s_scaled) (defScope s_scaled) .none kV1 dc1 pm1 an1 cd1 ct1), sl1⟩) (c1 : PySem.W.codeIn K cd1 "scaled" = true) (k1 : PySem.W.keepIn K (.ref f1) = true)
    {od2 an2 : Option Addr} {sl2 : Array (Option Value)} {oc2 kV2 dc2 pm2 cd2 ct2 : Value} {f2 : Addr}
    (a2 : PySem.W.nsIn K mainGlobals "product" = some (some (.ref f2))) (l2 : K.lookup f2 = some ⟨oc2, od2, .func (PySem.W.fnOf "product" "product" (defArgs s_product) (defBody s_product) (defScope s_product) .none kV2 dc2 pm2 an2 cd2 ct2), sl2⟩) (c2 : PySem.W.codeIn K cd2 "product" = true) (k2 : PySem.W.keepIn K (.ref f2) = true)
    {od3 an3 : Option Addr} {sl3 : Array (Option Value)} {oc3 dc3 pm3 cd3 ct3 : Value} {f3 : Addr} {T3 r03 : Addr} {tc3 : Value} {td3 : Option Addr} {tn3 : Nat} {ts3 : Array (Option Value)} {kV3 : Value}
    (a3 : PySem.W.findIn K (.ref C_Table) "__init__" = some (some (.ref f3))) (i3 : PySem.W.isFn K (.ref f3) = true) (l3 : K.lookup f3 = some ⟨oc3, od3, .func (PySem.W.fnOf "__init__" "Table.__init__" (defArgs s_Table_init) (defBody s_Table_init) (defScope s_Table_init) (.ref T3) kV3 dc3 pm3 an3 cd3 ct3), sl3⟩) (c3 : PySem.W.codeIn K cd3 "Table.__init__" = true) (k3 : PySem.W.keepIn K (.ref f3) = true)
    (t3 : K.lookup T3 = some ⟨tc3, td3, .seq #[.ref r03] tn3, ts3⟩)
    {y31 y32 : Addr} {y3d y3e y3f : Option Addr} {y3m y3n y3o : Nat} {y3s y3t y3u : Array (Option Value)} {y3v y3w y3x y3y : Tok}
    (y3a : K.lookup r03 = some ⟨.type "tuple", y3d, .seq #[.ref y31, .ref y32] y3m, y3s⟩) (y3b : K.lookup y31 = some ⟨.type "tuple", y3e, .seq #[.int 0 y3v, .int 0 y3w] y3n, y3t⟩) (y3c : K.lookup y32 = some ⟨.type "tuple", y3f, .seq #[.int 0 y3x, .int 0 y3y] y3o, y3u⟩)
    {od4 an4 : Option Addr} {sl4 : Array (Option Value)} {oc4 dc4 pm4 cd4 ct4 : Value} {f4 : Addr} {kV4 : Value}
    (a4 : PySem.W.findIn K (.ref C_Table) "rows" = some (some (.ref f4))) (i4 : PySem.W.isFn K (.ref f4) = true) (l4 : K.lookup f4 = some ⟨oc4, od4, .func (PySem.W.fnOf "rows" "Table.rows" (defArgs s_Table_rows) (defBody s_Table_rows) (defScope s_Table_rows) .none kV4 dc4 pm4 an4 cd4 ct4), sl4⟩) (c4 : PySem.W.codeIn K cd4 "Table.rows" = true) (k4 : PySem.W.keepIn K (.ref f4) = true)
    {od5 an5 : Option Addr} {sl5 : Array (Option Value)} {oc5 dc5 pm5 cd5 ct5 : Value} {f5 : Addr} {kV5 : Value}
    (a5 : PySem.W.findIn K (.ref C_Table) "area_for" = some (some (.ref f5))) (i5 : PySem.W.isFn K (.ref f5) = true) (l5 : K.lookup f5 = some ⟨oc5, od5, .func (PySem.W.fnOf "area_for" "Table.area_for" (defArgs s_Table_area_for) (defBody s_Table_area_for) (defScope s_Table_area_for) .none kV5 dc5 pm5 an5 cd5 ct5), sl5⟩) (c5 : PySem.W.codeIn K cd5 "Table.area_for" = true) (k5 : PySem.W.keepIn K (.ref f5) = true)
    {od6 an6 : Option Addr} {sl6 : Array (Option Value)} {oc6 dc6 pm6 cd6 ct6 : Value} {f6 : Addr} {D6 : Addr}
    (a6 : PySem.W.findIn K (.ref C_Table) "marks" = some (some (.ref f6))) (i6 : PySem.W.isFn K (.ref f6) = true) (l6 : K.lookup f6 = some ⟨oc6, od6, .func (PySem.W.fnOf "marks" "Table.marks" (defArgs s_Table_marks) (defBody s_Table_marks) (defScope s_Table_marks) .none (.ref D6) dc6 pm6 an6 cd6 ct6), sl6⟩) (c6 : PySem.W.codeIn K cd6 "Table.marks" = true) (k6 : PySem.W.keepIn K (.ref f6) = true)
    (kd6 : PySem.W.nsIn K D6 "turning" = some (some (.bool false)))
    {od7 an7 : Option Addr} {sl7 : Array (Option Value)} {oc7 dc7 pm7 cd7 ct7 : Value} {f7 : Addr} {kV7 : Value}
    (a7 : PySem.W.findIn K (.ref C_Table) "weight" = some (some (.ref f7))) (i7 : PySem.W.isFn K (.ref f7) = true) (l7 : K.lookup f7 = some ⟨oc7, od7, .func (PySem.W.fnOf "weight" "Table.weight" (defArgs s_Table_weight) (defBody s_Table_weight) (defScope s_Table_weight) .none kV7 dc7 pm7 an7 cd7 ct7), sl7⟩) (c7 : PySem.W.codeIn K cd7 "Table.weight" = true) (k7 : PySem.W.keepIn K (.ref f7) = true)
    {od8 an8 : Option Addr} {sl8 : Array (Option Value)} {oc8 dc8 pm8 cd8 ct8 : Value} {f8 : Addr} {kV8 : Value}
    (a8 : PySem.W.findIn K (.ref C_Table) "determinant" = some (some (.ref f8))) (i8 : PySem.W.isFn K (.ref f8) = true) (l8 : K.lookup f8 = some ⟨oc8, od8, .func (PySem.W.fnOf "determinant" "Table.determinant" (defArgs s_Table_determinant) (defBody s_Table_determinant) (defScope s_Table_determinant) .none kV8 dc8 pm8 an8 cd8 ct8), sl8⟩) (c8 : PySem.W.codeIn K cd8 "Table.determinant" = true) (k8 : PySem.W.keepIn K (.ref f8) = true)
    {od9 an9 : Option Addr} {sl9 : Array (Option Value)} {oc9 dc9 pm9 cd9 ct9 : Value} {f9 : Addr} {kV9 : Value}
    (a9 : PySem.W.findIn K (.ref C_Table) "__add__" = some (some (.ref f9))) (i9 : PySem.W.isFn K (.ref f9) = true) (l9 : K.lookup f9 = some ⟨oc9, od9, .func (PySem.W.fnOf "__add__" "Table.__add__" (defArgs s_Table_add) (defBody s_Table_add) (defScope s_Table_add) .none kV9 dc9 pm9 an9 cd9 ct9), sl9⟩) (c9 : PySem.W.codeIn K cd9 "Table.__add__" = true) (k9 : PySem.W.keepIn K (.ref f9) = true)
    {od10 an10 : Option Addr} {sl10 : Array (Option Value)} {oc10 dc10 pm10 cd10 ct10 : Value} {f10 : Addr} {kV10 : Value}
    (a10 : PySem.W.findIn K (.ref C_Table) "__sub__" = some (some (.ref f10))) (i10 : PySem.W.isFn K (.ref f10) = true) (l10 : K.lookup f10 = some ⟨oc10, od10, .func (PySem.W.fnOf "__sub__" "Table.__sub__" (defArgs s_Table_sub) (defBody s_Table_sub) (defScope s_Table_sub) .none kV10 dc10 pm10 an10 cd10 ct10), sl10⟩) (c10 : PySem.W.codeIn K cd10 "Table.__sub__" = true) (k10 : PySem.W.keepIn K (.ref f10) = true)
    {od11 an11 : Option Addr} {sl11 : Array (Option Value)} {oc11 dc11 pm11 cd11 ct11 : Value} {f11 : Addr} {kV11 : Value}
    (a11 : PySem.W.findIn K (.ref C_Table) "__neg__" = some (some (.ref f11))) (i11 : PySem.W.isFn K (.ref f11) = true) (l11 : K.lookup f11 = some ⟨oc11, od11, .func (PySem.W.fnOf "__neg__" "Table.__neg__" (defArgs s_Table_neg) (defBody s_Table_neg) (defScope s_Table_neg) .none kV11 dc11 pm11 an11 cd11 ct11), sl11⟩) (c11 : PySem.W.codeIn K cd11 "Table.__neg__" = true) (k11 : PySem.W.keepIn K (.ref f11) = true)
    {od12 an12 : Option Addr} {sl12 : Array (Option Value)} {oc12 dc12 pm12 cd12 ct12 : Value} {f12 : Addr} {kV12 : Value}
    (a12 : PySem.W.findIn K (.ref C_Table) "__mul__" = some (some (.ref f12))) (i12 : PySem.W.isFn K (.ref f12) = true) (l12 : K.lookup f12 = some ⟨oc12, od12, .func (PySem.W.fnOf "__mul__" "Table.__mul__" (defArgs s_Table_mul) (defBody s_Table_mul) (defScope s_Table_mul) .none kV12 dc12 pm12 an12 cd12 ct12), sl12⟩) (c12 : PySem.W.codeIn K cd12 "Table.__mul__" = true) (k12 : PySem.W.keepIn K (.ref f12) = true)
    {od13 an13 : Option Addr} {sl13 : Array (Option Value)} {oc13 dc13 pm13 cd13 ct13 : Value} {f13 : Addr} {kV13 : Value}
    (a13 : PySem.W.findIn K (.ref C_Table) "__eq__" = some (some (.ref f13))) (i13 : PySem.W.isFn K (.ref f13) = true) (l13 : K.lookup f13 = some ⟨oc13, od13, .func (PySem.W.fnOf "__eq__" "Table.__eq__" (defArgs s_Table_eq) (defBody s_Table_eq) (defScope s_Table_eq) .none kV13 dc13 pm13 an13 cd13 ct13), sl13⟩) (c13 : PySem.W.codeIn K cd13 "Table.__eq__" = true) (k13 : PySem.W.keepIn K (.ref f13) = true)
    {od14 an14 : Option Addr} {sl14 : Array (Option Value)} {oc14 dc14 pm14 cd14 ct14 : Value} {f14 : Addr} {kV14 : Value}
    (a14 : PySem.W.findIn K (.ref C_Table) "__bool__" = some (some (.ref f14))) (i14 : PySem.W.isFn K (.ref f14) = true) (l14 : K.lookup f14 = some ⟨oc14, od14, .func (PySem.W.fnOf "__bool__" "Table.__bool__" (defArgs s_Table_bool) (defBody s_Table_bool) (defScope s_Table_bool) .none kV14 dc14 pm14 an14 cd14 ct14), sl14⟩) (c14 : PySem.W.codeIn K cd14 "Table.__bool__" = true) (k14 : PySem.W.keepIn K (.ref f14) = true)
    {od15 an15 : Option Addr} {sl15 : Array (Option Value)} {oc15 kV15 dc15 pm15 cd15 ct15 : Value} {f15 : Addr}
    (a15 : PySem.W.nsIn K mainGlobals "outer" = some (some (.ref f15))) (l15 : K.lookup f15 = some ⟨oc15, od15, .func (PySem.W.fnOf "outer" "outer" (defArgs s_outer) (defBody s_outer) (defScope s_outer) .none kV15 dc15 pm15 an15 cd15 ct15), sl15⟩) (c15 : PySem.W.codeIn K cd15 "outer" = true) (k15 : PySem.W.keepIn K (.ref f15) = true)
    {od16 an16 : Option Addr} {sl16 : Array (Option Value)} {oc16 kV16 dc16 pm16 cd16 ct16 : Value} {f16 : Addr}
    (a16 : PySem.W.nsIn K mainGlobals "_law_source" = some (some (.ref f16))) (l16 : K.lookup f16 = some ⟨oc16, od16, .func (PySem.W.fnOf "_law_source" "_law_source" (defArgs s_source) (defBody s_source) (defScope s_source) .none kV16 dc16 pm16 an16 cd16 ct16), sl16⟩) (c16 : PySem.W.codeIn K cd16 "_law_source" = true) (k16 : PySem.W.keepIn K (.ref f16) = true)
    {od17 an17 : Option Addr} {sl17 : Array (Option Value)} {oc17 kV17 dc17 pm17 cd17 ct17 : Value} {f17 : Addr}
    (a17 : PySem.W.nsIn K mainGlobals "_law_pull" = some (some (.ref f17))) (l17 : K.lookup f17 = some ⟨oc17, od17, .func (PySem.W.fnOf "_law_pull" "_law_pull" (defArgs s_pull) (defBody s_pull) (defScope s_pull) .none kV17 dc17 pm17 an17 cd17 ct17), sl17⟩) (c17 : PySem.W.codeIn K cd17 "_law_pull" = true) (k17 : PySem.W.keepIn K (.ref f17) = true)
    {od18 an18 : Option Addr} {sl18 : Array (Option Value)} {oc18 kV18 dc18 pm18 cd18 ct18 : Value} {f18 : Addr}
    (a18 : PySem.W.nsIn K mainGlobals "_law_of" = some (some (.ref f18))) (l18 : K.lookup f18 = some ⟨oc18, od18, .func (PySem.W.fnOf "_law_of" "_law_of" (defArgs s_of) (defBody s_of) (defScope s_of) .none kV18 dc18 pm18 an18 cd18 ct18), sl18⟩) (c18 : PySem.W.codeIn K cd18 "_law_of" = true) (k18 : PySem.W.keepIn K (.ref f18) = true)
    {od19 an19 : Option Addr} {sl19 : Array (Option Value)} {oc19 kV19 dc19 pm19 cd19 ct19 : Value} {f19 : Addr}
    (a19 : PySem.W.nsIn K mainGlobals "_law_any_pair" = some (some (.ref f19))) (l19 : K.lookup f19 = some ⟨oc19, od19, .func (PySem.W.fnOf "_law_any_pair" "_law_any_pair" (defArgs s_any_pair) (defBody s_any_pair) (defScope s_any_pair) .none kV19 dc19 pm19 an19 cd19 ct19), sl19⟩) (c19 : PySem.W.codeIn K cd19 "_law_any_pair" = true) (k19 : PySem.W.keepIn K (.ref f19) = true)
    {od20 an20 : Option Addr} {sl20 : Array (Option Value)} {oc20 kV20 dc20 pm20 cd20 ct20 : Value} {f20 : Addr}
    (a20 : PySem.W.nsIn K mainGlobals "_law_a_number" = some (some (.ref f20))) (l20 : K.lookup f20 = some ⟨oc20, od20, .func (PySem.W.fnOf "_law_a_number" "_law_a_number" (defArgs s_a_number) (defBody s_a_number) (defScope s_a_number) .none kV20 dc20 pm20 an20 cd20 ct20), sl20⟩) (c20 : PySem.W.codeIn K cd20 "_law_a_number" = true) (k20 : PySem.W.keepIn K (.ref f20) = true)
    {od21 an21 : Option Addr} {sl21 : Array (Option Value)} {oc21 kV21 dc21 pm21 cd21 ct21 : Value} {f21 : Addr}
    (a21 : PySem.W.nsIn K mainGlobals "_law_roots" = some (some (.ref f21))) (l21 : K.lookup f21 = some ⟨oc21, od21, .func (PySem.W.fnOf "_law_roots" "_law_roots" (defArgs s_roots) (defBody s_roots) (defScope s_roots) .none kV21 dc21 pm21 an21 cd21 ct21), sl21⟩) (c21 : PySem.W.codeIn K cd21 "_law_roots" = true) (k21 : PySem.W.keepIn K (.ref f21) = true)
    {od22 an22 : Option Addr} {sl22 : Array (Option Value)} {oc22 kV22 dc22 pm22 cd22 ct22 : Value} {f22 : Addr}
    (a22 : PySem.W.nsIn K mainGlobals "_law_a_root" = some (some (.ref f22))) (l22 : K.lookup f22 = some ⟨oc22, od22, .func (PySem.W.fnOf "_law_a_root" "_law_a_root" (defArgs s_a_root) (defBody s_a_root) (defScope s_a_root) .none kV22 dc22 pm22 an22 cd22 ct22), sl22⟩) (c22 : PySem.W.codeIn K cd22 "_law_a_root" = true) (k22 : PySem.W.keepIn K (.ref f22) = true)
    {od23 an23 : Option Addr} {sl23 : Array (Option Value)} {oc23 kV23 dc23 pm23 cd23 ct23 : Value} {f23 : Addr}
    (a23 : PySem.W.nsIn K mainGlobals "law" = some (some (.ref f23))) (l23 : K.lookup f23 = some ⟨oc23, od23, .func (PySem.W.fnOf "law" "law" (defArgs s_law) (defBody s_law) (defScope s_law) .none kV23 dc23 pm23 an23 cd23 ct23), sl23⟩) (c23 : PySem.W.codeIn K cd23 "law" = true) (k23 : PySem.W.keepIn K (.ref f23) = true)
    (z0 : PySem.W.nsIn K mainGlobals "range" = some none)
    (z1 : PySem.W.nsIn K mainGlobals "str" = some none)
    (z2 : PySem.W.nsIn K mainGlobals "sum" = some none)
    (z3 : PySem.W.nsIn K mainGlobals "any" = some none)
    (z4 : PySem.W.nsIn K mainGlobals "list" = some none)
    (z5 : PySem.W.nsIn K mainGlobals "isinstance" = some none)
    (z6 : PySem.W.nsIn K mainGlobals "len" = some none)
    (z7 : PySem.W.nsIn K mainGlobals "bool" = some none)
    : ∃ fd : FuncData, (∀ (s : Shared) (v : Value), BindsTo s fd ⟨[v], []⟩ [("_law_script", v)]) ∧ ∀ base : Heap, K.In base → base.Ns mainGlobals mg → FnOk l.prog w K mg base CX0 12 fa fd ["_law_script"] (spLaw K) := by
  have e := hfa.symm.trans (PySem.W.mg_of X G a23)
  cases e
  have F0 := fun_mk (st := s_added) l0 c0 k0
  have F1 := fun_mk (st := s_scaled) l1 c1 k1
  have b1 := F1.binds (ps := ["pair", "number"]) fun _ _ _ _ _ _ us hl => match us, hl with | [_, _], _ => rfl
  have F2 := fun_mk (st := s_product) l2 c2 k2
  have b2 := F2.binds (ps := ["one", "other", "root"]) fun _ _ _ _ _ _ us hl => match us, hl with | [_, _, _], _ => rfl
  have F3 : FunD K "__init__" "Table.__init__" (defArgs s_Table_init) (defBody s_Table_init) (defScope s_Table_init) [.ref r03] [] f3 _ := ⟨⟨_, _, _, _, _, _, _, _, _, _, rfl, l3, c3, .inr ⟨by simp, T3, _, [.ref r03], _, rfl, t3, rfl, .cons rfl .nil⟩, .inl rfl⟩, k3⟩
  have b3 := bd_given l3 t3 (ps := ["self", "rows"]) (fun us hl => match us, hl with | [_, _], _ => ⟨_, rfl, rfl⟩)
  have e3 := bd_dflt l3 t3 (ps := ["self", "rows"]) (fun us hl => match us, hl with | [_], _ => ⟨_, rfl, rfl⟩)
  have F4 := fun_mk (st := s_Table_rows) l4 c4 k4
  have b4 := F4.binds (ps := ["self"]) fun _ _ _ _ _ _ us hl => match us, hl with | [_], _ => rfl
  have F5 := fun_mk (st := s_Table_area_for) l5 c5 k5
  have b5 := F5.binds (ps := ["self", "root"]) fun _ _ _ _ _ _ us hl => match us, hl with | [_, _], _ => rfl
  have F6 := fun_mk (st := s_Table_marks) l6 c6 k6
  have b6 := bd_kw l6 kd6 (ps := ["self", "turning"]) (fun us hl => match us, hl with | [_], _ => ⟨_, _, _, _, _, _, rfl, rfl, rfl⟩)
  have F7 := fun_mk (st := s_Table_weight) l7 c7 k7
  have b7 := F7.binds (ps := ["self", "pair"]) fun _ _ _ _ _ _ us hl => match us, hl with | [_, _], _ => rfl
  have F8 := fun_mk (st := s_Table_determinant) l8 c8 k8
  have b8 := F8.binds (ps := ["self"]) fun _ _ _ _ _ _ us hl => match us, hl with | [_], _ => rfl
  have F9 := fun_mk (st := s_Table_add) l9 c9 k9
  have b9 := F9.binds (ps := ["self", "other"]) fun _ _ _ _ _ _ us hl => match us, hl with | [_, _], _ => rfl
  have F10 := fun_mk (st := s_Table_sub) l10 c10 k10
  have b10 := F10.binds (ps := ["self", "other"]) fun _ _ _ _ _ _ us hl => match us, hl with | [_, _], _ => rfl
  have F11 := fun_mk (st := s_Table_neg) l11 c11 k11
  have b11 := F11.binds (ps := ["self"]) fun _ _ _ _ _ _ us hl => match us, hl with | [_], _ => rfl
  have F12 := fun_mk (st := s_Table_mul) l12 c12 k12
  have b12 := F12.binds (ps := ["self", "other"]) fun _ _ _ _ _ _ us hl => match us, hl with | [_, _], _ => rfl
  have F13 := fun_mk (st := s_Table_eq) l13 c13 k13
  have b13 := F13.binds (ps := ["self", "other"]) fun _ _ _ _ _ _ us hl => match us, hl with | [_, _], _ => rfl
  have F14 := fun_mk (st := s_Table_bool) l14 c14 k14
  have b14 := F14.binds (ps := ["self"]) fun _ _ _ _ _ _ us hl => match us, hl with | [_], _ => rfl
  have F15 := fun_mk (st := s_outer) l15 c15 k15
  have b15 := F15.binds (ps := ["one", "other"]) fun _ _ _ _ _ _ us hl => match us, hl with | [_, _], _ => rfl
  have F16 := fun_mk (st := s_source) l16 c16 k16
  have b16 := F16.binds (ps := ["_law_script"]) fun _ _ _ _ _ _ us hl => match us, hl with | [_], _ => rfl
  have F17 := fun_mk (st := s_pull) l17 c17 k17
  have b17 := F17.binds (ps := ["_law_bag", "_law_size"]) fun _ _ _ _ _ _ us hl => match us, hl with | [_, _], _ => rfl
  have F18 := fun_mk (st := s_of) l18 c18 k18
  have b18 := F18.binds (ps := ["_law_bag", "_law_some"]) fun _ _ _ _ _ _ us hl => match us, hl with | [_, _], _ => rfl
  have F19 := fun_mk (st := s_any_pair) l19 c19 k19
  have b19 := F19.binds (ps := ["_law_bag"]) fun _ _ _ _ _ _ us hl => match us, hl with | [_], _ => rfl
  have F20 := fun_mk (st := s_a_number) l20 c20 k20
  have b20 := F20.binds (ps := ["_law_bag"]) fun _ _ _ _ _ _ us hl => match us, hl with | [_], _ => rfl
  have F21 := fun_mk (st := s_roots) l21 c21 k21
  have b21 := F21.binds (ps := []) fun _ _ _ _ _ _ us hl => match us, hl with | [], _ => rfl
  have F22 := fun_mk (st := s_a_root) l22 c22 k22
  have b22 := F22.binds (ps := ["_law_bag"]) fun _ _ _ _ _ _ us hl => match us, hl with | [_], _ => rfl
  have F23 := fun_mk (st := s_law) l23 c23 k23
  have T : Txt K mg := {
    f_added := f0
    d_added := _
    F_added := F0
    g_added := PySem.W.mg_of X G a0
    f_scaled := f1
    d_scaled := _
    F_scaled := F1
    g_scaled := PySem.W.mg_of X G a1
    b_scaled := b1
    f_product := f2
    d_product := _
    F_product := F2
    g_product := PySem.W.mg_of X G a2
    b_product := b2
    C_Table := C_Table
    cl_Table := .mk pg_Table hd_Table po_Table sa_Table
    g_Table := PySem.W.mg_of X G aC_Table
    sf_Table := sf_Table
    nq_Table := nq_Table
    n_Table_cells := n_Table_cells
    M_Table := .mk mk_Table a3 i3 kc_Table
    mo_Table := mo_Table
    ne_Table := ne_Table
    ca_Table := ca_Table
    hn := hn
    ht := ht
    x_Table_rmul := x_Table_rmul
    i_mul := i_mul
    i_rmul := i_rmul
    is_Table := is_Table
    f_Table_init := f3
    d_Table_init := _
    r0_Table_init := r03
    F_Table_init := F3
    b_Table_init := b3
    b0_Table_init := e3
    v0_Table_init := .cons rfl .nil
    z0_Table_init := .mk y3a y3b y3c
    m_Table_rows := .mk a4 i4 k4
    f_Table_rows := f4
    d_Table_rows := _
    F_Table_rows := F4
    b_Table_rows := b4
    m_Table_area_for := .mk a5 i5 k5
    f_Table_area_for := f5
    d_Table_area_for := _
    F_Table_area_for := F5
    b_Table_area_for := b5
    m_Table_marks := .mk a6 i6 k6
    f_Table_marks := f6
    d_Table_marks := _
    F_Table_marks := F6
    b_Table_marks := b6
    m_Table_weight := .mk a7 i7 k7
    f_Table_weight := f7
    d_Table_weight := _
    F_Table_weight := F7
    b_Table_weight := b7
    m_Table_determinant := .mk a8 i8 k8
    f_Table_determinant := f8
    d_Table_determinant := _
    F_Table_determinant := F8
    b_Table_determinant := b8
    m_Table_add := .mk a9 i9 k9
    f_Table_add := f9
    d_Table_add := _
    F_Table_add := F9
    b_Table_add := b9
    m_Table_sub := .mk a10 i10 k10
    f_Table_sub := f10
    d_Table_sub := _
    F_Table_sub := F10
    b_Table_sub := b10
    m_Table_neg := .mk a11 i11 k11
    f_Table_neg := f11
    d_Table_neg := _
    F_Table_neg := F11
    b_Table_neg := b11
    m_Table_mul := .mk a12 i12 k12
    f_Table_mul := f12
    d_Table_mul := _
    F_Table_mul := F12
    b_Table_mul := b12
    m_Table_eq := .mk a13 i13 k13
    f_Table_eq := f13
    d_Table_eq := _
    F_Table_eq := F13
    b_Table_eq := b13
    m_Table_bool := .mk a14 i14 k14
    f_Table_bool := f14
    d_Table_bool := _
    F_Table_bool := F14
    b_Table_bool := b14
    f_outer := f15
    d_outer := _
    F_outer := F15
    g_outer := PySem.W.mg_of X G a15
    b_outer := b15
    f_source := f16
    d_source := _
    F_source := F16
    g_source := PySem.W.mg_of X G a16
    b_source := b16
    f_pull := f17
    d_pull := _
    F_pull := F17
    g_pull := PySem.W.mg_of X G a17
    b_pull := b17
    f_of := f18
    d_of := _
    F_of := F18
    g_of := PySem.W.mg_of X G a18
    b_of := b18
    f_any_pair := f19
    d_any_pair := _
    F_any_pair := F19
    g_any_pair := PySem.W.mg_of X G a19
    b_any_pair := b19
    f_a_number := f20
    d_a_number := _
    F_a_number := F20
    g_a_number := PySem.W.mg_of X G a20
    b_a_number := b20
    f_roots := f21
    d_roots := _
    F_roots := F21
    g_roots := PySem.W.mg_of X G a21
    b_roots := b21
    f_a_root := f22
    d_a_root := _
    F_a_root := F22
    g_a_root := PySem.W.mg_of X G a22
    b_a_root := b22
    n_range := PySem.W.mg_none_of X G z0
    n_str := PySem.W.mg_none_of X G z1
    n_sum := PySem.W.mg_none_of X G z2
    n_any := PySem.W.mg_none_of X G z3
    n_list := PySem.W.mg_none_of X G z4
    n_isinstance := PySem.W.mg_none_of X G z5
    n_len := PySem.W.mg_none_of X G z6
    n_bool := PySem.W.mg_none_of X G z7
    kb_Table_marks_turning := kbn_Table_marks_turning F6 }
  exact ⟨PySem.W.fnOf "law" "law" (defArgs s_law) (defBody s_law) (defScope s_law) .none kV23 dc23 pm23 an23 cd23 ct23, fun s v => .of_eq rfl, fun base _ _ => ok_law F23 T⟩
end Gy
open PySem PySem.W PyProof.Rows
set_option maxRecDepth 100000 in
set_option maxHeartbeats 0 in
theorem PySem.Challenge.cw_grainyard_k13_whole_rules_of_tables_holds : PySem.Challenge.rw_grainyard_k13_whole_rules_of_tables.Holds := by
  w_on; o_law; k_head; (case hw => w_witness2)
  k_fill
  refine L2.walk_of (l := PySem.Challenge.rw_grainyard_k13_whole_rules_of_tables) (n := 63) (k := 12) (x := "_law_script") (CX := fun _ => L2.CX0) (sp := fun w => Gy.spLaw _) rfl (by decide) rfl ⟨rfl, by decide, by decide⟩ (fun w h Y => PySem.W.kIn_of Y) ?F (fun _ _ a ns hl _ hS => ⟨a, ns, rfl, hS, hl, fun _ => rfl⟩) (fun _ _ _ _ _ h => h)
  case F =>
    intro w mg fa h KX G hmg
    refine' Gy.all_mk KX G hmg ?aC_Table ?pg_Table ?hd_Table ?po_Table ?sa_Table ?mk_Table ?kc_Table ?sf_Table ?nq_Table ?n_Table_cells ?mo_Table ?ne_Table ?ca_Table ?hn ?ht ?x_Table_rmul ?i_mul ?i_rmul ?is_Table ?a0 ?l0 ?c0 ?k0 ?a1 ?l1 ?c1 ?k1 ?a2 ?l2 ?c2 ?k2 ?a3 ?i3 ?l3 ?c3 ?k3 ?t3 ?y3a ?y3b ?y3c ?a4 ?i4 ?l4 ?c4 ?k4 ?a5 ?i5 ?l5 ?c5 ?k5 ?a6 ?i6 ?l6 ?c6 ?k6 ?kd6 ?a7 ?i7 ?l7 ?c7 ?k7 ?a8 ?i8 ?l8 ?c8 ?k8 ?a9 ?i9 ?l9 ?c9 ?k9 ?a10 ?i10 ?l10 ?c10 ?k10 ?a11 ?i11 ?l11 ?c11 ?k11 ?a12 ?i12 ?l12 ?c12 ?k12 ?a13 ?i13 ?l13 ?c13 ?k13 ?a14 ?i14 ?l14 ?c14 ?k14 ?a15 ?l15 ?c15 ?k15 ?a16 ?l16 ?c16 ?k16 ?a17 ?l17 ?c17 ?k17 ?a18 ?l18 ?c18 ?k18 ?a19 ?l19 ?c19 ?k19 ?a20 ?l20 ?c20 ?k20 ?a21 ?l21 ?c21 ?k21 ?a22 ?l22 ?c22 ?k22 ?a23 ?l23 ?c23 ?k23 ?z0 ?z1 ?z2 ?z3 ?z4 ?z5 ?z6 ?z7
    (case aC_Table => k_is); (case pg_Table => k_is); (case hd_Table => k_is); (case po_Table => k_is); (case sa_Table => k_is); (case mk_Table => k_is); (case kc_Table => k_is); (case sf_Table => k_is); (case nq_Table => k_is); (case n_Table_cells => k_is); (case mo_Table => k_is); (case ne_Table => k_is); (case ca_Table => k_is); (case hn => k_is); (case ht => k_is); (case x_Table_rmul => k_is); (case i_mul => k_is); (case i_rmul => k_is); (case is_Table => k_is); (case a0 => k_is); (case l0 => k_is); (case c0 => k_is); (case k0 => k_is); (case a1 => k_is); (case l1 => k_is); (case c1 => k_is); (case k1 => k_is); (case a2 => k_is); (case l2 => k_is); (case c2 => k_is); (case k2 => k_is); (case a3 => k_is); (case i3 => k_is); (case l3 => k_is); (case c3 => k_is); (case k3 => k_is); (case t3 => k_is); (case y3a => k_is); (case y3b => k_is); (case y3c => k_is); (case a4 => k_is); (case i4 => k_is); (case l4 => k_is); (case c4 => k_is); (case k4 => k_is); (case a5 => k_is); (case i5 => k_is); (case l5 => k_is); (case c5 => k_is); (case k5 => k_is); (case a6 => k_is); (case i6 => k_is); (case l6 => k_is); (case c6 => k_is); (case k6 => k_is); (case kd6 => k_is); (case a7 => k_is); (case i7 => k_is); (case l7 => k_is); (case c7 => k_is); (case k7 => k_is); (case a8 => k_is); (case i8 => k_is); (case l8 => k_is); (case c8 => k_is); (case k8 => k_is); (case a9 => k_is); (case i9 => k_is); (case l9 => k_is); (case c9 => k_is); (case k9 => k_is); (case a10 => k_is); (case i10 => k_is); (case l10 => k_is); (case c10 => k_is); (case k10 => k_is); (case a11 => k_is); (case i11 => k_is); (case l11 => k_is); (case c11 => k_is); (case k11 => k_is); (case a12 => k_is); (case i12 => k_is); (case l12 => k_is); (case c12 => k_is); (case k12 => k_is); (case a13 => k_is); (case i13 => k_is); (case l13 => k_is); (case c13 => k_is); (case k13 => k_is); (case a14 => k_is); (case i14 => k_is); (case l14 => k_is); (case c14 => k_is); (case k14 => k_is); (case a15 => k_is); (case l15 => k_is); (case c15 => k_is); (case k15 => k_is); (case a16 => k_is); (case l16 => k_is); (case c16 => k_is); (case k16 => k_is); (case a17 => k_is); (case l17 => k_is); (case c17 => k_is); (case k17 => k_is); (case a18 => k_is); (case l18 => k_is); (case c18 => k_is); (case k18 => k_is); (case a19 => k_is); (case l19 => k_is); (case c19 => k_is); (case k19 => k_is); (case a20 => k_is); (case l20 => k_is); (case c20 => k_is); (case k20 => k_is); (case a21 => k_is); (case l21 => k_is); (case c21 => k_is); (case k21 => k_is); (case a22 => k_is); (case l22 => k_is); (case c22 => k_is); (case k22 => k_is); (case a23 => k_is); (case l23 => k_is); (case c23 => k_is); (case k23 => k_is); (case z0 => k_is); (case z1 => k_is); (case z2 => k_is); (case z3 => k_is); (case z4 => k_is); (case z5 => k_is); (case z6 => k_is); (case z7 => k_is)

