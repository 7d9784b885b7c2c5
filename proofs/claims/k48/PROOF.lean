import PyProof.Rows.All
import Wide.All
import OpenK.AllK
import Wide.FinOn
import HandS.ForMost
import HandS.Wide
import HandS.WideBits
import HandS.IsInst
import HandS.Defaults
import HandS.Star
import HandS.Evl
import HandS.NoneIn
import HandS.Style
import HandS.SlotsOwn
import HandS.MakeKwOnly
import KE.KOpsOwn
import PySem.Challenge.RW_grainyard_k48_whole_one_reduced_form
set_option Elab.async false
set_option linter.all false
set_option maxRecDepth 100000
set_option maxHeartbeats 4000000
namespace Gy
open PySem PySem.Spec PyProof.Rows L2
/-! ### forms -/
def fval (a b c x y : Int) : Int := a * x * x + 2 * b * x * y + c * y * y
def fmid (a b c x y z w : Int) : Int := a * x * z + b * (x * w + y * z) + c * y * w
def IsForm (a b c : Int) : Prop := 0 < a ∧ b * b < a * c
def IsRed (a b c : Int) : Prop := 0 ≤ 2 * b ∧ 2 * b ≤ a ∧ a ≤ c
def Uni (x y z w : Int) : Prop := x * w - y * z = 1 ∨ x * w - y * z = -1
/-- the second form is the first one at two pairs -/
def Led (a b c x y z w a' b' c' : Int) : Prop := a' = fval a b c x y ∧ b' = fmid a b c x y z w ∧ c' = fval a b c z w
def FEq (a b c a' b' c' : Int) : Prop := ∃ x y z w, Uni x y z w ∧ Led a b c x y z w a' b' c'
theorem qsq_nn (x : Int) : 0 ≤ x * x := by
  rcases Int.le_total 0 x with h | h
  · exact Int.mul_nonneg h h
  · exact Int.mul_nonneg_of_nonpos_of_nonpos h h
theorem qsq_le {x y : Int} (h0 : 0 ≤ x) (h : x ≤ y) : x * x ≤ y * y := Int.mul_le_mul h h h0 (Int.le_trans h0 h)
theorem qsq_lt {x y : Int} (h0 : 0 ≤ x) (h : x < y) : x * x < y * y := by
  have h1 : (x + 1) * (x + 1) ≤ y * y := qsq_le (by omega) (by omega)
  grind
theorem qsq_inj {x y : Int} (h0 : 0 ≤ x) (h1 : 0 ≤ y) (h : x * x = y * y) : x = y := by
  rcases Int.lt_trichotomy x y with z | z | z
  · have := qsq_lt h0 z
    omega
  · exact z
  · have := qsq_lt h1 z
    omega
theorem qabs_le {x m : Int} (h0 : 0 ≤ m) (h : x * x ≤ m * m) : x.natAbs ≤ m.natAbs := by
  rcases Nat.lt_or_ge m.natAbs x.natAbs with z | z
  · have h1 : (m.natAbs : Int) < (x.natAbs : Int) := by omega
    have h2 := qsq_lt (by omega) h1
    have h3 : (x.natAbs : Int) * (x.natAbs : Int) = x * x := Int.natAbs_mul_self' x
    have h4 : (m.natAbs : Int) * (m.natAbs : Int) = m * m := Int.natAbs_mul_self' m
    omega
  · exact z
theorem det_id (a b c x y z w : Int) : fval a b c x y * fval a b c z w - fmid a b c x y z w * fmid a b c x y z w = (a * c - b * b) * ((x * w - y * z) * (x * w - y * z)) := by
  unfold fval fmid; grind
theorem uni_sq {x y z w : Int} (h : Uni x y z w) : (x * w - y * z) * (x * w - y * z) = 1 := by
  rcases h with h | h <;> rw [h] <;> rfl
theorem form_c {a b c : Int} (h : IsForm a b c) : 0 < c := by
  have := qsq_nn b
  have h2 : 0 < a * c := by have := h.2; omega
  rw [Int.mul_comm] at h2
  exact Int.pos_of_mul_pos_left h2 h.1
theorem fval_pos {a b c x y : Int} (h : IsForm a b c) (n : x ≠ 0 ∨ y ≠ 0) : 0 < fval a b c x y := by
  have hc := form_c h
  have e : c * fval a b c x y = (c * y + b * x) * (c * y + b * x) + (a * c - b * b) * (x * x) := by unfold fval; grind
  have d0 : 0 < a * c - b * b := by have := h.2; omega
  have p1 := qsq_nn (c * y + b * x)
  have p2 : 0 ≤ (a * c - b * b) * (x * x) := Int.mul_nonneg (by omega) (qsq_nn x)
  have : 0 < c * fval a b c x y := by
    by_cases hx : x = 0
    · subst hx
      have hy : y ≠ 0 := by
        rcases n with n | n
        · exact absurd rfl n
        · exact n
      have : c * fval a b c 0 y = (c * y) * (c * y) := by unfold fval; grind
      rw [this]
      have hcy : c * y ≠ 0 := Int.mul_ne_zero (by omega) hy
      have := qsq_nn (c * y)
      have : (c * y) * (c * y) ≠ 0 := Int.mul_ne_zero hcy hcy
      omega
    · have hxx : x * x ≠ 0 := Int.mul_ne_zero hx hx
      have : 0 < x * x := by have := qsq_nn x; omega
      have := Int.mul_pos d0 this
      omega
  rw [Int.mul_comm] at this
  exact Int.pos_of_mul_pos_left this hc
theorem uni_ne1 {x y z w : Int} (h : Uni x y z w) : x ≠ 0 ∨ y ≠ 0 := by
  by_cases hx : x = 0
  · right
    intro hy
    subst hx hy
    rcases h with h | h <;> simp at h
  · exact .inl hx
theorem uni_ne2 {x y z w : Int} (h : Uni x y z w) : z ≠ 0 ∨ w ≠ 0 := by
  by_cases hx : z = 0
  · right
    intro hy
    subst hx hy
    rcases h with h | h <;> simp at h
  · exact .inl hx
theorem led_form {a b c x y z w a' b' c' : Int} (h : IsForm a b c) (u : Uni x y z w) (l : Led a b c x y z w a' b' c') : IsForm a' b' c' := by
  obtain ⟨rfl, rfl, rfl⟩ := l
  refine ⟨fval_pos h (uni_ne1 u), ?_⟩
  have := det_id a b c x y z w
  rw [uni_sq u] at this
  have := h.2
  omega
theorem led_disc {a b c x y z w a' b' c' : Int} (u : Uni x y z w) (l : Led a b c x y z w a' b' c') : a' * c' - b' * b' = a * c - b * b := by
  obtain ⟨rfl, rfl, rfl⟩ := l
  rw [det_id, uni_sq u, Int.mul_one]
theorem FEq.symm {a b c a' b' c' : Int} (h : FEq a b c a' b' c') : FEq a' b' c' a b c := by
  obtain ⟨x, y, z, w, u, l1, l2, l3⟩ := h
  subst l1 l2 l3
  rcases u with u | u
  · refine ⟨w, -y, -z, x, .inl (by grind), ?_, ?_, ?_⟩
    · unfold fval fmid; grind
    · unfold fval fmid; grind
    · unfold fval fmid; grind
  · refine ⟨-w, y, z, -x, .inr (by grind), ?_, ?_, ?_⟩
    · unfold fval fmid; grind
    · unfold fval fmid; grind
    · unfold fval fmid; grind
theorem FEq.trans {a b c a1 b1 c1 a2 b2 c2 : Int} (h : FEq a b c a1 b1 c1) (k : FEq a1 b1 c1 a2 b2 c2) : FEq a b c a2 b2 c2 := by
  obtain ⟨x, y, z, w, u, l1, l2, l3⟩ := h
  obtain ⟨p, q, r, s, v, m1, m2, m3⟩ := k
  subst l1 l2 l3 m1 m2 m3
  refine ⟨p * x + q * z, p * y + q * w, r * x + s * z, r * y + s * w, ?_, ?_, ?_, ?_⟩
  · have e : (p * x + q * z) * (r * y + s * w) - (p * y + q * w) * (r * x + s * z) = (p * s - q * r) * (x * w - y * z) := by grind
    unfold Uni
    rw [e]
    rcases u with u | u <;> rcases v with v | v <;> rw [u, v] <;> simp
  · unfold fval fmid; grind
  · unfold fval fmid; grind
  · unfold fval fmid; grind
/-- a reduced form at a pair with a second number -/
theorem red_low {a b c x y : Int} (h : IsRed a b c) (ha : 0 < a) (hy : y ≠ 0) : c ≤ fval a b c x y := by
  obtain ⟨b0, b1, ac⟩ := h
  have key : ∀ u v : Int, 0 ≤ u → 1 ≤ v → ∀ e : Int, (e = u * v ∨ e = -(u * v)) → c ≤ a * (u * u) + 2 * b * e + c * (v * v) := by
    intro u v hu hv e he
    have huv : 0 ≤ u * v := Int.mul_nonneg hu (by omega)
    have s1 : -(a * (u * v)) ≤ 2 * b * e := by
      rcases he with rfl | rfl
      · have := Int.mul_nonneg b0 huv
        have := Int.mul_nonneg (Int.le_of_lt ha) huv
        omega
      · have := Int.mul_le_mul_of_nonneg_right b1 huv
        rw [Int.mul_neg]
        omega
    have vv : 1 ≤ v * v := by have := qsq_le (show (0 : Int) ≤ 1 by omega) hv; omega
    have s2 : (c - a) * 1 ≤ (c - a) * (v * v) := Int.mul_le_mul_of_nonneg_left vv (by omega)
    have s3 : 1 ≤ u * u - u * v + v * v := by
      by_cases hu0 : u = 0
      · subst hu0
        simp
        omega
      · rcases Int.le_total u v with z | z
        · have : 0 ≤ v * (v - u) := Int.mul_nonneg (by omega) (by omega)
          have := qsq_le (show (0 : Int) ≤ 1 by omega) (show 1 ≤ u by omega)
          grind
        · have : 0 ≤ u * (u - v) := Int.mul_nonneg (by omega) (by omega)
          grind
    have s4 : a * 1 ≤ a * (u * u - u * v + v * v) := Int.mul_le_mul_of_nonneg_left s3 (by omega)
    grind
  have e1 : (x.natAbs : Int) * (x.natAbs : Int) = x * x := Int.natAbs_mul_self' x
  have e2 : (y.natAbs : Int) * (y.natAbs : Int) = y * y := Int.natAbs_mul_self' y
  have := key x.natAbs y.natAbs (by omega) (by omega) (x * y) (by
    rcases Int.natAbs_eq x with p | p <;> rcases Int.natAbs_eq y with q | q
    · left; rw [← p, ← q]
    · right
      have : (y.natAbs : Int) = -y := by omega
      rw [this, ← p]; grind
    · right
      have : (x.natAbs : Int) = -x := by omega
      rw [this, ← q]; grind
    · left
      have e1 : (y.natAbs : Int) = -y := by omega
      have e2 : (x.natAbs : Int) = -x := by omega
      rw [e1, e2]; grind)
  rw [e1, e2] at this
  unfold fval
  grind
theorem red_min {a b c x y : Int} (h : IsRed a b c) (ha : 0 < a) (n : x ≠ 0 ∨ y ≠ 0) : a ≤ fval a b c x y := by
  by_cases hy : y = 0
  · subst hy
    have hx : x ≠ 0 := by
      rcases n with n | n
      · exact n
      · exact absurd rfl n
    have h1 : x * x ≠ 0 := Int.mul_ne_zero hx hx
    have h2 : 1 ≤ x * x := by have := qsq_nn x; omega
    have := Int.mul_le_mul_of_nonneg_left h2 (Int.le_of_lt ha)
    unfold fval
    grind
  · have := red_low (x := x) h ha hy
    have := h.2.2
    omega
theorem red_dn {a b c a' b' c' : Int} (h : IsRed a b c) (ha : 0 < a) (h' : IsRed a' b' c') (e : FEq a b c a' b' c') : a ≤ a' ∧ c ≤ c' := by
  obtain ⟨x, y, z, w, u, l1, l2, l3⟩ := e
  refine ⟨by rw [l1]; exact red_min h ha (uni_ne1 u), ?_⟩
  by_cases hy : y = 0
  · have hw : w ≠ 0 := by
      intro hw
      subst hy hw
      rcases u with u | u <;> simp at u
    rw [l3]
    exact red_low h ha hw
  · have : c ≤ a' := by rw [l1]; exact red_low h ha hy
    have := h'.2.2
    omega
theorem red_one {a b c a' b' c' : Int} (h : IsRed a b c) (ha : 0 < a) (h' : IsRed a' b' c') (ha' : 0 < a') (e : FEq a b c a' b' c') : a = a' ∧ b = b' ∧ c = c' := by
  obtain ⟨p1, p2⟩ := red_dn h ha h' e
  obtain ⟨q1, q2⟩ := red_dn h' ha' h e.symm
  have e1 : a = a' := by omega
  have e2 : c = c' := by omega
  subst e1 e2
  obtain ⟨x, y, z, w, u, l⟩ := e
  have := led_disc u l
  refine ⟨rfl, qsq_inj (by have := h.1; omega) (by have := h'.1; omega) (by omega), rfl⟩
theorem form_min {a b c a' b' c' x y : Int} (e : FEq a b c a' b' c') (h : IsRed a' b' c') (ha : 0 < a') (n : x ≠ 0 ∨ y ≠ 0) : a' ≤ fval a b c x y := by
  obtain ⟨p, q, r, s, u, l1, l2, l3⟩ := e.symm
  have e1 : fval a b c x y = fval a' b' c' (x * p + y * r) (x * q + y * s) := by
    rw [l1, l2, l3]
    unfold fval fmid
    grind
  rw [e1]
  refine red_min h ha ?_
  by_cases h1 : x * p + y * r = 0
  · right
    intro h2
    have k1 : x * (p * s - q * r) = 0 := by
      have : x * (p * s - q * r) = (x * p + y * r) * s - (x * q + y * s) * r := by grind
      rw [this, h1, h2]
      simp
    have k2 : y * (p * s - q * r) = 0 := by
      have : y * (p * s - q * r) = (x * q + y * s) * p - (x * p + y * r) * q := by grind
      rw [this, h1, h2]
      simp
    rcases u with u | u <;> rw [u] at k1 k2 <;> omega
  · exact .inl h1
/-! one turn of the loop -/
theorem turn_b {a b : Int} (ha : 0 < a) : -a ≤ 2 * (b - (2 * b + a) / (2 * a) * a) ∧ 2 * (b - (2 * b + a) / (2 * a) * a) < a := by
  have h2 : 0 < 2 * a := by omega
  have e := Int.emod_add_mul_ediv (2 * b + a) (2 * a)
  have l := Int.emod_nonneg (2 * b + a) (show 2 * a ≠ 0 by omega)
  have u := Int.emod_lt_of_pos (2 * b + a) h2
  generalize (2 * b + a) / (2 * a) = m at e ⊢
  generalize (2 * b + a) % (2 * a) = r at e l u
  grind
theorem turn_c {a b c m : Int} (ha : 0 < a) (l : -a ≤ 2 * (b - m * a)) (u : 2 * (b - m * a) < a) : c - m * (2 * b - m * a) ≤ c := by
  have : 0 ≤ m * (2 * b - m * a) := by
    rcases Int.lt_trichotomy m 0 with z | z | z
    · have h1 : m * a ≤ (-1) * a := Int.mul_le_mul_of_nonneg_right (by omega) (by omega)
      exact Int.mul_nonneg_of_nonpos_of_nonpos (by omega) (by omega)
    · subst z
      simp
    · have h1 : 1 * a ≤ m * a := Int.mul_le_mul_of_nonneg_right (by omega) (by omega)
      exact Int.mul_nonneg (by omega) (by omega)
  omega
theorem turn_led {A B C x y z w a b c m : Int} (l : Led A B C x y z w a b c) : Led A B C x y (z + x * -m) (w + y * -m) a (b - m * a) (c - m * (2 * b - m * a)) := by
  obtain ⟨rfl, rfl, rfl⟩ := l
  refine ⟨rfl, ?_, ?_⟩ <;> (unfold fval fmid; grind)
theorem turn_uni {x y z w m : Int} (u : Uni x y z w) : Uni x y (z + x * -m) (w + y * -m) := by
  have : x * (w + y * -m) - y * (z + x * -m) = x * w - y * z := by grind
  unfold Uni
  rw [this]
  exact u
theorem swap_led {A B C x y z w a b c : Int} (l : Led A B C x y z w a b c) : Led A B C z w x y c b a := by
  obtain ⟨rfl, rfl, rfl⟩ := l
  refine ⟨rfl, ?_, rfl⟩
  unfold fmid
  grind
theorem swap_uni {x y z w : Int} (u : Uni x y z w) : Uni z w x y := by
  have : z * y - w * x = -(x * w - y * z) := by grind
  unfold Uni
  rw [this]
  rcases u with u | u <;> rw [u]
  · exact .inr rfl
  · exact .inl rfl
theorem neg_led {A B C x y z w a b c : Int} (l : Led A B C x y z w a b c) : Led A B C x y (z * -1) (w * -1) a (-b) c := by
  obtain ⟨rfl, rfl, rfl⟩ := l
  refine ⟨rfl, ?_, ?_⟩
  · unfold fmid; grind
  · unfold fval; grind
theorem neg_uni {x y z w : Int} (u : Uni x y z w) : Uni x y (z * -1) (w * -1) := by
  have : x * (w * -1) - y * (z * -1) = -(x * w - y * z) := by grind
  unfold Uni
  rw [this]
  rcases u with u | u <;> rw [u]
  · exact .inr rfl
  · exact .inl rfl
/-- the pairs stay small -/
theorem form_bd {a b c x y : Int} {n : Nat} (h : IsForm a b c) (ha : a.natAbs < 2 ^ n) (hc : c.natAbs < 2 ^ n) (hv : (fval a b c x y).natAbs < 2 ^ n) (v0 : 0 ≤ fval a b c x y) : x.natAbs < 2 ^ n ∧ y.natAbs < 2 ^ n := by
  have c0 := form_c h
  have d0 : 1 ≤ a * c - b * b := by have := h.2; omega
  have e1 : c * fval a b c x y = (c * y + b * x) * (c * y + b * x) + (a * c - b * b) * (x * x) := by unfold fval; grind
  have e2 : a * fval a b c x y = (a * x + b * y) * (a * x + b * y) + (a * c - b * b) * (y * y) := by unfold fval; grind
  have p1 := qsq_nn (c * y + b * x)
  have p2 := qsq_nn (a * x + b * y)
  have g1 : 1 * (x * x) ≤ (a * c - b * b) * (x * x) := Int.mul_le_mul_of_nonneg_right d0 (qsq_nn x)
  have g2 : 1 * (y * y) ≤ (a * c - b * b) * (y * y) := Int.mul_le_mul_of_nonneg_right d0 (qsq_nn y)
  generalize fval a b c x y = v at e1 e2 hv v0
  have M : ∀ k t : Int, 0 ≤ k → k.natAbs < 2 ^ n → t * t ≤ k * v → t.natAbs < 2 ^ n := by
    intro k t k0 k1 ht
    have h1 : k ≤ (max k v) := Int.le_max_left _ _
    have h2 : v ≤ (max k v) := Int.le_max_right _ _
    have h3 : k * v ≤ max k v * max k v := Int.mul_le_mul h1 h2 v0 (Int.le_trans k0 h1)
    have := qabs_le (show 0 ≤ max k v by omega) (Int.le_trans ht h3)
    refine Nat.lt_of_le_of_lt this ?_
    rcases Int.le_total k v with z | z
    · rw [Int.max_eq_right z]
      exact hv
    · rw [Int.max_eq_left z]
      exact k1
  exact ⟨M c x (by omega) hc (by omega), M a y (by have := h.1; omega) ha (by omega)⟩
def topS (i : Nat) : Stmt := PySem.Challenge.pw_grainyard_k48_whole_one_reduced_form.main.body.getD i (.Pass ⟨0, 0, 0, 0⟩)
abbrev s_added : Stmt := topS 4
theorem sc_added : FnScope ["pairs", "a", "b"] ["pairs"] (defScope s_added) := ⟨rfl, rfl, rfl, by decide +kernel, rfl, by decide +kernel, by decide +kernel⟩
abbrev s_scaled : Stmt := topS 5
theorem sc_scaled : FnScope ["pair", "number", "a", "b"] ["pair", "number"] (defScope s_scaled) := ⟨rfl, rfl, rfl, by decide +kernel, rfl, by decide +kernel, by decide +kernel⟩
abbrev s_reduced : Stmt := topS 7
theorem sc_reduced : FnScope ["form", "a", "b", "c", "one", "other", "many"] ["form"] (defScope s_reduced) := ⟨rfl, rfl, rfl, by decide +kernel, rfl, by decide +kernel, by decide +kernel⟩
abbrev s_source : Stmt := topS 9
theorem sc_source : FnScope ["_law_script", "_law_mix", "_law_cell"] ["_law_script"] (defScope s_source) := ⟨rfl, rfl, rfl, by decide +kernel, rfl, by decide +kernel, by decide +kernel⟩
abbrev s_pull : Stmt := topS 10
theorem sc_pull : FnScope ["_law_bag", "_law_size", "_law_mix", "_law_cell", "_law_found"] ["_law_bag", "_law_size"] (defScope s_pull) := ⟨rfl, rfl, rfl, by decide +kernel, rfl, by decide +kernel, by decide +kernel⟩
abbrev s_of : Stmt := topS 11
theorem sc_of : FnScope ["_law_bag", "_law_some"] ["_law_bag", "_law_some"] (defScope s_of) := ⟨rfl, rfl, rfl, by decide +kernel, rfl, by decide +kernel, by decide +kernel⟩
abbrev s_any_pair : Stmt := topS 12
theorem sc_any_pair : FnScope ["_law_bag", "_law_size"] ["_law_bag"] (defScope s_any_pair) := ⟨rfl, rfl, rfl, by decide +kernel, rfl, by decide +kernel, by decide +kernel⟩
abbrev s_a_form : Stmt := topS 13
theorem sc_a_form : FnScope ["_law_bag", "_law_x", "_law_y", "_law_size", "_law_more", "_law_a", "_law_b", "_law_c"] ["_law_bag"] (defScope s_a_form) := ⟨rfl, rfl, rfl, by decide +kernel, rfl, by decide +kernel, by decide +kernel⟩
abbrev s_value_at : Stmt := topS 14
theorem sc_value_at : FnScope ["_law_form", "_law_pair", "_law_a", "_law_b", "_law_c"] ["_law_form", "_law_pair"] (defScope s_value_at) := ⟨rfl, rfl, rfl, by decide +kernel, rfl, by decide +kernel, by decide +kernel⟩
abbrev s_led : Stmt := topS 15
theorem sc_led : FnScope ["_law_form", "_law_x", "_law_y", "_law_middle", "_law_a", "_law_b", "_law_c"] ["_law_form", "_law_x", "_law_y"] (defScope s_led) := ⟨rfl, rfl, rfl, by decide +kernel, rfl, by decide +kernel, by decide +kernel⟩
abbrev s_few_pairs : Stmt := topS 16
theorem sc_few_pairs : FnScope ["_law_found", "_law_a", "_law_b"] [] (defScope s_few_pairs) := ⟨rfl, rfl, rfl, by decide +kernel, rfl, by decide +kernel, by decide +kernel⟩
abbrev s_small_reduced : Stmt := topS 17
theorem sc_small_reduced : FnScope ["_law_bag", "_law_a"] ["_law_bag"] (defScope s_small_reduced) := ⟨rfl, rfl, rfl, by decide +kernel, rfl, by decide +kernel, by decide +kernel⟩
abbrev s_law : Stmt := topS 18
theorem sc_law : FnScope ["_law_script", "_law_bag", "_law_turn", "_law_form", "_law_due", "_law_k", "_law_values", "_law_other", "_law_x", "_law_y", "_law_late", "_law_size", "_law_way", "_law_a", "_law_b"] ["_law_script"] (defScope s_law) := ⟨rfl, rfl, rfl, by decide +kernel, rfl, by decide +kernel, by decide +kernel⟩
structure Txt (K : PySem.W.Frag) (mg : Str → Option Value) where
  f_added : Addr
  d_added : FuncData
  F_added : Fun K "added" "added" s_added f_added d_added
  g_added : mg "added" = some (.ref f_added)
  f_scaled : Addr
  d_scaled : FuncData
  F_scaled : Fun K "scaled" "scaled" s_scaled f_scaled d_scaled
  g_scaled : mg "scaled" = some (.ref f_scaled)
  b_scaled : Binds K d_scaled ["pair", "number"] []
  f_reduced : Addr
  d_reduced : FuncData
  F_reduced : Fun K "reduced" "reduced" s_reduced f_reduced d_reduced
  g_reduced : mg "reduced" = some (.ref f_reduced)
  b_reduced : Binds K d_reduced ["form"] []
  f_source : Addr
  d_source : FuncData
  F_source : Fun K "_law_source" "_law_source" s_source f_source d_source
  g_source : mg "_law_source" = some (.ref f_source)
  b_source : Binds K d_source ["_law_script"] []
  f_pull : Addr
  d_pull : FuncData
  F_pull : Fun K "_law_pull" "_law_pull" s_pull f_pull d_pull
  g_pull : mg "_law_pull" = some (.ref f_pull)
  b_pull : Binds K d_pull ["_law_bag", "_law_size"] []
  f_of : Addr
  d_of : FuncData
  F_of : Fun K "_law_of" "_law_of" s_of f_of d_of
  g_of : mg "_law_of" = some (.ref f_of)
  b_of : Binds K d_of ["_law_bag", "_law_some"] []
  f_any_pair : Addr
  d_any_pair : FuncData
  F_any_pair : Fun K "_law_any_pair" "_law_any_pair" s_any_pair f_any_pair d_any_pair
  g_any_pair : mg "_law_any_pair" = some (.ref f_any_pair)
  b_any_pair : Binds K d_any_pair ["_law_bag"] []
  f_a_form : Addr
  d_a_form : FuncData
  F_a_form : Fun K "_law_a_form" "_law_a_form" s_a_form f_a_form d_a_form
  g_a_form : mg "_law_a_form" = some (.ref f_a_form)
  b_a_form : Binds K d_a_form ["_law_bag"] []
  f_value_at : Addr
  d_value_at : FuncData
  F_value_at : Fun K "_law_value_at" "_law_value_at" s_value_at f_value_at d_value_at
  g_value_at : mg "_law_value_at" = some (.ref f_value_at)
  b_value_at : Binds K d_value_at ["_law_form", "_law_pair"] []
  f_led : Addr
  d_led : FuncData
  F_led : Fun K "_law_led" "_law_led" s_led f_led d_led
  g_led : mg "_law_led" = some (.ref f_led)
  b_led : Binds K d_led ["_law_form", "_law_x", "_law_y"] []
  f_few_pairs : Addr
  d_few_pairs : FuncData
  F_few_pairs : Fun K "_law_few_pairs" "_law_few_pairs" s_few_pairs f_few_pairs d_few_pairs
  g_few_pairs : mg "_law_few_pairs" = some (.ref f_few_pairs)
  b_few_pairs : Binds K d_few_pairs [] []
  f_small_reduced : Addr
  d_small_reduced : FuncData
  F_small_reduced : Fun K "_law_small_reduced" "_law_small_reduced" s_small_reduced f_small_reduced d_small_reduced
  g_small_reduced : mg "_law_small_reduced" = some (.ref f_small_reduced)
  b_small_reduced : Binds K d_small_reduced ["_law_bag"] []
  n_ValueError : mg "ValueError" = none
  n_range : mg "range" = none
  n_sum : mg "sum" = none
  n_list : mg "list" = none
  n_len : mg "len" = none
  n_min : mg "min" = none
/-! ### heaps, and the bag that the draws change -/
def Keep (b : Addr) (H H' : Hp) : Prop := ∀ a o, a ≠ b → H a = some o → H' a = some o
theorem Keep.refl {b : Addr} (H : Hp) : Keep b H H := fun _ _ _ e => e
theorem Keep.trans {b : Addr} {H H1 H2 : Hp} (x : Keep b H H1) (y : Keep b H1 H2) : Keep b H H2 := fun a o n e => y a o n (x a o n e)
theorem keep_put {b : Addr} {H : Hp} {o : HO} : Keep b H (upd H b o) := fun a u n e => (upd_ne n).trans e
theorem keep_new {b p : Addr} {H : Hp} {o : HO} (hp : H p = none) : Keep b H (upd H p o) := fun a u _ e => (upd_ne (ne_of_none e hp)).trans e
theorem same_new {p : Addr} {H : Hp} {o : HO} (hp : H p = none) : Same H (upd H p o) := fun a u e => (upd_ne (ne_of_none e hp)).trans e
theorem keep_of {b : Addr} {H H' : Hp} (s : Same H H') : Keep b H H' := fun a o _ e => s a o e
theorem Same.keep {b : Addr} {H H1 H2 : Hp} (s : Same H H1) (k : Keep b H1 H2) (hb : H b = none) : Same H H2 := fun a o e => k a o (ne_of_none e hb) (s a o e)
structure BagAt (H : Hp) (b s : Addr) (ns : List Int) (i j m c : Int) : Prop where
  hb : H b = some (.lst [.ref s, .int i, .int j, .int m, .int c])
  hs : H s = some (.lst (ns.map V.int))
  i0 : 0 ≤ i
  i1 : i ≤ (ns.length : Int)
  m0 : 0 ≤ m
  m1 : m < 2147483399
def Bag (H : Hp) (b sb : Addr) : Prop := ∃ (ns : List Int) (i j m c : Int), BagAt H b sb ns i j m c
theorem BagAt.ne {H : Hp} {b s : Addr} {ns : List Int} {i j m c : Int} (B : BagAt H b s ns i j m c) : s ≠ b := ne_of B.hs B.hb (by
  intro e
  injection e with e
  cases ns with
  | nil => simp at e
  | cons x r => simp at e)
theorem BagAt.put {H : Hp} {b s : Addr} {ns : List Int} {i j m c : Int} (B : BagAt H b s ns i j m c) {i' j' m' c' : Int} (h0 : 0 ≤ i') (h1 : i' ≤ (ns.length : Int)) (h2 : 0 ≤ m') (h3 : m' < 2147483399) :
    BagAt (upd H b (.lst [.ref s, .int i', .int j', .int m', .int c'])) b s ns i' j' m' c' := ⟨upd_same, (upd_ne B.ne).trans B.hs, h0, h1, h2, h3⟩
theorem BagAt.same {H H' : Hp} {b s : Addr} {ns : List Int} {i j m c : Int} (B : BagAt H b s ns i j m c) (e : Same H H') : BagAt H' b s ns i j m c := ⟨e _ _ B.hb, e _ _ B.hs, B.i0, B.i1, B.m0, B.m1⟩
theorem Bag.same {H H' : Hp} {b sb : Addr} (B : Bag H b sb) (e : Same H H') : Bag H' b sb := by
  obtain ⟨ns, i, j, m, c, B⟩ := B
  exact ⟨ns, i, j, m, c, B.same e⟩
theorem Bag.new {H : Hp} {b sb p : Addr} {o : HO} (B : Bag H b sb) (hp : H p = none) : Bag (upd H p o) b sb := B.same (same_new hp)
theorem Bag.ne {H : Hp} {b sb p : Addr} (B : Bag H b sb) (hp : H p = none) : p ≠ b := by
  obtain ⟨ns, i, j, m, c, B⟩ := B
  exact (ne_of_none B.hb hp).symm
theorem Bag.ne2 {H : Hp} {b sb p : Addr} (B : Bag H b sb) (hp : H p = none) : p ≠ sb := by
  obtain ⟨ns, i, j, m, c, B⟩ := B
  exact (ne_of_none B.hs hp).symm
theorem Bag.tup {H : Hp} {b sb p : Addr} {xs : List V} (B : Bag H b sb) (hp : H p = some (.tup xs)) : p ≠ b := by
  obtain ⟨ns, i, j, m, c, B⟩ := B
  exact ne_of hp B.hb (by intro z; cases z)
theorem Bag.put {H : Hp} {b sb l : Addr} {o : HO} (B : Bag H b sb) (h1 : l ≠ b) (h2 : l ≠ sb) : Bag (upd H l o) b sb := by
  obtain ⟨ns, i, j, m, c, B⟩ := B
  exact ⟨ns, i, j, m, c, (upd_ne h1.symm).trans B.hb, (upd_ne h2.symm).trans B.hs, B.i0, B.i1, B.m0, B.m1⟩
theorem Keep.list {K : PySem.W.Frag} {H H' : Hp} {b p : Addr} {xs : List V} (k : Keep b H H') (hp : p ≠ b) (h : H p = some (.lst xs)) : SqL K H' p xs := SqL.of (k _ _ hp h)
theorem at_some {α : Type} {xs : List α} {i : Int} (h0 : 0 ≤ i) (h1 : i < (xs.length : Int)) : ∃ v, xs[i.toNat]? = some v ∧ atI xs i = some v := by
  obtain ⟨n, rfl⟩ := Int.eq_ofNat_of_zero_le h0
  have hl : n < xs.length := by omega
  exact ⟨xs[n], by simp [hl], atI_nat (by simp [hl])⟩
theorem at_ex {ns : List Int} {i : Int} (h0 : 0 ≤ i) (h1 : i < (ns.length : Int)) : ∃ z, atI (ns.map V.int) i = some (.int z) := by
  obtain ⟨n, rfl⟩ := Int.eq_ofNat_of_zero_le h0
  have hl : n < ns.length := by omega
  exact ⟨ns[n], atI_nat (by simp [hl])⟩
/-! ### f(k = v, ..): keywords alone -/
section
variable {X : Cx}
theorem pe_kwOnly {CX : CXT} {k : Nat} {f : Addr} {fd : FuncData} {ps ks : List Str} {sp : Sp} {E : XK} {x : Str} {p pos : Pos} {kws : List Keyword} {tk : TA} {g : List Value → List Value → List Value} {gV : List V → List V → List V}
    (F : FnOk X.prog X.w X.K X.mg X.base CX k f fd ps sp) (hr : Room k X.A) (hg : Gl X x) (hm : X.mg x = some (.ref f))
    (hk : PySem.W.keepIn X.K (.ref f) = true) (hb : KBn X.K fd ps 0 ks g gV) (hx : Passes CX X E) (hkw : PK X kws tk)
    (hall : (backToKw pos (keywordEach kws X.env)).all (·.1.isSome) = true := by rfl)
    (hks : (backToKw pos (keywordEach kws X.env)).filterMap (·.1) = ks := by rfl)
    (hdb : (x == ("__debug__" : Str)) = false := by decide)
    (hpl : ((backTo pos (starEach [] X.env)).any (·.1) || (backToKw pos (keywordEach kws X.env)).any (·.1.isNone)) = false := by rfl) :
    PE X (.Call (.Name x p) [] kws pos) (fun σ H Q => tk σ H fun zs H2 => zs.length = ks.length ∧ sp (gV [] zs) H2 Q E) := by
  refine ⟨fun pins s σ H Q I h => wpAny_Call_Name_kw (ld_glob I hg hm ?_ hdb)⟩
  refine PySem.W.callWith_KW0 (h₀ := X.base) I.ok.mod.kin hk hall ?_ hpl
  refine thn (hkw.run pos pins s σ H _ I h) fun ws s2 ⟨zs, H2, I2, rz, l2, q2⟩ => ⟨I2.kIn, ?_⟩
  rw [hks]
  exact run_fnN (us := []) (vs := []) F hr hb hx I2 .nil rz rfl l2 q2
end
/-! ### the law's own draws -/
section
variable {base : Heap} {K : PySem.W.Frag} {mg : Str → Option Value} {P : Program} {w : World}
def spPull : Sp := fun vs H Q _ => ∃ (b sb : Addr) (n : Int), vs = [.ref b, .int n] ∧ Bag H b sb ∧ 0 < n ∧ n.natAbs < 2 ^ 100 ∧ ∀ z H', 0 ≤ z → z < n → Bag H' b sb → Keep b H H' → Q (.int z) H'
theorem ok_pull (T : Txt K mg) : FnOk P w K mg base CX0 1 T.f_pull T.d_pull ["_law_bag", "_law_size"] spPull := by
  refine T.F_pull.ok sc_pull (fun vs H Q E h => ?_) (fun cdv A outer s H vs Q E hr h => ?_)
  · obtain ⟨b, sb, n, rfl, _⟩ := h
    rfl
  · obtain ⟨b, s1, n, rfl, ⟨ns, i, j, m, c, B⟩, h0, h1, q⟩ := h
    refine ⟨_, (pss_cons (ps_asg (pe_op op_add (pe_ix ix_list (pv 0) pe_int (fun _ _ => rfl)) pe_int) (pg_sub (pv 0) pe_int set_list))
      (Evl.pss_cut (ps_if (PW.pt (pw_and (pt_cmpR op_eq (pe_ix ix_list (pv 0) pe_int (fun _ _ => rfl)) pe_int (nomark _)) (pw_and1 (pt_cmpR op_lt (pe_ix ix_list (pv 0) pe_int (fun _ _ => rfl)) (pe_callB call_len_seq (by rfl) T.n_len (by decide +kernel) (pa_cons (pe_ix ix_list (pv 0) pe_int (fun _ _ => rfl)) pa_nil)) (nomark _))))) (pss_cons (ps_set (i := 3) sc_pull.nd rfl (Or.inl rfl) (pe_ix ix_list (pe_ix ix_list (pv 0) pe_int (fun _ _ => rfl)) (pe_ix ix_list (pv 0) pe_int (fun _ _ => rfl)) (fun _ _ => rfl)))
      (pss_cons (ps_asg (pe_op op_add (pe_ix ix_list (pv 0) pe_int (fun _ _ => rfl)) pe_int) (pg_sub (pv 0) pe_int set_list))
      (pss_one (ps_if (pt_cmpR op_ge (pv 3) (pe_op op_pow pe_int pe_int) (nomark _)) (pss_one (ps_asg (pv 3) (pg_sub (pv 0) pe_int set_list))) (pss_cons (ps_set (i := 2) sc_pull.nd rfl (Or.inl rfl) (pe_op op_add (pe_op op_mul (pe_ix ix_list (pv 0) pe_int (fun _ _ => rfl)) pe_int) (pe_op op_mul (pe_op op_mod (pv 3) pe_int) pe_int)))
      (pss_one (ps_asg (pe_op op_mod (pe_op op_add (pv 2) pe_int) pe_int) (pg_sub (pv 0) pe_int set_list)))))))) pss_nil)
      (pss_cons (ps_if (pt_cmpR op_gt (pe_ix ix_list (pv 0) pe_int (fun _ _ => rfl)) pe_int (nomark _)) (pss_cons (ps_set (i := 4) sc_pull.nd rfl (Or.inl rfl) (pe_op op_mod (pe_ix ix_list (pv 0) pe_int (fun _ _ => rfl)) (pv 1)))
      (pss_cons (ps_asg (pe_op op_fdivW (pe_ix ix_list (pv 0) pe_int (fun _ _ => rfl)) (pv 1)) (pg_sub (pv 0) pe_int set_list))
      (pss_one (ps_ret (pv 4))))) pss_nil)
      (pss_cons (ps_set (i := 2) sc_pull.nd rfl (Or.inl rfl) (pe_op op_add (pe_op op_mul (pe_op op_mul (pe_ix ix_list (pv 0) pe_int (fun _ _ => rfl)) (pe_ix ix_list (pv 0) pe_int (fun _ _ => rfl))) pe_int) (pe_op op_mul (pe_ix ix_list (pv 0) pe_int (fun _ _ => rfl)) pe_int)))
      (pss_cons (ps_asg (pe_op op_mod (pe_op op_add (pv 2) (pe_op op_mul pe_int (pe_ix ix_list (pv 0) pe_int (fun _ _ => rfl)))) pe_int) (pg_sub (pv 0) pe_int set_list))
      (pss_one (ps_ret (pe_op op_mod (pe_op op_fdiv (pe_ix ix_list (pv 0) pe_int (fun _ _ => rfl)) pe_int) (pv 1))))))))), ?_⟩
    -- the count of the draws
    have B1 := B.put (j' := j) (c' := c + 1) B.i0 B.i1 B.m0 B.m1
    refine ⟨.ref b, rfl, b, _, 4, .int c, rfl, rfl, SqL.of B.hb, atI_nat (j := 4) rfl, c, 1, rfl, rfl, .ref b, rfl, b, _, 4, 4, rfl, rfl, B.hb, rfl, ?_⟩
    refine ⟨fun σ H' => ∃ y2 y3 y4, σ = [some (.ref b), some (.int n), y2, y3, y4] ∧ Bag H' b s1 ∧ Keep b H H', ?_, ?_⟩
    · -- the next cell of the script
      refine ⟨.ref b, rfl, b, _, 2, .int j, rfl, rfl, SqL.of B1.hb, atI_nat (j := 2) rfl, rfl, _, rfl, ite2 (fun e => ?_) (fun e => ?_)⟩
      · refine ⟨.ref b, rfl, b, _, 1, .int i, rfl, rfl, SqL.of B1.hb, atI_nat (j := 1) rfl, .ref b, rfl, b, _, 0, .ref s1, rfl, rfl, SqL.of B1.hb, atI_nat (j := 0) rfl, s1, _, rfl, .inl (SqL.of B1.hs), i, _, rfl, rfl, _, rfl, ite2 (fun e2 => ?_) (fun e2 => ?_)⟩
        · have e3 : i < (ns.length : Int) := by
            have := of_decide_eq_true e2
            rw [List.length_map] at this
            exact this
          obtain ⟨z, hz⟩ := at_ex B.i0 e3
          have B2 := B1.put (j' := j) (c' := c + 1) (show 0 ≤ i + 1 by have := B.i0; omega) (show i + 1 ≤ (ns.length : Int) by omega) B.m0 B.m1
          refine ⟨.ref b, rfl, b, _, 0, .ref s1, rfl, rfl, SqL.of B1.hb, atI_nat (j := 0) rfl, .ref b, rfl, b, _, 1, .int i, rfl, rfl, SqL.of B1.hb, atI_nat (j := 1) rfl, s1, _, i, _, rfl, rfl, SqL.of B1.hs, hz, ?_⟩
          refine ⟨.ref b, rfl, b, _, 1, .int i, rfl, rfl, SqL.of B1.hb, atI_nat (j := 1) rfl, i, 1, rfl, rfl, .ref b, rfl, b, _, 1, 1, rfl, rfl, B1.hb, rfl, ?_⟩
          refine ⟨_, rfl, 10, 18, rfl, rfl, ⟨by decide, by decide, by decide⟩, z, _, rfl, rfl, _, rfl, ite2 (fun e4 => ?_) (fun e4 => ?_)⟩
          · have B3 := B2.put (j' := z) (c' := c + 1) (show 0 ≤ i + 1 by have := B.i0; omega) (show i + 1 ≤ (ns.length : Int) by omega) B.m0 B.m1
            refine ⟨_, rfl, .ref b, rfl, b, _, 2, 2, rfl, rfl, B2.hb, rfl, ?_⟩
            exact ⟨_, _, _, rfl, ⟨ns, _, _, _, _, B3⟩, keep_put.trans (keep_put.trans keep_put)⟩
          · refine ⟨.ref b, rfl, b, _, 3, .int m, rfl, rfl, SqL.of B2.hb, atI_nat (j := 3) rfl, m, 40014, rfl, rfl, .inr ⟨by decide, by decide⟩, _, rfl, z, 2147483399, rfl, rfl, (by show (0 : Int) < 2147483399; decide), _, 69069, rfl, rfl, .inr ⟨by decide, by decide⟩, _, _, rfl, rfl, ?_⟩
            refine ⟨_, rfl, _, 11, rfl, rfl, _, 2147483399, rfl, rfl, (by show (0 : Int) < 2147483399; decide), .ref b, rfl, b, _, 3, 3, rfl, rfl, B2.hb, rfl, ?_⟩
            have B3 := B2.put (j' := j) (m' := (m * 40014 + z % 2147483399 * 69069 + 11) % 2147483399) (c' := c + 1) (show 0 ≤ i + 1 by have := B.i0; omega) (show i + 1 ≤ (ns.length : Int) by omega) (by omega) (by omega)
            exact ⟨_, _, _, rfl, ⟨ns, _, _, _, _, B3⟩, keep_put.trans (keep_put.trans keep_put)⟩
        · exact ⟨_, _, _, rfl, ⟨ns, _, _, _, _, B1⟩, keep_put⟩
      · exact ⟨_, _, _, rfl, ⟨ns, _, _, _, _, B1⟩, keep_put⟩
    · rintro σ H' ⟨y2, y3, y4, rfl, ⟨ns2, i2, j2, m2, c2, B2⟩, k2⟩
      refine ⟨.ref b, rfl, b, _, 2, .int j2, rfl, rfl, SqL.of B2.hb, atI_nat (j := 2) rfl, j2, 0, rfl, rfl, _, rfl, ite2 (fun e => ?_) (fun e => ?_)⟩
      · have B3 := B2.put (j' := j2 / n) (c' := c2) B2.i0 B2.i1 B2.m0 B2.m1
        refine ⟨.ref b, rfl, b, _, 2, .int j2, rfl, rfl, SqL.of B2.hb, atI_nat (j := 2) rfl, .int n, rfl, j2, n, rfl, rfl, h0, ?_⟩
        refine ⟨.ref b, rfl, b, _, 2, .int j2, rfl, rfl, SqL.of B2.hb, atI_nat (j := 2) rfl, .int n, rfl, j2, n, rfl, rfl, wide_div h0 h1 (by decide) (by decide), .ref b, rfl, b, _, 2, 2, rfl, rfl, B2.hb, rfl, ?_⟩
        exact ⟨_, rfl, q _ _ (Int.emod_nonneg _ (by omega)) (Int.emod_lt_of_pos _ h0) ⟨ns2, _, _, _, _, B3⟩ (k2.trans keep_put)⟩
      · have hm : -(2 ^ 64) < m2 ∧ m2 < 2 ^ 64 := ⟨by have := B2.m0; omega, by have := B2.m1; omega⟩
        refine ⟨.ref b, rfl, b, _, 3, .int m2, rfl, rfl, SqL.of B2.hb, atI_nat (j := 3) rfl, .ref b, rfl, b, _, 3, .int m2, rfl, rfl, SqL.of B2.hb, atI_nat (j := 3) rfl, m2, m2, rfl, rfl, .inl hm, _, 7, rfl, rfl, .inr ⟨by decide, by decide⟩,
          .ref b, rfl, b, _, 3, .int m2, rfl, rfl, SqL.of B2.hb, atI_nat (j := 3) rfl, m2, 40692, rfl, rfl, .inr ⟨by decide, by decide⟩, _, _, rfl, rfl, ?_⟩
        refine ⟨_, rfl, .ref b, rfl, b, _, 4, .int c2, rfl, rfl, SqL.of B2.hb, atI_nat (j := 4) rfl, 1013904223, c2, rfl, rfl, .inl ⟨by decide, by decide⟩, _, _, rfl, rfl, _, 2147483399, rfl, rfl, (by show (0 : Int) < 2147483399; decide), .ref b, rfl, b, _, 3, 3, rfl, rfl, B2.hb, rfl, ?_⟩
        have B3 := B2.put (j' := j2) (m' := (m2 * m2 * 7 + m2 * 40692 + 1013904223 * c2) % 2147483399) (c' := c2) B2.i0 B2.i1 (Int.emod_nonneg _ (by decide)) (Int.emod_lt_of_pos _ (by decide))
        refine ⟨.ref b, rfl, b, _, 3, _, rfl, rfl, SqL.of B3.hb, atI_nat (j := 3) rfl, _, 37, rfl, rfl, ⟨by decide, by decide⟩, .int n, rfl, _, n, rfl, rfl, h0, ?_⟩
        exact q _ _ (Int.emod_nonneg _ (by omega)) (Int.emod_lt_of_pos _ h0) ⟨ns2, _, _, _, _, B3⟩ (k2.trans keep_put)
def spOf : Sp := fun vs H Q _ => ∃ (b sb l : Addr) (xs : List V), vs = [.ref b, .ref l] ∧ Bag H b sb ∧ H l = some (.lst xs) ∧ l ≠ b ∧ 0 < xs.length ∧ xs.length ≤ 1000 ∧ ∀ (i : Nat) (v : V) (H' : Hp), xs[i]? = some v → Bag H' b sb → Keep b H H' → Q v H'
theorem ok_of (T : Txt K mg) : FnOk P w K mg base CX0 2 T.f_of T.d_of ["_law_bag", "_law_some"] spOf := by
  refine T.F_of.ok sc_of (fun vs H Q E h => ?_) (fun cdv A outer s H vs Q E hr h => ?_)
  · obtain ⟨b, sb, l, xs, rfl, _⟩ := h
    rfl
  · obtain ⟨b, sb, l, xs, rfl, B, hl, nl, h0, h1, q⟩ := h
    refine ⟨_, (pss_one (ps_ret (pe_ix ix_list (pv 1) (pe_call (ok_pull T) (hr.mono (by decide)) (by rfl) T.g_pull T.F_pull.kp T.b_pull .nil pass0 (pa_cons (pv 0) (pa_cons (pe_callB call_len_seq (by rfl) T.n_len (by decide +kernel) (pa_cons (pv 1) pa_nil)) pa_nil))) (fun _ _ => rfl)))), ?_⟩
    have hn : ((xs.length : Int)).natAbs < 2 ^ 100 := Nat.lt_of_le_of_lt (show (xs.length : Int).natAbs ≤ 1000 by omega) (by decide)
    refine ⟨.ref l, rfl, .ref b, rfl, .ref l, rfl, l, xs, rfl, .inl (SqL.of hl), b, sb, _, rfl, B, (by show (0 : Int) < (xs.length : Int); omega), hn, fun z H' z0 z1 B' k' => ?_⟩
    obtain ⟨v, e1, e2⟩ := at_some z0 z1
    exact ⟨l, xs, z, v, rfl, rfl, k'.list nl hl, e2, q _ _ _ e1 B' k'⟩
def spSource (K : PySem.W.Frag) : Sp := fun vs H Q _ => ∃ (a : Addr) (ns : List Int), vs = [.ref a] ∧ SqL K H a (ns.map V.int) ∧ ns.length ≤ 63 ∧ ∀ b sb H', H b = none → Same H H' → Bag H' b sb → Q (.ref b) H'
theorem ok_source (T : Txt K mg) : FnOk P w K mg base CX0 1 T.f_source T.d_source ["_law_script"] (spSource K) := by
  refine T.F_source.ok sc_source (fun vs H Q E h => ?_) (fun cdv A outer s H vs Q E hr h => ?_)
  · obtain ⟨a, ns, rfl, _⟩ := h
    rfl
  · obtain ⟨a, ns, rfl, hS, hlen, q⟩ := h
    refine ⟨_, (pss_cons (ps_set (i := 1) sc_source.nd rfl (Or.inl rfl) pe_int)
      (pss_cons (ps_for PassesOwn.never rfl (pi_list (pe_slice sl_list (pv 0) po_none (po_some pe_int))) (pg_name (i := 2) sc_source.nd rfl (Or.inl rfl)) (pss_one (ps_set (i := 1) sc_source.nd rfl (Or.inl rfl) (pe_op op_mod (pe_op op_add (pe_op op_add (pe_op op_mul (pv 1) pe_int) (pe_op op_mod (pv 2) pe_int)) pe_int) pe_int))))
      (pss_one (ps_ret (pe_lst (pa_cons (pe_callTy call_list_of (by rfl) T.n_list (by decide +kernel) (pa_cons (pe_slice sl_list (pv 0) po_none (po_some pe_int)) pa_nil)) (pa_cons pe_int (pa_cons pe_int (pa_cons (pv 1) (pa_cons pe_int pa_nil)))))))))), ?_⟩
    have hcut : cutV (ns.map V.int) none (some 63) = ns.map V.int := by
      unfold cutV
      rw [HT.sIx_none, show HT.sIx (ns.map V.int).length (ns.map V.int).length (some 63) = min 63 (ns.map V.int).length from HT.sIx_nat _ _ 63]
      rw [List.drop_zero, List.length_map, Nat.sub_zero, Nat.min_eq_right hlen]
      exact List.take_of_length_le (by rw [List.length_map]; exact Nat.le_refl _)
    refine ⟨.ref a, rfl, 63, rfl, a, _, rfl, hS, fun p hp => ?_⟩
    rw [hcut]
    refine ⟨p, rfl, ⟨_, SqL.of upd_same⟩, for_list (K := K) (a := p) (xs := ns.map V.int) (fun i σ H2 => ∃ (m : Int) (y : Option V), σ = [some (.ref a), some (.int m), y] ∧ 0 ≤ m ∧ m < 2147483399 ∧ H2 = upd H p (.lst (ns.map V.int)))
      ⟨3812, none, rfl, by decide, by decide, rfl⟩ (fun i σ H2 _ ⟨_, _, _, _, _, e⟩ => by rw [e]; exact SqL.of upd_same) ?_ ?_⟩
    · rintro i x σ H2 hx ⟨m, y, rfl, m0, m1, rfl⟩
      obtain ⟨z, rfl⟩ : ∃ z, x = V.int z := by
        rw [List.getElem?_map] at hx
        cases e : ns[i]? with
        | none =>
          rw [e] at hx
          cases hx
        | some z =>
          rw [e] at hx
          exact ⟨z, (Option.some.inj hx).symm⟩
      refine ⟨_, rfl, m, 40692, rfl, rfl, .inr ⟨by decide, by decide⟩, _, rfl, z, 2147483399, rfl, rfl, (by show (0 : Int) < 2147483399; decide), _, _, rfl, rfl, _, 17, rfl, rfl, _, 2147483399, rfl, rfl, (by show (0 : Int) < 2147483399; decide), ?_⟩
      exact ⟨_, _, rfl, Int.emod_nonneg _ (by decide), Int.emod_lt_of_pos _ (by decide), rfl⟩
    · rintro σ H2 ⟨m, y, rfl, m0, m1, rfl⟩
      have hS2 : SqL K (upd H p (.lst (ns.map V.int))) a (ns.map V.int) := (same_new hp).seq hS
      refine ⟨.ref a, rfl, 63, rfl, a, _, rfl, hS2, fun p2 hp2 => ?_⟩
      rw [hcut]
      refine ⟨p2, _, rfl, .inl (SqL.of upd_same), fun l hl => ?_⟩
      refine ⟨_, rfl, (by show 5 ≤ sizeLine; decide), fun b hb => ?_⟩
      have sm : Same H (upd (upd (upd (upd H p (.lst (ns.map V.int))) p2 (.lst (ns.map V.int))) l (.lst (ns.map V.int))) b (.lst [.ref l, .int 0, .int 0, .int m, .int 0])) := (same_new hp).trans ((same_new hp2).trans ((same_new hl).trans (same_new hb)))
      exact q b l _ (((same_new hp).trans ((same_new hp2).trans (same_new hl))).free hb) sm ⟨ns, 0, 0, m, 0, upd_same, same_new hb _ _ upd_same, Int.le_refl _, by omega, m0, m1⟩
end
section
variable {base : Heap} {K : PySem.W.Frag} {mg : Str → Option Value} {P : Program} {w : World}
def spAnyPair : Sp := fun vs H Q _ => ∃ b sb : Addr, vs = [.ref b] ∧ Bag H b sb ∧ ∀ x y p H', -(10 ^ 6) ≤ x → x ≤ 10 ^ 6 → -(10 ^ 6) ≤ y → y ≤ 10 ^ 6 → H p = none → H' p = some (.tup [.int x, .int y]) → Bag H' b sb → Keep b H H' → Q (.ref p) H'
theorem ok_any_pair (T : Txt K mg) : FnOk P w K mg base CX0 3 T.f_any_pair T.d_any_pair ["_law_bag"] spAnyPair := by
  refine T.F_any_pair.ok sc_any_pair (fun vs H Q E h => ?_) (fun cdv A outer s H vs Q E hr h => ?_)
  · obtain ⟨b, sb, rfl, _⟩ := h
    rfl
  · obtain ⟨b, sb, rfl, B, q⟩ := h
    refine ⟨_, (pss_cons (ps_set (i := 1) sc_any_pair.nd rfl (Or.inl rfl) (pe_call (ok_of T) (hr.mono (by decide)) (by rfl) T.g_of T.F_of.kp T.b_of .nil pass0 (pa_cons (pv 0) (pa_cons (pe_lst (pa_cons pe_int (pa_cons pe_int (pa_cons pe_int (pa_cons pe_int (pa_cons (pe_op op_pow pe_int pe_int) pa_nil)))))) pa_nil))))
      (pss_one (ps_ret (pe_tup (pa_cons (pe_op op_sub (pe_call (ok_pull T) (hr.mono (by decide)) (by rfl) T.g_pull T.F_pull.kp T.b_pull .nil pass0 (pa_cons (pv 0) (pa_cons (pe_op op_add (pe_op op_mul pe_int (pv 1)) pe_int) pa_nil))) (pv 1)) (pa_cons (pe_op op_sub (pe_call (ok_pull T) (hr.mono (by decide)) (by rfl) T.g_pull T.F_pull.kp T.b_pull .nil pass0 (pa_cons (pv 0) (pa_cons (pe_op op_add (pe_op op_mul pe_int (pv 1)) pe_int) pa_nil))) (pv 1)) pa_nil)))))), ?_⟩
    refine ⟨.ref b, rfl, 10, 6, rfl, rfl, ⟨by decide, by decide, by decide⟩, (by show 5 ≤ sizeLine; decide), fun l hl => ?_⟩
    refine ⟨b, sb, l, _, rfl, B.new hl, upd_same, B.ne hl, by decide, by decide, fun i v H1 hv B1 k1 => ?_⟩
    obtain ⟨n, rfl, n0, n1⟩ : ∃ n : Int, v = .int n ∧ 1 ≤ n ∧ n ≤ 10 ^ 6 := by
      match i, hv with
      | 0, hv => cases hv; exact ⟨2, rfl, by decide, by decide⟩
      | 1, hv => cases hv; exact ⟨5, rfl, by decide, by decide⟩
      | 2, hv => cases hv; exact ⟨9, rfl, by decide, by decide⟩
      | 3, hv => cases hv; exact ⟨30, rfl, by decide, by decide⟩
      | 4, hv => cases hv; exact ⟨10 ^ 6, rfl, by decide, by decide⟩
      | n + 5, hv => simp at hv
    have hn : (2 * n + 1).natAbs < 2 ^ 100 := Nat.lt_of_le_of_lt (show (2 * n + 1).natAbs ≤ 2000001 by omega) (by decide)
    refine ⟨.ref b, rfl, _, rfl, 2, n, rfl, rfl, .inl ⟨by decide, by decide⟩, _, 1, rfl, rfl, b, sb, _, rfl, B1, (show (0 : Int) < 2 * n + 1 by omega), hn, fun z H2 z0 z1 B2 k2 => ?_⟩
    refine ⟨_, rfl, z, n, rfl, rfl, .ref b, rfl, _, rfl, 2, n, rfl, rfl, .inl ⟨by decide, by decide⟩, _, 1, rfl, rfl, b, sb, _, rfl, B2, (show (0 : Int) < 2 * n + 1 by omega), hn, fun z' H3 z0' z1' B3 k3 => ?_⟩
    refine ⟨_, rfl, z', n, rfl, rfl, (by show 2 ≤ sizeLine; decide), fun p hp => ?_⟩
    have kk : Keep b H H3 := (keep_new hl).trans (k1.trans (k2.trans k3))
    have hpn : H p = none := by
      cases e : H p with
      | none => rfl
      | some o => exact absurd (kk p o (B3.ne hp) e) (by rw [hp]; simp)
    exact q _ _ p _ (by omega) (by omega) (by omega) (by omega) hpn upd_same (B3.new hp) (kk.trans (keep_new hp))
end
/-! ### calls of a def with a star parameter -/
section
variable {X : Cx}
theorem pe_callR {CX : CXT} {k : Nat} {f : Addr} {sp : Sp} {E : XK} {x : Str} {p pos : Pos} {e : Expr} {es : List Expr} {t : TA}
    (F : FnR X.prog X.w X.K X.mg X.base CX k f sp) (hr : Room k X.A) (hg : Gl X x) (hm : X.mg x = some (.ref f)) (hk : PySem.W.keepIn X.K (.ref f) = true) (hx : Passes CX X E) (ha : PA X (e :: es) t)
    (hdb : (x == ("__debug__" : Str)) = false := by decide) (he : starEach (e :: es) X.env = (false, eval e X.env) :: starEach es X.env := by rfl)
    (hpl : (backTo pos (starEach es X.env)).any (·.1) = false := by rfl) :
    PE X (.Call (.Name x p) (e :: es) [] pos) (fun σ H Q => t σ H fun vs H1 => sp vs H1 Q E) :=
  ⟨fun pins s σ H Q I h => wpAny_Call_Name_kw (ld_glob I hg hm (PySem.W.callWith_K (h₀ := X.base) I.ok.mod.kin hk
    (thn (ha.run pos pins s σ H _ I h) fun us s1 ⟨vs, H1, I1, r, q⟩ => ⟨I1.kIn, wpAny_call (run_fnR F hr hx I1 r q)⟩) he hpl) hdb)⟩
theorem pe_callR0 {CX : CXT} {k : Nat} {f : Addr} {sp : Sp} {E : XK} {x : Str} {p pos : Pos}
    (F : FnR X.prog X.w X.K X.mg X.base CX k f sp) (hr : Room k X.A) (hg : Gl X x) (hm : X.mg x = some (.ref f)) (hk : PySem.W.keepIn X.K (.ref f) = true) (hx : Passes CX X E)
    (hdb : (x == ("__debug__" : Str)) = false := by decide) : PE X (.Call (.Name x p) [] [] pos) (fun _ H Q => sp [] H Q E) :=
  ⟨fun pins s σ H Q I h => wpAny_Call_Name_kw (ld_glob I hg hm (PySem.W.callWith_K0 I.kIn hk (wpAny_call (run_fnR (us := []) F hr hx I .nil h))) hdb)⟩
end
/-! ### lists of ints that comprehensions make -/
def Pt (H : Hp) (D : Addr) (ns : List Int) (i : Nat) (H' : Hp) : Prop := Same H H' ∧ H' D = some (.lst ((ns.take i).map V.int))
theorem pt_step {H H' : Hp} {D : Addr} {ns : List Int} {i : Nat} {z : Int} (h : Pt H D ns i H') (hD : H D = none) (hz : ns[i]? = some z) : Pt H D ns (i + 1) (upd H' D (.lst ((ns.take i).map V.int ++ [.int z]))) := by
  refine ⟨fun a o e => (upd_ne (ne_of_none e hD)).trans (h.1 a o e), ?_⟩
  rw [upd_same, List.take_add_one, hz, List.map_append]
  rfl
theorem pt_size {ns : List Int} {i : Nat} (h : ns.length ≤ 1000) : ((ns.take i).map V.int).length < sizeLine := by
  rw [List.length_map, List.length_take]
  exact small1000 (by omega)
theorem pt_end {H H' : Hp} {D : Addr} {ns : List Int} {i : Nat} (h : Pt H D ns i H') (hi : ns.length ≤ i) : Same H H' ∧ H' D = some (.lst (ns.map V.int)) := by
  have := h.2
  rw [List.take_of_length_le hi] at this
  exact ⟨h.1, this⟩
/-! ### pairs -/
def PairAt (K : PySem.W.Frag) (H : Hp) (v : V) (x y : Int) : Prop := ∃ t : Addr, v = .ref t ∧ SqT K H t [.int x, .int y]
theorem PairAt.same {K : PySem.W.Frag} {H H' : Hp} {v : V} {x y : Int} (h : PairAt K H v x y) (s : Same H H') : PairAt K H' v x y := by
  obtain ⟨t, e, h⟩ := h
  exact ⟨t, e, Evl.ex_t (show Evl.Ex H H' from s) h⟩
inductive PairsAt (K : PySem.W.Frag) (H : Hp) : List V → List (Int × Int) → Prop
  | nil : PairsAt K H [] []
  | cons {v : V} {vs : List V} {x y : Int} {ps : List (Int × Int)} : PairAt K H v x y → PairsAt K H vs ps → PairsAt K H (v :: vs) ((x, y) :: ps)
theorem PairsAt.get {K : PySem.W.Frag} {H : Hp} : ∀ {vs : List V} {ps : List (Int × Int)}, PairsAt K H vs ps → ∀ {i : Nat} {v : V}, vs[i]? = some v → ∃ x y, ps[i]? = some (x, y) ∧ PairAt K H v x y
  | _, _, .nil, i, v, h => by simp at h
  | _, _, .cons p t, 0, v, h => by cases h; exact ⟨_, _, rfl, p⟩
  | _, _, .cons p t, i + 1, v, h => t.get (i := i) (by simpa using h)
theorem PairsAt.same {K : PySem.W.Frag} {H H' : Hp} (s : Same H H') : ∀ {vs : List V} {ps : List (Int × Int)}, PairsAt K H vs ps → PairsAt K H' vs ps
  | _, _, .nil => .nil
  | _, _, .cons p t => .cons (p.same s) (t.same s)
theorem PairsAt.len {K : PySem.W.Frag} {H : Hp} : ∀ {vs : List V} {ps : List (Int × Int)}, PairsAt K H vs ps → vs.length = ps.length
  | _, _, .nil => rfl
  | _, _, .cons p t => congrArg Nat.succ t.len
def s1 (ps : List (Int × Int)) : Int := (ps.map (·.1)).sum
def s2 (ps : List (Int × Int)) : Int := (ps.map (·.2)).sum
/-- a new pair -/
def NewPair (H : Hp) (x y : Int) (Q : VK) : Prop := ∀ p H', H p = none → Same H H' → H' p = some (.tup [.int x, .int y]) → Q (.ref p) H'
/-! ### added -/
section
variable {base : Heap} {K : PySem.W.Frag} {mg : Str → Option Value} {P : Program} {w : World}
def spAdded (K : PySem.W.Frag) : Sp := fun vs H Q _ => ∃ ps : List (Int × Int), PairsAt K H vs ps ∧ ps.length ≤ 1000 ∧ NewPair H (s1 ps) (s2 ps) Q
def spAddedB (K : PySem.W.Frag) : Sp := fun vs H Q _ => ∃ (t : Addr) (xs : List V) (ps : List (Int × Int)), vs = [.ref t] ∧ H t = some (.tup xs) ∧ PairsAt K H xs ps ∧ ps.length ≤ 1000 ∧ NewPair H (s1 ps) (s2 ps) Q
theorem ok_added (T : Txt K mg) : FnR P w K mg base CX0 1 T.f_added (spAdded K) := by
  obtain ⟨o1, o2, v1, v2, v3, a1, v4, v5, sl1, e1, r1, r2⟩ := T.F_added.ex
  have r1' := r1
  rw [e1] at r1'
  refine FnR.imp (StX.fn_star (ps := []) (pv := "pairs") (sp := spAddedB K) (N := ["pairs", "a", "b"]) r1' r2 sc_added StX.cxUp_none ?_ ?_) ?_
  · intro us rest hu
    match us, rest, hu with
    | [], [], _ => rfl
    | [], _ :: _, _ => rfl
  · intro A outer s H vs Q E hr h
    obtain ⟨t, xs, ps, rfl, ht, hp, hn, q⟩ := h
    refine ⟨_, PSs.nox (pss_one (ps_ret (pe_tup (pa_cons (pe_callB (cr_sum rfl) (by rfl) T.n_sum (by decide +kernel) (pa_cons (pe_lc (own := [("a", 1), ("b", 2)]) (g := (gTup K 2 (gCons (gName 1) (gCons (gName 2) gNil)))) (tt := tYes) (by rfl) sc_added.nd (pi_tup (pv 0)) (blkOk_by (own := [("a", 1), ("b", 2)]) (N := ["pairs", "a", "b"]) (sc := defScope s_added) (by decide +kernel)) (fun _ _ _ _ _ => (pg_tup (by rfl) (pgs_cons (pg_name (i := 1) sc_added.nd rfl (Or.inl rfl)) (pgs_cons (pg_name (i := 2) sc_added.nd rfl (Or.inl rfl)) pgs_nil)))) (fun _ _ _ _ _ => pts_nil) (fun _ _ _ _ _ => (pv 1))) pa_nil)) (pa_cons (pe_callB (cr_sum rfl) (by rfl) T.n_sum (by decide +kernel) (pa_cons (pe_lc (own := [("a", 1), ("b", 2)]) (g := (gTup K 2 (gCons (gName 1) (gCons (gName 2) gNil)))) (tt := tYes) (by rfl) sc_added.nd (pi_tup (pv 0)) (blkOk_by (own := [("a", 1), ("b", 2)]) (N := ["pairs", "a", "b"]) (sc := defScope s_added) (by decide +kernel)) (fun _ _ _ _ _ => (pg_tup (by rfl) (pgs_cons (pg_name (i := 1) sc_added.nd rfl (Or.inl rfl)) (pgs_cons (pg_name (i := 2) sc_added.nd rfl (Or.inl rfl)) pgs_nil)))) (fun _ _ _ _ _ => pts_nil) (fun _ _ _ _ _ => (pv 2))) pa_nil)) pa_nil))))), ?_⟩
    have hl := hp.len
    refine ⟨_, rfl, t, rfl, ⟨_, SqT.of ht⟩, fun D hD => lc_tup (K := K) (a := t) (xs := xs) (Pt H D (ps.map (·.1))) ⟨same_new hD, upd_same⟩ (fun i H' _ h => SqT.of (h.1 _ _ ht)) (fun i x H' hx hP => ?_) (fun H1 hP => ?_)⟩
    · obtain ⟨c, e, hc, u, rfl, hu⟩ := hp.get hx
      refine ⟨u, _, rfl, Evl.ex_t (show Evl.Ex H H' from hP.1) hu, rfl, .int c, [.int e], rfl, .int e, [], rfl, rfl, rfl, ⟨_, rfl, _, hP.2, pt_size (by rw [List.length_map]; exact hn), pt_step hP hD ?_⟩⟩
      rw [List.getElem?_map, hc]
      rfl
    obtain ⟨e1, f1⟩ := pt_end hP (by rw [List.length_map]; omega)
    refine ⟨D, _, rfl, SqL.of f1, ?_⟩
    refine ⟨_, rfl, t, rfl, ⟨_, SqT.of (e1 _ _ ht)⟩, fun D2 hD2 => lc_tup (K := K) (a := t) (xs := xs) (Pt H1 D2 (ps.map (·.2))) ⟨same_new hD2, upd_same⟩ (fun i H' _ h => SqT.of (h.1 _ _ (e1 _ _ ht))) (fun i x H' hx hP => ?_) (fun H2 hP => ?_)⟩
    · obtain ⟨c, e, hc, u, rfl, hu⟩ := hp.get hx
      refine ⟨u, _, rfl, Evl.ex_t (show Evl.Ex H H' from e1.trans hP.1) hu, rfl, .int c, [.int e], rfl, .int e, [], rfl, rfl, rfl, ⟨_, rfl, _, hP.2, pt_size (by rw [List.length_map]; exact hn), pt_step hP hD2 ?_⟩⟩
      rw [List.getElem?_map, hc]
      rfl
    obtain ⟨e2, f2⟩ := pt_end hP (by rw [List.length_map]; omega)
    exact ⟨D2, _, rfl, SqL.of f2, by show 2 ≤ sizeLine; decide, fun p hp => q p _ ((e1.trans e2).free hp) ((e1.trans e2).trans (same_new hp)) upd_same⟩
  · rintro vs H Q E ⟨ps, hp, hl, q⟩
    refine ⟨[], vs, rfl, rfl, Nat.le_of_lt (small1000 (by rw [hp.len]; exact hl)), fun p hpn => ⟨p, vs, ps, rfl, upd_same, hp.same (same_new hpn), hl, fun p' H' hp' sm h' => ?_⟩⟩
    exact q p' H' ((same_new hpn).free hp') ((same_new hpn).trans sm) h'
end
/-! ### scaled -/
section
variable {base : Heap} {K : PySem.W.Frag} {mg : Str → Option Value} {P : Program} {w : World}
def spScaled (K : PySem.W.Frag) : Sp := fun vs H Q _ => ∃ (v : V) (x y n : Int), vs = [v, .int n] ∧ PairAt K H v x y ∧ x.natAbs < 2 ^ 9000 ∧ y.natAbs < 2 ^ 9000 ∧ n.natAbs < 2 ^ 9000 ∧ NewPair H (x * n) (y * n) Q
theorem ok_scaled (T : Txt K mg) : FnOk P w K mg base CX0 1 T.f_scaled T.d_scaled ["pair", "number"] (spScaled K) := by
  refine T.F_scaled.ok sc_scaled (fun vs H Q E h => ?_) (fun cdv A outer s H vs Q E hr h => ?_)
  · obtain ⟨v, x, y, n, rfl, _⟩ := h
    rfl
  · obtain ⟨v, x, y, n, rfl, ⟨t, rfl, ht⟩, x1, y1, n1, q⟩ := h
    refine ⟨_, (pss_cons (ps_asg (pv 0) (pg_tup (by rfl) (pgs_cons (pg_name (i := 2) sc_scaled.nd rfl (Or.inl rfl)) (pgs_cons (pg_name (i := 3) sc_scaled.nd rfl (Or.inl rfl)) pgs_nil))))
      (pss_one (ps_ret (pe_tup (pa_cons (pe_op op_mulW (pv 2) (pv 1)) (pa_cons (pe_op op_mulW (pv 3) (pv 1)) pa_nil)))))), ?_⟩
    refine ⟨_, rfl, t, _, rfl, ht, rfl, .int x, [.int y], rfl, .int y, [], rfl, rfl, ?_⟩
    exact ⟨_, rfl, _, rfl, x, n, rfl, rfl, wide_mul x1 n1 (by decide) (by decide) (by decide), _, rfl, _, rfl, y, n, rfl, rfl, wide_mul y1 n1 (by decide) (by decide) (by decide), by show 2 ≤ sizeLine; decide, fun p hp => q p _ hp (same_new hp) upd_same⟩
end
/-! ### what is never reached -/
section
variable {X : Cx}
theorem ps_dead {st : Stmt} : PS X st (fun _ _ _ => False) := ⟨fun _ _ _ _ _ _ h => h.elim⟩
end
/-! ### reduced -/
theorem rb_up {n m : Nat} {x : Int} (h1 : x.natAbs < 2 ^ n) (h : n ≤ m) : x.natAbs < 2 ^ m := Nat.lt_of_lt_of_le h1 (Nat.pow_le_pow_right (by decide) h)
theorem rb_2 {n : Nat} {x : Int} (h1 : x.natAbs < 2 ^ n) : (2 * x).natAbs < 2 ^ (n + 1) := by
  rw [Nat.pow_succ]
  omega
theorem rb_sub {n : Nat} {x y : Int} (h1 : x.natAbs < 2 ^ n) (h2 : y.natAbs < 2 ^ n) : (x - y).natAbs < 2 ^ (n + 1) := by
  rw [Nat.pow_succ]
  omega
theorem rb_le {n : Nat} {x y : Int} (h0 : 0 ≤ x) (h : x ≤ y) (h1 : y.natAbs < 2 ^ n) : x.natAbs < 2 ^ n := by omega
/-- the multiple that is taken away -/
theorem many_bd {a b : Int} {n : Nat} (ha : 0 < a) (a1 : a.natAbs < 2 ^ n) (b1 : b.natAbs < 2 ^ n) : ((2 * b + a) / (2 * a)).natAbs < 2 ^ (n + 2) := by
  have h := turn_b (b := b) ha
  generalize (2 * b + a) / (2 * a) = m at h
  rw [Nat.pow_succ, Nat.pow_succ]
  have h1 : (m * a).natAbs < 2 ^ n * 2 * 2 := by omega
  have h2 : m.natAbs * 1 ≤ m.natAbs * a.natAbs := Nat.mul_le_mul_left _ (by omega)
  rw [Int.natAbs_mul] at h1
  omega
section
variable {base : Heap} {K : PySem.W.Frag} {mg : Str → Option Value} {P : Program} {w : World}
structure RedAt (H : Hp) (p f o1 o2 : Addr) (a b c x y z w : Int) : Prop where
  hp : H p = some (.tup [.ref f, .ref o1, .ref o2])
  hf : H f = some (.tup [.int a, .int b, .int c])
  h1 : H o1 = some (.tup [.int x, .int y])
  h2 : H o2 = some (.tup [.int z, .int w])
structure RedOf (A B C a b c x y z w : Int) : Prop where
  red : IsRed a b c
  frm : IsForm a b c
  uni : Uni x y z w
  led : Led A B C x y z w a b c
  bx : x.natAbs < 2 ^ 300
  bY : y.natAbs < 2 ^ 300
  bz : z.natAbs < 2 ^ 300
  bw : w.natAbs < 2 ^ 300
  ba : a.natAbs < 2 ^ 300
  bb : b.natAbs < 2 ^ 300
  bc : c.natAbs < 2 ^ 300
theorem RedOf.feq {A B C a b c x y z w : Int} (h : RedOf A B C a b c x y z w) : FEq A B C a b c := ⟨x, y, z, w, h.uni, h.led⟩
def spReduced (K : PySem.W.Frag) : Sp := fun vs H Q _ => ∃ (t : Addr) (A B C : Int), vs = [.ref t] ∧ SqT K H t [.int A, .int B, .int C] ∧ IsForm A B C ∧ A.natAbs < 2 ^ 300 ∧ B.natAbs < 2 ^ 300 ∧ C.natAbs < 2 ^ 300 ∧
  ∀ p f o1 o2 a b c x y z w H', H p = none → Same H H' → RedAt H' p f o1 o2 a b c x y z w → RedOf A B C a b c x y z w → Q (.ref p) H'
structure WRed (t : Addr) (A B C : Int) (H : Hp) (m : Nat) (σ : L2.St) (H' : Hp) (a b c x y z w : Int) (o1 o2 : Addr) (y6 : Option V) : Prop where
  st : σ = [some (.ref t), some (.int a), some (.int b), some (.int c), some (.ref o1), some (.ref o2), y6]
  sm : Same H H'
  h1 : H' o1 = some (.tup [.int x, .int y])
  h2 : H' o2 = some (.tup [.int z, .int w])
  uni : Uni x y z w
  led : Led A B C x y z w a b c
  ba : a.natAbs < 2 ^ 300
  bb : b.natAbs < 2 ^ 300
  bc : c.natAbs < 2 ^ 300
  m : m = a.toNat
theorem ok_reduced (T : Txt K mg) : FnOk P w K mg base CX0 2 T.f_reduced T.d_reduced ["form"] (spReduced K) := by
  refine T.F_reduced.ok sc_reduced (fun vs H Q E h => ?_) (fun cdv A outer s H vs Q E hr h => ?_)
  · obtain ⟨t, A, B, C, rfl, _⟩ := h
    rfl
  · obtain ⟨t, A, B, C, rfl, hT, F, bA, bB, bC, q⟩ := h
    refine ⟨_, (pss_cons (ps_asg (pv 0) (pg_tup (by rfl) (pgs_cons (pg_name (i := 1) sc_reduced.nd rfl (Or.inl rfl)) (pgs_cons (pg_name (i := 2) sc_reduced.nd rfl (Or.inl rfl)) (pgs_cons (pg_name (i := 3) sc_reduced.nd rfl (Or.inl rfl)) pgs_nil)))))
      (pss_cons (ps_if (PW.pt (pw_or (pt_cmpR op_le (pv 1) pe_int (nomark _)) (pw_or1 (pt_cmpR op_le (pe_op op_mulW (pv 1) (pv 3)) (pe_op op_mulW (pv 2) (pv 2)) (nomark _))))) (pss_one ps_dead) pss_nil)
      (pss_cons (ps_asg (pe_tup (pa_cons (pe_tup (pa_cons pe_int (pa_cons pe_int pa_nil))) (pa_cons (pe_tup (pa_cons pe_int (pa_cons pe_int pa_nil))) pa_nil))) (pg_tup (by rfl) (pgs_cons (pg_name (i := 4) sc_reduced.nd rfl (Or.inl rfl)) (pgs_cons (pg_name (i := 5) sc_reduced.nd rfl (Or.inl rfl)) pgs_nil))))
      (pss_cons (ps_while PassesOwn.never (pt_val pe_bl) (pss_cons (ps_set (i := 6) sc_reduced.nd rfl (Or.inl rfl) (pe_op op_fdivW (pe_op op_add (pe_op op_mul pe_int (pv 2)) (pv 1)) (pe_op op_mul pe_int (pv 1))))
      (pss_cons (ps_par3 (i := 2) (j := 3) (l := 5) (by rfl) sc_reduced.nd rfl rfl rfl (by decide) (by decide) (by decide) rfl rfl rfl (pa_cons (pe_op op_sub (pv 2) (pe_op op_mulW (pv 6) (pv 1))) (pa_cons (pe_op op_sub (pv 3) (pe_op op_mulW (pv 6) (pe_op op_sub (pe_op op_mul pe_int (pv 2)) (pe_op op_mulW (pv 6) (pv 1))))) (pa_cons (pe_callR (ok_added T) (hr.mono (by decide)) (by rfl) T.g_added T.F_added.kp pass0 (pa_cons (pv 5) (pa_cons (pe_call (ok_scaled T) (hr.mono (by decide)) (by rfl) T.g_scaled T.F_scaled.kp T.b_scaled .nil pass0 (pa_cons (pv 4) (pa_cons (pe_un un_neg (pv 6)) pa_nil))) pa_nil))) pa_nil))) (by rfl))
      (pss_cons (ps_if (pt_cmpR op_le (pv 1) (pv 3) (nomark _)) (pss_one ps_break) pss_nil)
      (pss_one (ps_asg (pe_tup (pa_cons (pv 3) (pa_cons (pv 1) (pa_cons (pv 5) (pa_cons (pv 4) pa_nil))))) (pg_tup (by rfl) (pgs_cons (pg_name (i := 1) sc_reduced.nd rfl (Or.inl rfl)) (pgs_cons (pg_name (i := 3) sc_reduced.nd rfl (Or.inl rfl)) (pgs_cons (pg_name (i := 4) sc_reduced.nd rfl (Or.inl rfl)) (pgs_cons (pg_name (i := 5) sc_reduced.nd rfl (Or.inl rfl)) pgs_nil)))))))))))
      (pss_cons (ps_if (pt_cmpR op_lt (pv 2) pe_int (nomark _)) (pss_one (ps_ret (pe_tup (pa_cons (pe_tup (pa_cons (pv 1) (pa_cons (pe_un un_neg (pv 2)) (pa_cons (pv 3) pa_nil)))) (pa_cons (pv 4) (pa_cons (pe_call (ok_scaled T) (hr.mono (by decide)) (by rfl) T.g_scaled T.F_scaled.kp T.b_scaled .nil pass0 (pa_cons (pv 5) (pa_cons (pe_un un_neg pe_int) pa_nil))) pa_nil)))))) pss_nil)
      (pss_one (ps_ret (pe_tup (pa_cons (pe_tup (pa_cons (pv 1) (pa_cons (pv 2) (pa_cons (pv 3) pa_nil)))) (pa_cons (pv 4) (pa_cons (pv 5) pa_nil))))))))))), ?_⟩
    refine ⟨_, rfl, t, _, rfl, hT, rfl, .int A, _, rfl, .int B, _, rfl, .int C, _, rfl, rfl, ?_⟩
    refine ⟨_, rfl, A, 0, rfl, rfl, _, rfl, ite2 (fun e => ?_) (fun _ => ?_)⟩
    · exact absurd (of_decide_eq_true e) (by have := F.1; omega)
    refine ⟨_, rfl, _, rfl, A, C, rfl, rfl, wide_mul bA bC (by decide) (by decide) (by decide), _, rfl, _, rfl, B, B, rfl, rfl, wide_mul bB bB (by decide) (by decide) (by decide), _, _, rfl, rfl, _, rfl, ite2 (fun e => ?_) (fun _ => ?_)⟩
    · exact absurd (of_decide_eq_true e) (by have := F.2; omega)
    refine ⟨by show 2 ≤ sizeLine; decide, fun p1 n1 => ⟨by show 2 ≤ sizeLine; decide, fun p2 n2 => ⟨by show 2 ≤ sizeLine; decide, fun p3 n3 => ⟨p3, _, rfl, SqT.of upd_same, rfl, .ref p1, _, rfl, .ref p2, _, rfl, rfl, ?_⟩⟩⟩⟩
    have e1 := same_new (o := .tup [.int 1, .int 0]) n1
    have e2 := same_new (o := .tup [.int 0, .int 1]) n2
    have e3 := same_new (o := .tup [.ref p1, .ref p2]) n3
    refine ⟨fun m σ H' => ∃ a b c x y z w o1 o2 y6, WRed t A B C H m σ H' a b c x y z w o1 o2 y6, ⟨_, A, B, C, 1, 0, 0, 1, p1, p2, none, rfl, e1.trans (e2.trans e3), (e2.trans e3) _ _ upd_same, e3 _ _ upd_same, .inl (by decide), ⟨by unfold fval; grind, by unfold fmid; grind, by unfold fval; grind⟩, bA, bB, bC, rfl⟩, ?_⟩
    rintro m σ H1 ⟨a, b, c, x, y, z, w, o1, o2, y6, rfl, sm, h1, h2, uni, led, ba, bb, bc, rfl⟩
    have F1 := led_form F uni led
    have a0 := F1.1
    have tb := turn_b (b := b) a0
    have mb := many_bd a0 ba bb
    have tc := turn_c (c := c) a0 tb.1 tb.2
    have l2 := turn_led (m := (2 * b + a) / (2 * a)) led
    have u2 := turn_uni (m := (2 * b + a) / (2 * a)) uni
    have F2 := led_form F u2 l2
    have bxy := form_bd (x := x) (y := y) F bA bC (by rw [← led.1]; exact ba) (by rw [← led.1]; omega)
    refine ⟨true, rfl, iteT ⟨fun σ' H' => ∃ m', m' < a.toNat ∧ ∃ a b c x y z w o1 o2 y6, WRed t A B C H m' σ' H' a b c x y z w o1 o2 y6, fun _ _ k => k, ?_⟩⟩
    refine ⟨_, rfl, 2, b, rfl, rfl, .inl ⟨by decide, by decide⟩, _, rfl, _, a, rfl, rfl, _, rfl, 2, a, rfl, rfl, .inl ⟨by decide, by decide⟩, _, _, rfl, rfl, wide_div (show 0 < 2 * a by omega) (rb_2 ba) (by decide) (by decide), ?_⟩
    dsimp only
    generalize (2 * b + a) / (2 * a) = k at tb mb tc l2 u2 F2 ⊢
    have bka : (k * a).natAbs < 2 ^ (302 + 300) := wide_lt mb ba
    refine ⟨_, rfl, _, rfl, _, rfl, k, a, rfl, rfl, wide_mul mb ba (by decide) (by decide) (by decide), b, _, rfl, rfl, ?_⟩
    refine ⟨_, rfl, _, rfl, _, rfl, 2, b, rfl, rfl, .inl ⟨by decide, by decide⟩, _, rfl, _, rfl, k, a, rfl, rfl, wide_mul mb ba (by decide) (by decide) (by decide), _, _, rfl, rfl, k, _, rfl, rfl, wide_mul mb (rb_sub (rb_up (rb_2 bb) (show 300 + 1 ≤ 302 + 300 by decide)) bka) (by decide) (by decide) (by decide), c, _, rfl, rfl, ?_⟩
    refine ⟨_, rfl, _, rfl, _, rfl, k, rfl, .ref o1, x, y, -k, rfl, ⟨o1, rfl, SqT.of h1⟩, rb_up bxy.1 (by decide), rb_up bxy.2 (by decide), by rw [Int.natAbs_neg]; exact rb_up mb (by decide), fun p4 H2 n4 e4 f4 => ?_⟩
    refine ⟨_, .cons ⟨o2, rfl, SqT.of (e4 _ _ h2)⟩ (.cons ⟨p4, rfl, SqT.of f4⟩ .nil), by simp, fun p5 H3 n5 e5 f5 => ?_⟩
    have u5 : Gy.s1 [(z, w), (x * -k, y * -k)] = z + x * -k := by simp [Gy.s1]
    have v5 : Gy.s2 [(z, w), (x * -k, y * -k)] = w + y * -k := by simp [Gy.s2]
    rw [u5, v5] at f5
    refine ⟨_, _, _, rfl, ?_⟩
    dsimp only
    have c0 := form_c F2
    have bc2 : (c - k * (2 * b - k * a)).natAbs < 2 ^ 300 := rb_le (by omega) tc bc
    have bb2 : (b - k * a).natAbs < 2 ^ 300 := by omega
    have bzw := form_bd (x := z + x * -k) (y := w + y * -k) F bA bC (by rw [← l2.2.2]; exact bc2) (by rw [← l2.2.2]; omega)
    have sm3 := sm.trans (e4.trans e5)
    have g1 := (e4.trans e5) _ _ h1
    generalize b - k * a = b' at *
    generalize c - k * (2 * b - k * a) = c' at *
    generalize z + x * -k = z' at *
    generalize w + y * -k = w' at *
    refine ⟨_, rfl, _, rfl, a, c', rfl, rfl, _, rfl, ite2 (fun e => ?_) (fun e => ?_)⟩
    · have hac : a ≤ c' := of_decide_eq_true e
      refine ⟨_, rfl, b', 0, rfl, rfl, _, rfl, ite2 (fun e6 => ?_) (fun e6 => ?_)⟩
      · have hb : b' < 0 := of_decide_eq_true e6
        refine ⟨_, rfl, _, rfl, b', rfl, _, rfl, by show 3 ≤ sizeLine; decide, fun f nf => ?_⟩
        have ef := same_new (o := .tup [.int a, .int (-b'), .int c']) nf
        refine ⟨_, rfl, _, rfl, 1, rfl, .ref p5, z', w', -1, rfl, ⟨p5, rfl, SqT.of (ef _ _ f5)⟩, rb_up bzw.1 (by decide), rb_up bzw.2 (by decide), rb_up (show (-1 : Int).natAbs < 2 ^ 10 by decide) (by decide), fun p6 H4 n6 e6' f6 => ?_⟩
        refine ⟨by show 3 ≤ sizeLine; decide, fun p np => ?_⟩
        have ep := same_new (o := .tup [.ref f, .ref o1, .ref p6]) np
        refine q p f o1 p6 a (-b') c' x y (z' * -1) (w' * -1) _ ((sm3.trans (ef.trans e6')).free np) (sm3.trans (ef.trans (e6'.trans ep))) ⟨upd_same, (e6'.trans ep) _ _ upd_same, (ef.trans (e6'.trans ep)) _ _ g1, ep _ _ f6⟩ ⟨⟨by omega, by omega, hac⟩, led_form F (neg_uni u2) (neg_led l2), neg_uni u2, neg_led l2, bxy.1, bxy.2, by omega, by omega, ba, by omega, bc2⟩
      · have hb : ¬ b' < 0 := fun z => e6 (decide_eq_true z)
        refine ⟨_, rfl, _, rfl, _, rfl, by show 3 ≤ sizeLine; decide, fun f nf => ?_⟩
        have ef := same_new (o := .tup [.int a, .int b', .int c']) nf
        refine ⟨_, rfl, _, rfl, by show 3 ≤ sizeLine; decide, fun p np => ?_⟩
        have ep := same_new (o := .tup [.ref f, .ref o1, .ref p5]) np
        refine q p f o1 p5 a b' c' x y z' w' _ ((sm3.trans ef).free np) (sm3.trans (ef.trans ep)) ⟨upd_same, ep _ _ upd_same, (ef.trans ep) _ _ g1, (ef.trans ep) _ _ f5⟩ ⟨⟨by omega, by omega, hac⟩, F2, u2, l2, bxy.1, bxy.2, bzw.1, bzw.2, ba, bb2, bc2⟩
    · have hac : ¬ a ≤ c' := fun z => e (decide_eq_true z)
      refine ⟨_, rfl, _, rfl, _, rfl, _, rfl, by show 4 ≤ sizeLine; decide, fun p np => ?_⟩
      have ep := same_new (o := .tup [.int c', .int a, .ref p5, .ref o1]) np
      refine ⟨p, _, rfl, SqT.of upd_same, rfl, .int c', _, rfl, .int a, _, rfl, .ref p5, _, rfl, .ref o1, _, rfl, rfl, ?_⟩
      exact ⟨c'.toNat, by omega, c', b', a, z', w', x, y, p5, o1, _, rfl, sm3.trans ep, ep _ _ f5, ep _ _ g1, swap_uni u2, swap_led l2, bc2, bb2, ba, rfl⟩
end
/-! ### the law's forms -/
theorem ab_mul {x y : Int} {a b : Nat} (h1 : x.natAbs ≤ a) (h2 : y.natAbs ≤ b) : (x * y).natAbs ≤ a * b := by
  rw [Int.natAbs_mul]
  exact Nat.mul_le_mul h1 h2
theorem ab_lt {x : Int} {a n : Nat} (h1 : x.natAbs ≤ a) (h : a < 2 ^ n) : x.natAbs < 2 ^ n := Nat.lt_of_le_of_lt h1 h
section
variable {base : Heap} {K : PySem.W.Frag} {mg : Str → Option Value} {P : Program} {w : World}
def spAForm : Sp := fun vs H Q _ => ∃ b sb : Addr, vs = [.ref b] ∧ Bag H b sb ∧ ∀ p x y z H', IsForm x y z → x.natAbs < 2 ^ 60 → y.natAbs < 2 ^ 60 → z.natAbs < 2 ^ 60 → H p = none → H' p = some (.tup [.int x, .int y, .int z]) → Bag H' b sb → Keep b H H' → Q (.ref p) H'
theorem fr_keep {b : Addr} {H H' : Hp} {p : Addr} (k : Keep b H H') (n : p ≠ b) (h : H' p = none) : H p = none := by
  cases e : H p with
  | none => rfl
  | some o => exact absurd (k p o n e) (by rw [h]; simp)
theorem ok_a_form (T : Txt K mg) : FnOk P w K mg base CX0 4 T.f_a_form T.d_a_form ["_law_bag"] spAForm := by
  refine T.F_a_form.ok sc_a_form (fun vs H Q E h => ?_) (fun cdv A outer s H vs Q E hr h => ?_)
  · obtain ⟨b, sb, rfl, _⟩ := h
    rfl
  · obtain ⟨b, sb, rfl, B, q⟩ := h
    refine ⟨_, (pss_cons (ps_par (i := 1) (j := 2) (by rfl) sc_a_form.nd rfl rfl (by decide) rfl rfl (pa_cons (pe_call (ok_of T) (hr.mono (by decide)) (by rfl) T.g_of T.F_of.kp T.b_of .nil pass0 (pa_cons (pv 0) (pa_cons (pe_lst (pa_cons (pe_call (ok_any_pair T) (hr.mono (by decide)) (by rfl) T.g_any_pair T.F_any_pair.kp T.b_any_pair .nil pass0 (pa_cons (pv 0) pa_nil)) (pa_cons (pe_tup (pa_cons pe_int (pa_cons pe_int pa_nil))) pa_nil))) pa_nil))) (pa_cons (pe_call (ok_any_pair T) (hr.mono (by decide)) (by rfl) T.g_any_pair T.F_any_pair.kp T.b_any_pair .nil pass0 (pa_cons (pv 0) pa_nil)) pa_nil)) (by rfl))
      (pss_cons (ps_par (i := 3) (j := 4) (by rfl) sc_a_form.nd rfl rfl (by decide) rfl rfl (pa_cons (pe_op op_add pe_int (pe_call (ok_pull T) (hr.mono (by decide)) (by rfl) T.g_pull T.F_pull.kp T.b_pull .nil pass0 (pa_cons (pv 0) (pa_cons pe_int pa_nil)))) (pa_cons (pe_op op_add pe_int (pe_call (ok_pull T) (hr.mono (by decide)) (by rfl) T.g_pull T.F_pull.kp T.b_pull .nil pass0 (pa_cons (pv 0) (pa_cons pe_int pa_nil)))) pa_nil)) (by rfl))
      (pss_cons (ps_par3 (i := 5) (j := 6) (l := 7) (by rfl) sc_a_form.nd rfl rfl rfl (by decide) (by decide) (by decide) rfl rfl rfl (pa_cons (pe_op op_mulW (pe_op op_mulW (pv 3) (pe_ix ix_tup (pv 1) pe_int (fun _ _ => rfl))) (pe_ix ix_tup (pv 1) pe_int (fun _ _ => rfl))) (pa_cons (pe_op op_mulW (pe_op op_mulW (pv 3) (pe_ix ix_tup (pv 1) pe_int (fun _ _ => rfl))) (pe_ix ix_tup (pv 1) pe_int (fun _ _ => rfl))) (pa_cons (pe_op op_mulW (pe_op op_mulW (pv 3) (pe_ix ix_tup (pv 1) pe_int (fun _ _ => rfl))) (pe_ix ix_tup (pv 1) pe_int (fun _ _ => rfl))) pa_nil))) (by rfl))
      (pss_cons (ps_par3 (i := 5) (j := 6) (l := 7) (by rfl) sc_a_form.nd rfl rfl rfl (by decide) (by decide) (by decide) rfl rfl rfl (pa_cons (pe_op op_add (pv 5) (pe_op op_mulW (pe_op op_mulW (pv 4) (pe_ix ix_tup (pv 2) pe_int (fun _ _ => rfl))) (pe_ix ix_tup (pv 2) pe_int (fun _ _ => rfl)))) (pa_cons (pe_op op_add (pv 6) (pe_op op_mulW (pe_op op_mulW (pv 4) (pe_ix ix_tup (pv 2) pe_int (fun _ _ => rfl))) (pe_ix ix_tup (pv 2) pe_int (fun _ _ => rfl)))) (pa_cons (pe_op op_add (pv 7) (pe_op op_mulW (pe_op op_mulW (pv 4) (pe_ix ix_tup (pv 2) pe_int (fun _ _ => rfl))) (pe_ix ix_tup (pv 2) pe_int (fun _ _ => rfl)))) pa_nil))) (by rfl))
      (pss_one (ps_ret (pe_ifExp (PW.pt (pw_and (pt_cmpR op_gt (pv 5) pe_int (nomark _)) (pw_and1 (pt_cmpR op_gt (pe_op op_mulW (pv 5) (pv 7)) (pe_op op_mulW (pv 6) (pv 6)) (nomark _))))) (pe_tup (pa_cons (pv 5) (pa_cons (pv 6) (pa_cons (pv 7) pa_nil)))) (pe_tup (pa_cons (pe_op op_add pe_int (pe_call (ok_pull T) (hr.mono (by decide)) (by rfl) T.g_pull T.F_pull.kp T.b_pull .nil pass0 (pa_cons (pv 0) (pa_cons pe_int pa_nil)))) (pa_cons pe_int (pa_cons (pe_op op_add pe_int (pe_call (ok_pull T) (hr.mono (by decide)) (by rfl) T.g_pull T.F_pull.kp T.b_pull .nil pass0 (pa_cons (pv 0) (pa_cons pe_int pa_nil)))) pa_nil))))))))))), ?_⟩
    -- x
    refine ⟨_, rfl, _, rfl, b, sb, rfl, B, fun x1 y1 p1 H1 a1 a2 a3 a4 n1 h1 B1 k1 => ?_⟩
    refine ⟨by show 2 ≤ sizeLine; decide, fun p2 n2 => ⟨by show 2 ≤ sizeLine; decide, fun l nl => ?_⟩⟩
    have B2 := (B1.new (o := .tup [.int 1, .int 0]) n2)
    have B3 := B2.new (o := .lst [.ref p1, .ref p2]) nl
    refine ⟨b, sb, l, _, rfl, B3, upd_same, B2.ne nl, by simp, by simp, fun i v H3 hv B4 k4 => ?_⟩
    have kk : Keep b H1 H3 := (keep_new n2).trans ((keep_new nl).trans k4)
    obtain ⟨px, x, x', rfl, hx, bx, bx'⟩ : ∃ (px : Addr) (x x' : Int), v = .ref px ∧ H3 px = some (.tup [.int x, .int x']) ∧ x.natAbs ≤ 10 ^ 6 ∧ x'.natAbs ≤ 10 ^ 6 := by
      match i, hv with
      | 0, hv => cases hv; exact ⟨p1, x1, y1, rfl, kk _ _ (B.ne n1) h1, by omega, by omega⟩
      | 1, hv => cases hv; exact ⟨p2, 1, 0, rfl, ((keep_new nl).trans k4) _ _ (B1.ne n2) upd_same, by decide, by decide⟩
      | n + 2, hv => simp at hv
    -- y
    refine ⟨_, rfl, b, sb, rfl, B4, fun y y' p3 H4 c1 c2 c3 c4 n3 h3 B5 k5 => ⟨_, _, rfl, ?_⟩⟩
    have hx4 := k5 _ _ (B4.tup hx) hx
    have bY : y.natAbs ≤ 10 ^ 6 := by omega
    have bY' : y'.natAbs ≤ 10 ^ 6 := by omega
    -- size, more
    refine ⟨_, rfl, b, sb, 9, rfl, B5, by decide, by decide, fun s1 H5 s2 s3 B6 k6 => ⟨1, s1, rfl, rfl, ?_⟩⟩
    refine ⟨_, rfl, b, sb, 9, rfl, B6, by decide, by decide, fun m1 H6 m2 m3 B7 k7 => ⟨1, m1, rfl, rfl, _, _, rfl, ?_⟩⟩
    have k67 := k6.trans k7
    have hx6 := k67 _ _ (B5.tup hx4) hx4
    have hy6 := k67 _ _ (B5.tup h3) h3
    have bS : (1 + s1).natAbs ≤ 9 := by omega
    have bM : (1 + m1).natAbs ≤ 9 := by omega
    dsimp only
    generalize 1 + s1 = s at bS ⊢
    generalize 1 + m1 = m at bM ⊢
    have w1 := ab_mul bS bx
    have w2 := ab_mul bS bx'
    have w3 := ab_mul w1 bx
    have w4 := ab_mul w1 bx'
    have w5 := ab_mul w2 bx'
    have v1 := ab_mul bM bY
    have v2 := ab_mul bM bY'
    have v3 := ab_mul v1 bY
    have v4 := ab_mul v1 bY'
    have v5 := ab_mul v2 bY'
    refine ⟨_, rfl, _, rfl, px, _, 0, .int x, rfl, rfl, SqT.of hx6, atI_nat (j := 0) rfl, s, x, rfl, rfl, wide_mul (ab_lt (n := 64) bS (by decide)) (ab_lt (n := 64) bx (by decide)) (by decide) (by decide) (by decide), _, rfl, px, _, 0, .int x, rfl, rfl, SqT.of hx6, atI_nat (j := 0) rfl, _, x, rfl, rfl, wide_mul (ab_lt (n := 64) w1 (by decide)) (ab_lt (n := 64) bx (by decide)) (by decide) (by decide) (by decide), ?_⟩
    refine ⟨_, rfl, _, rfl, px, _, 0, .int x, rfl, rfl, SqT.of hx6, atI_nat (j := 0) rfl, s, x, rfl, rfl, wide_mul (ab_lt (n := 64) bS (by decide)) (ab_lt (n := 64) bx (by decide)) (by decide) (by decide) (by decide), _, rfl, px, _, 1, .int x', rfl, rfl, SqT.of hx6, atI_nat (j := 1) rfl, _, x', rfl, rfl, wide_mul (ab_lt (n := 64) w1 (by decide)) (ab_lt (n := 64) bx' (by decide)) (by decide) (by decide) (by decide), ?_⟩
    refine ⟨_, rfl, _, rfl, px, _, 1, .int x', rfl, rfl, SqT.of hx6, atI_nat (j := 1) rfl, s, x', rfl, rfl, wide_mul (ab_lt (n := 64) bS (by decide)) (ab_lt (n := 64) bx' (by decide)) (by decide) (by decide) (by decide), _, rfl, px, _, 1, .int x', rfl, rfl, SqT.of hx6, atI_nat (j := 1) rfl, _, x', rfl, rfl, wide_mul (ab_lt (n := 64) w2 (by decide)) (ab_lt (n := 64) bx' (by decide)) (by decide) (by decide) (by decide), _, _, _, rfl, ?_⟩
    refine ⟨_, rfl, _, rfl, _, rfl, p3, _, 0, .int y, rfl, rfl, SqT.of hy6, atI_nat (j := 0) rfl, m, y, rfl, rfl, wide_mul (ab_lt (n := 64) bM (by decide)) (ab_lt (n := 64) bY (by decide)) (by decide) (by decide) (by decide), _, rfl, p3, _, 0, .int y, rfl, rfl, SqT.of hy6, atI_nat (j := 0) rfl, _, y, rfl, rfl, wide_mul (ab_lt (n := 64) v1 (by decide)) (ab_lt (n := 64) bY (by decide)) (by decide) (by decide) (by decide), _, _, rfl, rfl, ?_⟩
    refine ⟨_, rfl, _, rfl, _, rfl, p3, _, 0, .int y, rfl, rfl, SqT.of hy6, atI_nat (j := 0) rfl, m, y, rfl, rfl, wide_mul (ab_lt (n := 64) bM (by decide)) (ab_lt (n := 64) bY (by decide)) (by decide) (by decide) (by decide), _, rfl, p3, _, 1, .int y', rfl, rfl, SqT.of hy6, atI_nat (j := 1) rfl, _, y', rfl, rfl, wide_mul (ab_lt (n := 64) v1 (by decide)) (ab_lt (n := 64) bY' (by decide)) (by decide) (by decide) (by decide), _, _, rfl, rfl, ?_⟩
    refine ⟨_, rfl, _, rfl, _, rfl, p3, _, 1, .int y', rfl, rfl, SqT.of hy6, atI_nat (j := 1) rfl, m, y', rfl, rfl, wide_mul (ab_lt (n := 64) bM (by decide)) (ab_lt (n := 64) bY' (by decide)) (by decide) (by decide) (by decide), _, rfl, p3, _, 1, .int y', rfl, rfl, SqT.of hy6, atI_nat (j := 1) rfl, _, y', rfl, rfl, wide_mul (ab_lt (n := 64) v2 (by decide)) (ab_lt (n := 64) bY' (by decide)) (by decide) (by decide) (by decide), _, _, rfl, rfl, _, _, _, rfl, ?_⟩
    have z1 : (s * x * x + m * y * y).natAbs < 2 ^ 60 := by omega
    have z2 : (s * x * x' + m * y * y').natAbs < 2 ^ 60 := by omega
    have z3 : (s * x' * x' + m * y' * y').natAbs < 2 ^ 60 := by omega
    dsimp only
    generalize s * x * x + m * y * y = f1 at z1 ⊢
    generalize s * x * x' + m * y * y' = f2 at z2 ⊢
    generalize s * x' * x' + m * y' * y' = f3 at z3 ⊢
    have kk6 : Keep b H H6 := k1.trans (kk.trans (k5.trans k67))
    have other : ∀ {Q' : V → Hp → Prop}, (∀ v H', (∃ p x y z, v = .ref p ∧ IsForm x y z ∧ x.natAbs < 2 ^ 60 ∧ y.natAbs < 2 ^ 60 ∧ z.natAbs < 2 ^ 60 ∧ H p = none ∧ H' p = some (.tup [.int x, .int y, .int z]) ∧ Bag H' b sb ∧ Keep b H H') → Q' v H') →
      ∀ (g1 g2 : Int) (H8 : Hp) (B9 : Bag H8 b sb) (k8 : Keep b H6 H8) (a1 : 0 ≤ g1) (a2 : g1 < 99) (a3 : 0 ≤ g2) (a4 : g2 < 99) (p : Addr) (np : H8 p = none), Q' (.ref p) (upd H8 p (.tup [.int (1 + g1), .int 0, .int (1 + g2)])) := by
      intro Q' hq g1 g2 H8 B9 k8 a1 a2 a3 a4 p np
      refine hq _ _ ⟨p, 1 + g1, 0, 1 + g2, rfl, ⟨by omega, ?_⟩, by omega, by decide, by omega, fr_keep (kk6.trans k8) (B9.ne np) np, upd_same, B9.new np, (kk6.trans k8).trans (keep_new np)⟩
      have := Int.mul_pos (show 0 < 1 + g1 by omega) (show 0 < 1 + g2 by omega)
      omega
    have fin : ∀ v H', (∃ p x y z, v = .ref p ∧ IsForm x y z ∧ x.natAbs < 2 ^ 60 ∧ y.natAbs < 2 ^ 60 ∧ z.natAbs < 2 ^ 60 ∧ H p = none ∧ H' p = some (.tup [.int x, .int y, .int z]) ∧ Bag H' b sb ∧ Keep b H H') → Q v H' := by
      rintro v H' ⟨p, x, y, z, rfl, f, b1, b2, b3, n, h, B, k⟩
      exact q p x y z H' f b1 b2 b3 n h B k
    refine ⟨_, rfl, f1, 0, rfl, rfl, _, rfl, ite2 (fun e => ?_) (fun _ => ?_)⟩
    · refine ⟨_, rfl, _, rfl, f1, f3, rfl, rfl, wide_mul z1 z3 (by decide) (by decide) (by decide), _, rfl, _, rfl, f2, f2, rfl, rfl, wide_mul z2 z2 (by decide) (by decide) (by decide), _, _, rfl, rfl, _, rfl, ite2 (fun e2 => ?_) (fun _ => ?_)⟩
      · refine ⟨_, rfl, _, rfl, _, rfl, by show 3 ≤ sizeLine; decide, fun p np => ?_⟩
        exact fin _ _ ⟨p, f1, f2, f3, rfl, ⟨of_decide_eq_true e, of_decide_eq_true e2⟩, z1, z2, z3, fr_keep kk6 (B7.ne np) np, upd_same, B7.new np, kk6.trans (keep_new np)⟩
      · refine ⟨_, rfl, b, sb, 99, rfl, B7, by decide, by decide, fun g1 H7 g2 g3 B8 k8 => ⟨1, g1, rfl, rfl, ?_⟩⟩
        refine ⟨_, rfl, b, sb, 99, rfl, B8, by decide, by decide, fun g4 H8 g5 g6 B9 k9 => ⟨1, g4, rfl, rfl, by show 3 ≤ sizeLine; decide, fun p np => ?_⟩⟩
        exact other fin g1 g4 H8 B9 (k8.trans k9) g2 g3 g5 g6 p np
    · refine ⟨_, rfl, b, sb, 99, rfl, B7, by decide, by decide, fun g1 H7 g2 g3 B8 k8 => ⟨1, g1, rfl, rfl, ?_⟩⟩
      refine ⟨_, rfl, b, sb, 99, rfl, B8, by decide, by decide, fun g4 H8 g5 g6 B9 k9 => ⟨1, g4, rfl, rfl, by show 3 ≤ sizeLine; decide, fun p np => ?_⟩⟩
      exact other fin g1 g4 H8 B9 (k8.trans k9) g2 g3 g5 g6 p np
end
/-! ### values of forms -/
theorem fb_a {n : Nat} {x y : Int} (h1 : x.natAbs < 2 ^ n) (h2 : y.natAbs < 2 ^ n) : (x + y).natAbs < 2 ^ (n + 1) := by
  rw [Nat.pow_succ]
  omega
theorem fval_bd {a b c x y : Int} (ha : a.natAbs < 2 ^ 64) (hb : b.natAbs < 2 ^ 64) (hc : c.natAbs < 2 ^ 64) (hx : x.natAbs < 2 ^ 64) (hy : y.natAbs < 2 ^ 64) : (fval a b c x y).natAbs < 2 ^ 195 :=
  fb_a (n := 194) (fb_a (n := 193) (rb_up (wide_lt (wide_lt ha hx) hx) (by decide)) (rb_up (wide_lt (wide_lt (rb_2 hb) hx) hy) (by decide))) (rb_up (wide_lt (wide_lt hc hy) hy) (by decide))
theorem fmid_bd {a b c x y z w : Int} (ha : a.natAbs < 2 ^ 64) (hb : b.natAbs < 2 ^ 64) (hc : c.natAbs < 2 ^ 64) (hx : x.natAbs < 2 ^ 64) (hy : y.natAbs < 2 ^ 64) (hz : z.natAbs < 2 ^ 64) (hw : w.natAbs < 2 ^ 64) : (fmid a b c x y z w).natAbs < 2 ^ 195 :=
  fb_a (n := 194) (fb_a (n := 193) (rb_up (wide_lt (wide_lt ha hx) hz) (by decide)) (rb_up (wide_lt hb (fb_a (wide_lt hx hw) (wide_lt hy hz))) (by decide))) (rb_up (wide_lt (wide_lt hc hy) hw) (by decide))
section
variable {base : Heap} {K : PySem.W.Frag} {mg : Str → Option Value} {P : Program} {w : World}
def spValueAt : Sp := fun vs H Q _ => ∃ (t u : Addr) (a b c x y : Int), vs = [.ref t, .ref u] ∧ H t = some (.tup [.int a, .int b, .int c]) ∧ H u = some (.tup [.int x, .int y]) ∧ a.natAbs < 2 ^ 300 ∧ b.natAbs < 2 ^ 300 ∧ c.natAbs < 2 ^ 300 ∧ x.natAbs < 2 ^ 300 ∧ y.natAbs < 2 ^ 300 ∧ Q (.int (fval a b c x y)) H
theorem ok_value_at (T : Txt K mg) : FnOk P w K mg base CX0 1 T.f_value_at T.d_value_at ["_law_form", "_law_pair"] spValueAt := by
  refine T.F_value_at.ok sc_value_at (fun vs H Q E h => ?_) (fun cdv A outer s H vs Q E hr h => ?_)
  · obtain ⟨t, u, a, b, c, x, y, rfl, _⟩ := h
    rfl
  · obtain ⟨t, u, a, b, c, x, y, rfl, ht, hu, ba, bb, bc, bx, bY, q⟩ := h
    refine ⟨_, (pss_cons (ps_asg (pv 0) (pg_tup (by rfl) (pgs_cons (pg_name (i := 2) sc_value_at.nd rfl (Or.inl rfl)) (pgs_cons (pg_name (i := 3) sc_value_at.nd rfl (Or.inl rfl)) (pgs_cons (pg_name (i := 4) sc_value_at.nd rfl (Or.inl rfl)) pgs_nil)))))
      (pss_one (ps_ret (pe_op op_add (pe_op op_add (pe_op op_mulW (pe_op op_mulW (pv 2) (pe_ix ix_tup (pv 1) pe_int (fun _ _ => rfl))) (pe_ix ix_tup (pv 1) pe_int (fun _ _ => rfl))) (pe_op op_mulW (pe_op op_mulW (pe_op op_mul pe_int (pv 3)) (pe_ix ix_tup (pv 1) pe_int (fun _ _ => rfl))) (pe_ix ix_tup (pv 1) pe_int (fun _ _ => rfl)))) (pe_op op_mulW (pe_op op_mulW (pv 4) (pe_ix ix_tup (pv 1) pe_int (fun _ _ => rfl))) (pe_ix ix_tup (pv 1) pe_int (fun _ _ => rfl))))))), ?_⟩
    refine ⟨_, rfl, t, _, rfl, SqT.of ht, rfl, .int a, _, rfl, .int b, _, rfl, .int c, _, rfl, rfl, ?_⟩
    refine ⟨_, rfl, _, rfl, u, _, 0, .int x, rfl, rfl, SqT.of hu, atI_nat (j := 0) rfl, a, x, rfl, rfl, wide_mul ba bx (by decide) (by decide) (by decide), _, rfl, u, _, 0, .int x, rfl, rfl, SqT.of hu, atI_nat (j := 0) rfl, _, x, rfl, rfl, wide_mul (wide_lt ba bx) bx (by decide) (by decide) (by decide), ?_⟩
    refine ⟨_, rfl, 2, b, rfl, rfl, .inl ⟨by decide, by decide⟩, _, rfl, u, _, 0, .int x, rfl, rfl, SqT.of hu, atI_nat (j := 0) rfl, _, x, rfl, rfl, wide_mul (rb_2 bb) bx (by decide) (by decide) (by decide), _, rfl, u, _, 1, .int y, rfl, rfl, SqT.of hu, atI_nat (j := 1) rfl, _, y, rfl, rfl, wide_mul (wide_lt (rb_2 bb) bx) bY (by decide) (by decide) (by decide), _, _, rfl, rfl, ?_⟩
    exact ⟨_, rfl, _, rfl, u, _, 1, .int y, rfl, rfl, SqT.of hu, atI_nat (j := 1) rfl, c, y, rfl, rfl, wide_mul bc bY (by decide) (by decide) (by decide), _, rfl, u, _, 1, .int y, rfl, rfl, SqT.of hu, atI_nat (j := 1) rfl, _, y, rfl, rfl, wide_mul (wide_lt bc bY) bY (by decide) (by decide) (by decide), _, _, rfl, rfl, q⟩
def spLed : Sp := fun vs H Q _ => ∃ (t u v : Addr) (a b c x y z w : Int), vs = [.ref t, .ref u, .ref v] ∧ H t = some (.tup [.int a, .int b, .int c]) ∧ H u = some (.tup [.int x, .int y]) ∧ H v = some (.tup [.int z, .int w]) ∧ a.natAbs < 2 ^ 300 ∧ b.natAbs < 2 ^ 300 ∧ c.natAbs < 2 ^ 300 ∧ x.natAbs < 2 ^ 300 ∧ y.natAbs < 2 ^ 300 ∧ z.natAbs < 2 ^ 300 ∧ w.natAbs < 2 ^ 300 ∧
  ∀ p H', H p = none → Same H H' → H' p = some (.tup [.int (fval a b c x y), .int (fmid a b c x y z w), .int (fval a b c z w)]) → Q (.ref p) H'
theorem ok_led (T : Txt K mg) : FnOk P w K mg base CX0 2 T.f_led T.d_led ["_law_form", "_law_x", "_law_y"] spLed := by
  refine T.F_led.ok sc_led (fun vs H Q E h => ?_) (fun cdv A outer s H vs Q E hr h => ?_)
  · obtain ⟨t, u, v, a, b, c, x, y, z, w, rfl, _⟩ := h
    rfl
  · obtain ⟨t, u, v, a, b, c, x, y, z, w, rfl, ht, hu, hv, ba, bb, bc, bx, bY, bz, bw, q⟩ := h
    refine ⟨_, (pss_cons (ps_asg (pv 0) (pg_tup (by rfl) (pgs_cons (pg_name (i := 4) sc_led.nd rfl (Or.inl rfl)) (pgs_cons (pg_name (i := 5) sc_led.nd rfl (Or.inl rfl)) (pgs_cons (pg_name (i := 6) sc_led.nd rfl (Or.inl rfl)) pgs_nil)))))
      (pss_cons (ps_set (i := 3) sc_led.nd rfl (Or.inl rfl) (pe_op op_add (pe_op op_add (pe_op op_mulW (pe_op op_mulW (pv 4) (pe_ix ix_tup (pv 1) pe_int (fun _ _ => rfl))) (pe_ix ix_tup (pv 2) pe_int (fun _ _ => rfl))) (pe_op op_mulW (pv 5) (pe_op op_add (pe_op op_mulW (pe_ix ix_tup (pv 1) pe_int (fun _ _ => rfl)) (pe_ix ix_tup (pv 2) pe_int (fun _ _ => rfl))) (pe_op op_mulW (pe_ix ix_tup (pv 1) pe_int (fun _ _ => rfl)) (pe_ix ix_tup (pv 2) pe_int (fun _ _ => rfl)))))) (pe_op op_mulW (pe_op op_mulW (pv 6) (pe_ix ix_tup (pv 1) pe_int (fun _ _ => rfl))) (pe_ix ix_tup (pv 2) pe_int (fun _ _ => rfl)))))
      (pss_one (ps_ret (pe_tup (pa_cons (pe_call (ok_value_at T) (hr.mono (by decide)) (by rfl) T.g_value_at T.F_value_at.kp T.b_value_at .nil pass0 (pa_cons (pv 0) (pa_cons (pv 1) pa_nil))) (pa_cons (pv 3) (pa_cons (pe_call (ok_value_at T) (hr.mono (by decide)) (by rfl) T.g_value_at T.F_value_at.kp T.b_value_at .nil pass0 (pa_cons (pv 0) (pa_cons (pv 2) pa_nil))) pa_nil)))))))), ?_⟩
    refine ⟨_, rfl, t, _, rfl, SqT.of ht, rfl, .int a, _, rfl, .int b, _, rfl, .int c, _, rfl, rfl, ?_⟩
    refine ⟨_, rfl, _, rfl, u, _, 0, .int x, rfl, rfl, SqT.of hu, atI_nat (j := 0) rfl, a, x, rfl, rfl, wide_mul ba bx (by decide) (by decide) (by decide), _, rfl, v, _, 0, .int z, rfl, rfl, SqT.of hv, atI_nat (j := 0) rfl, _, z, rfl, rfl, wide_mul (wide_lt ba bx) bz (by decide) (by decide) (by decide), ?_⟩
    refine ⟨_, rfl, _, rfl, u, _, 0, .int x, rfl, rfl, SqT.of hu, atI_nat (j := 0) rfl, _, rfl, v, _, 1, .int w, rfl, rfl, SqT.of hv, atI_nat (j := 1) rfl, x, w, rfl, rfl, wide_mul bx bw (by decide) (by decide) (by decide), _, rfl, u, _, 1, .int y, rfl, rfl, SqT.of hu, atI_nat (j := 1) rfl, _, rfl, v, _, 0, .int z, rfl, rfl, SqT.of hv, atI_nat (j := 0) rfl, y, z, rfl, rfl, wide_mul bY bz (by decide) (by decide) (by decide), _, _, rfl, rfl, b, _, rfl, rfl, wide_mul bb (fb_a (wide_lt bx bw) (wide_lt bY bz)) (by decide) (by decide) (by decide), _, _, rfl, rfl, ?_⟩
    refine ⟨_, rfl, _, rfl, u, _, 1, .int y, rfl, rfl, SqT.of hu, atI_nat (j := 1) rfl, c, y, rfl, rfl, wide_mul bc bY (by decide) (by decide) (by decide), _, rfl, v, _, 1, .int w, rfl, rfl, SqT.of hv, atI_nat (j := 1) rfl, _, w, rfl, rfl, wide_mul (wide_lt bc bY) bw (by decide) (by decide) (by decide), _, _, rfl, rfl, ?_⟩
    refine ⟨_, rfl, _, rfl, t, u, a, b, c, x, y, rfl, ht, hu, ba, bb, bc, bx, bY, _, rfl, _, rfl, _, rfl, t, v, a, b, c, z, w, rfl, ht, hv, ba, bb, bc, bz, bw, by show 3 ≤ sizeLine; decide, fun p np => ?_⟩
    exact q p _ np (same_new np) upd_same
end
/-! ### few pairs, none of them (0, 0) -/
theorem eqv2 (a b c e : Int) : PyData.eqv (.tuple [.int a, .int b]) (.tuple [.int c, .int e]) = (decide (a = c) && decide (b = e)) := by
  simp [PyData.eqv, PyData.eqvAll]
  first | rfl | (by_cases h1 : a = c <;> by_cases h2 : b = e <;> simp [h1, h2])
theorem dpair {K : PySem.W.Frag} {H : Hp} {p : Addr} {x y : Int} (h : H p = some (.tup [.int x, .int y])) : Dp K H (.ref p) (.tuple [.int x, .int y]) := .tup (SqT.of h) (.cons (.int x) (.cons (.int y) .nil))
def FewP (H : Hp) (v : V) : Prop := ∃ (a : Addr) (x y : Int), v = .ref a ∧ H a = some (.tup [.int x, .int y]) ∧ (x ≠ 0 ∨ y ≠ 0) ∧ x.natAbs ≤ 3 ∧ y.natAbs ≤ 3
theorem FewP.mono {H H' : Hp} (k : ∀ p xs, H p = some (.tup xs) → H' p = some (.tup xs)) {v : V} (h : FewP H v) : FewP H' v := by
  obtain ⟨a, x, y, e, h, r⟩ := h
  exact ⟨a, x, y, e, k _ _ h, r⟩
def Few (H : Hp) (vs : List V) : Prop := ∀ v ∈ vs, FewP H v
theorem Few.mono {H H' : Hp} (k : ∀ p xs, H p = some (.tup xs) → H' p = some (.tup xs)) {vs : List V} (h : Few H vs) : Few H' vs := fun v hv => (h v hv).mono k
theorem tup_up {H : Hp} {l : Addr} {ys zs : List V} (hl : H l = some (.lst ys)) (p : Addr) (xs : List V) (h : H p = some (.tup xs)) : (upd H l (.lst zs)) p = some (.tup xs) := (upd_ne (ne_of h hl (by intro z; cases z))).trans h
section
variable {base : Heap} {K : PySem.W.Frag} {mg : Str → Option Value} {P : Program} {w : World}
def spFew : Sp := fun vs H Q _ => vs = [] ∧ ∀ p vs H', H p = none → Same H H' → H' p = some (.lst vs) → Few H' vs → 0 < vs.length → vs.length ≤ 1000 → Q (.ref p) H'
theorem ok_few_pairs (T : Txt K mg) : FnOk P w K mg base CX0 1 T.f_few_pairs T.d_few_pairs [] spFew := by
  refine T.F_few_pairs.ok sc_few_pairs (fun vs H Q E h => ?_) (fun cdv A outer s H vs Q E hr h => ?_)
  · obtain ⟨rfl, _⟩ := h
    rfl
  · obtain ⟨rfl, q⟩ := h
    refine ⟨_, (pss_cons (ps_set (i := 0) sc_few_pairs.nd rfl (Or.inl rfl) (pe_lst pa_nil))
      (pss_cons (ps_for PassesOwn.never rfl (pi_range2 (by rfl) T.n_range (pa_cons (pe_un un_neg pe_int) (pa_cons pe_int pa_nil))) (pg_name (i := 1) sc_few_pairs.nd rfl (Or.inr rfl)) (pss_one (ps_set (i := 0) sc_few_pairs.nd rfl (Or.inl rfl) (pe_op op_cat (pv 0) (pe_lc (own := [("_law_b", 2)]) (g := (gName 2)) (tt := tTest (tOp (rNeD K) (tTup (tCons (tVar 1) (tCons (tVar 2) tNil))) (tTup (tCons (tC (.int 0)) (tCons (tC (.int 0)) tNil))))) (te := tTup (tCons (tVar 1) (tCons (tVar 2) tNil))) (by rfl) sc_few_pairs.nd (pi_range2 (by rfl) T.n_range (pa_cons (pe_un un_neg pe_int) (pa_cons pe_int pa_nil))) (blkOk_by (own := [("_law_b", 2)]) (N := ["_law_found", "_law_a", "_law_b"]) (sc := defScope s_few_pairs) (by decide +kernel)) (fun _ _ _ _ _ => (pg_name (i := 2) sc_few_pairs.nd rfl (Or.inl rfl))) (fun _ _ _ _ _ => (pts_one (pt_cmpR (op_neD hr.units) (pe_tup (pa_cons (pv 1) (pa_cons (pv 2) pa_nil))) (pe_tup (pa_cons pe_int (pa_cons pe_int pa_nil))) (nomark _)))) (fun _ _ _ _ _ => (pe_tup (pa_cons (pv 1) (pa_cons (pv 2) pa_nil)))))))))
      (pss_one (ps_ret (pv 0))))), ?_⟩
    refine ⟨Nat.zero_le _, fun l hl => ?_⟩
    refine ⟨3, rfl, -3, 4, rfl, ⟨by decide, by decide, by decide, by decide⟩, for_range (lo := -3) (n := 7) (fun i σ H' => ∃ (l : Addr) (y1 y2 : Option V) (vs : List V), σ = [some (.ref l), y1, y2] ∧ H l = none ∧ Same H H' ∧ H' l = some (.lst vs) ∧ Few H' vs ∧ i ≤ vs.length ∧ vs.length ≤ 7 * i) ⟨l, none, none, [], rfl, hl, same_new hl, upd_same, (fun v hv => by cases hv), Nat.le_refl _, Nat.le_refl _⟩ ?_ ?_⟩
    · rintro i σ H2 hi ⟨l, y1, y2, vs, rfl, nl, sm, h2, fw, v1, v2⟩
      refine ⟨_, rfl, 3, rfl, -3, 4, rfl, ⟨by decide, by decide, by decide, by decide⟩, fun D hD => ?_⟩
      refine lc_range (lo := -3) (n := 7) (fun j H' => ∃ acc : List V, Same H2 H' ∧ H' D = some (.lst acc) ∧ Few H' acc ∧ acc.length ≤ j ∧ (j ≤ acc.length ∨ (3 < j ∧ j ≤ acc.length + 1))) ⟨[], same_new hD, upd_same, (fun v hv => by cases hv), Nat.le_refl _, .inl (Nat.le_refl _)⟩ ?_ ?_
      · rintro j H3 hj ⟨acc, s3, h3, f3, a1, a2⟩
        refine ⟨rfl, _, rfl, _, rfl, by show 2 ≤ sizeLine; decide, fun t1 n1 => ⟨by show 2 ≤ sizeLine; decide, fun t2 n2 => ?_⟩⟩
        have e1 := same_new (o := .tup [.int (-3 + (i : Int)), .int (-3 + (j : Int))]) n1
        have e2 := same_new (o := .tup [.int 0, .int 0]) n2
        refine ⟨_, _, dpair (e2 _ _ upd_same), dpair upd_same, rfl, rfl, _, rfl, ite2 (fun e => ?_) (fun e => ?_)⟩
        · rw [eqv2] at e
          have ne : ¬ (-3 + (i : Int) = 0 ∧ -3 + (j : Int) = 0) := by
            rintro ⟨z1, z2⟩
            rw [decide_eq_true z1, decide_eq_true z2] at e
            cases e
          refine ⟨_, rfl, _, rfl, by show 2 ≤ sizeLine; decide, fun t3 n3 => ?_⟩
          have e3 := same_new (o := .tup [.int (-3 + (i : Int)), .int (-3 + (j : Int))]) n3
          have h6 := (e1.trans (e2.trans e3)) _ _ h3
          refine ⟨acc, h6, small1000 (by omega), acc ++ [.ref t3], ?_, upd_same, ?_, by rw [List.length_append]; exact Nat.succ_le_succ a1, by rw [List.length_append]; simp only [List.length_singleton]; omega⟩
          · exact fun a o z => (upd_ne (ne_of_none z hD)).trans ((s3.trans (e1.trans (e2.trans e3))) a o z)
          · intro v hv
            rcases List.mem_append.mp hv with hv | hv
            · exact ((f3 v hv).mono fun p xs z => (e1.trans (e2.trans e3)) p _ z).mono (tup_up h6)
            · rw [List.mem_singleton.mp hv]
              exact ⟨t3, _, _, rfl, tup_up h6 _ _ upd_same, by omega, by omega, by omega⟩
        · rw [eqv2] at e
          have ee : -3 + (i : Int) = 0 ∧ -3 + (j : Int) = 0 := by
            by_cases z1 : -3 + (i : Int) = 0
            · by_cases z2 : -3 + (j : Int) = 0
              · exact ⟨z1, z2⟩
              · rw [decide_eq_false z2, Bool.and_false] at e
                exact absurd rfl e
            · rw [decide_eq_false z1, Bool.false_and] at e
              exact absurd rfl e
          exact ⟨acc, s3.trans (e1.trans e2), (e1.trans e2) _ _ h3, f3.mono fun p xs z => (e1.trans e2) p _ z, by omega, by omega⟩
      · rintro H3 ⟨acc, s3, h3, f3, a1, a2⟩
        refine ⟨l, D, vs, acc, rfl, rfl, s3 _ _ h2, h3, ?_, fun p np => ?_⟩
        · have := small1000 (show vs.length + acc.length ≤ 1000 by omega)
          omega
        have ep := same_new (o := .lst (vs ++ acc)) np
        refine ⟨p, _, _, vs ++ acc, rfl, (sm.trans s3).free np, sm.trans (s3.trans ep), upd_same, ?_, by rw [List.length_append]; omega, by rw [List.length_append]; omega⟩
        intro v hv
        rcases List.mem_append.mp hv with hv | hv
        · exact (fw v hv).mono fun p xs z => (s3.trans ep) p _ z
        · exact (f3 v hv).mono fun p xs z => ep p _ z
    · rintro σ H2 ⟨l, y1, y2, vs, rfl, nl, sm, h2, fw, v1, v2⟩
      exact ⟨_, rfl, q l vs H2 nl sm h2 fw (by omega) (by omega)⟩
end
/-! ### a small reduced form -/
section
variable {base : Heap} {K : PySem.W.Frag} {mg : Str → Option Value} {P : Program} {w : World}
def spSmall : Sp := fun vs H Q _ => ∃ b sb : Addr, vs = [.ref b] ∧ Bag H b sb ∧ ∀ p x y z H', IsForm x y z → IsRed x y z → x.natAbs ≤ 40 → y.natAbs ≤ 40 → z.natAbs ≤ 40 → H' p = some (.tup [.int x, .int y, .int z]) → Bag H' b sb → Keep b H H' → Q (.ref p) H'
theorem red_form {x y z : Int} (h : IsRed x y z) (h0 : 0 < x) : IsForm x y z := by
  obtain ⟨a, b, c⟩ := h
  refine ⟨h0, ?_⟩
  have h1 : y * y ≤ y * (2 * y) := Int.mul_le_mul_of_nonneg_left (by omega) (by omega)
  have h2 : y * (2 * y) ≤ y * x := Int.mul_le_mul_of_nonneg_left b (by omega)
  have h3 : y * x < x * x := Int.mul_lt_mul_of_pos_right (by omega) h0
  have h4 : x * x ≤ x * z := Int.mul_le_mul_of_nonneg_left c (by omega)
  omega
theorem ok_small_reduced (T : Txt K mg) : FnOk P w K mg base CX0 2 T.f_small_reduced T.d_small_reduced ["_law_bag"] spSmall := by
  refine T.F_small_reduced.ok sc_small_reduced (fun vs H Q E h => ?_) (fun cdv A outer s H vs Q E hr h => ?_)
  · obtain ⟨b, sb, rfl, _⟩ := h
    rfl
  · obtain ⟨b, sb, rfl, B, q⟩ := h
    refine ⟨_, (pss_cons (ps_set (i := 1) sc_small_reduced.nd rfl (Or.inl rfl) (pe_op op_add pe_int (pe_call (ok_pull T) (hr.mono (by decide)) (by rfl) T.g_pull T.F_pull.kp T.b_pull .nil pass0 (pa_cons (pv 0) (pa_cons pe_int pa_nil)))))
      (pss_one (ps_ret (pe_tup (pa_cons (pv 1) (pa_cons (pe_call (ok_pull T) (hr.mono (by decide)) (by rfl) T.g_pull T.F_pull.kp T.b_pull .nil pass0 (pa_cons (pv 0) (pa_cons (pe_op op_add (pe_op op_fdiv (pv 1) pe_int) pe_int) pa_nil))) (pa_cons (pe_op op_add (pv 1) (pe_call (ok_pull T) (hr.mono (by decide)) (by rfl) T.g_pull T.F_pull.kp T.b_pull .nil pass0 (pa_cons (pv 0) (pa_cons pe_int pa_nil)))) pa_nil))))))), ?_⟩
    refine ⟨_, rfl, b, sb, 20, rfl, B, by decide, by decide, fun a1 H1 a2 a3 B1 k1 => ⟨1, a1, rfl, rfl, ?_⟩⟩
    refine ⟨_, rfl, _, rfl, _, rfl, _, 2, rfl, rfl, ⟨by decide, by decide⟩, _, 1, rfl, rfl, b, sb, _, rfl, B1, (show 0 < (1 + a1) / 2 + 1 by omega), (show ((1 + a1) / 2 + 1).natAbs < 2 ^ 100 by omega), fun z H2 z0 z1 B2 k2 => ?_⟩
    refine ⟨_, rfl, _, rfl, b, sb, 20, rfl, B2, by decide, by decide, fun y H3 y0 y1 B3 k3 => ⟨_, y, rfl, rfl, by show 3 ≤ sizeLine; decide, fun p np => ?_⟩⟩
    have r : IsRed (1 + a1) z (1 + a1 + y) := ⟨by omega, by omega, by omega⟩
    exact q p _ _ _ _ (red_form r (by omega)) r (by omega) (by omega) (by omega) upd_same (B3.new np) (k1.trans (k2.trans (k3.trans (keep_new np))))
end
/-! ### the law -/
theorem eqv3 (a b c a' b' c' : Int) : PyData.eqv (.tuple [.int a, .int b, .int c]) (.tuple [.int a', .int b', .int c']) = (decide (a = a') && (decide (b = b') && decide (c = c'))) := by
  simp [PyData.eqv, PyData.eqvAll]
  first | rfl | (by_cases h1 : a = a' <;> by_cases h2 : b = b' <;> by_cases h3 : c = c' <;> simp [h1, h2, h3])
theorem eqv3_t {a b c a' b' c' : Int} (h : a = a' ∧ b = b' ∧ c = c') : PyData.eqv (.tuple [.int a, .int b, .int c]) (.tuple [.int a', .int b', .int c']) = true := by
  rw [eqv3, decide_eq_true h.1, decide_eq_true h.2.1, decide_eq_true h.2.2]
  rfl
theorem ne3_f {a b c a' b' c' : Int} (h : a = a' ∧ b = b' ∧ c = c') : (!PyData.eqv (.tuple [.int a, .int b, .int c]) (.tuple [.int a', .int b', .int c'])) = false := by
  rw [eqv3_t h]
  rfl
theorem dtrip {K : PySem.W.Frag} {H : Hp} {p : Addr} {x y z : Int} (h : H p = some (.tup [.int x, .int y, .int z])) : Dp K H (.ref p) (.tuple [.int x, .int y, .int z]) := .tup (SqT.of h) (.cons (.int x) (.cons (.int y) (.cons (.int z) .nil)))
theorem FEq.refl (a b c : Int) : FEq a b c a b c := ⟨1, 0, 0, 1, .inl (by decide), by unfold fval; grind, by unfold fmid; grind, by unfold fval; grind⟩
theorem tk {H H' : Hp} {b sb : Addr} (B : Bag H b sb) (k : Keep b H H') {p : Addr} {xs : List V} (h : H p = some (.tup xs)) : H' p = some (.tup xs) := k _ _ (B.tup h) h
theorem red_same {A B C a b c x y z w A' B' C' a' b' c' x' y' z' w' : Int} (r : RedOf A B C a b c x y z w) (e : FEq A B C A' B' C') (r' : RedOf A' B' C' a' b' c' x' y' z' w') : a' = a ∧ b' = b ∧ c' = c := by
  have := red_one r'.red r'.frm.1 r.red r.frm.1 ((r'.feq.symm).trans (e.symm.trans r.feq))
  exact this
section
variable {base : Heap} {K : PySem.W.Frag} {mg : Str → Option Value} {P : Program} {w : World}
def spLaw (K : PySem.W.Frag) : Sp := fun vs H Q _ => ∃ (a : Addr) (ns : List Int), vs = [.ref a] ∧ SqL K H a (ns.map V.int) ∧ ns.length ≤ 63 ∧ ∀ H', Q (.bl true) H'
/-- the two pairs, while they change -/
structure Two2 (H : Hp) (u v : Addr) (x y z w : Int) (n : Nat) : Prop where
  hu : H u = some (.tup [.int x, .int y])
  hv : H v = some (.tup [.int z, .int w])
  uni : Uni x y z w
  bx : x.natAbs ≤ n
  bY : y.natAbs ≤ n
  bz : z.natAbs ≤ n
  bw : w.natAbs ≤ n
theorem Two2.keep {H H' : Hp} {b sb u v : Addr} {x y z w : Int} {n : Nat} (h : Two2 H u v x y z w n) (B : Bag H b sb) (k : Keep b H H') : Two2 H' u v x y z w n := ⟨tk B k h.hu, tk B k h.hv, h.uni, h.bx, h.bY, h.bz, h.bw⟩
theorem Two2.same {H H' : Hp} {u v : Addr} {x y z w : Int} {n m : Nat} (h : Two2 H u v x y z w n) (k : Same H H') (l : n ≤ m) : Two2 H' u v x y z w m := ⟨k _ _ h.hu, k _ _ h.hv, h.uni, Nat.le_trans h.bx l, Nat.le_trans h.bY l, Nat.le_trans h.bz l, Nat.le_trans h.bw l⟩
theorem uni_neg1 {x y z w : Int} (u : Uni x y z w) : Uni (0 - x) (0 - y) z w := by
  have : (0 - x) * w - (0 - y) * z = -(x * w - y * z) := by grind
  unfold Uni
  rw [this]
  rcases u with u | u <;> rw [u]
  · exact .inr rfl
  · exact .inl rfl
theorem uni_add {x y z w k : Int} (u : Uni x y z w) : Uni x y (z + k * x) (w + k * y) := by
  have : x * (w + k * y) - y * (z + k * x) = x * w - y * z := by grind
  unfold Uni
  rw [this]
  exact u
theorem ad_bd {z k x : Int} {n : Nat} (h1 : z.natAbs ≤ n) (h2 : k.natAbs ≤ 4) (h3 : x.natAbs ≤ n) : (z + k * x).natAbs ≤ 5 * n := by
  have : (k * x).natAbs ≤ 4 * n := by
    rw [Int.natAbs_mul]
    exact Nat.mul_le_mul h2 h3
  omega
theorem p5 {i : Nat} (h : i ≤ 4) : 5 ^ i ≤ 625 := Nat.le_trans (Nat.pow_le_pow_right (by decide) h) (by decide)
theorem ok_law {f : Addr} {fd : FuncData} (F : Fun K "law" "law" s_law f fd) (T : Txt K mg) : FnOk P w K mg base CX0 5 f fd ["_law_script"] (spLaw K) := by
  refine F.ok sc_law (fun vs H Q E h => ?_) (fun cdv A outer s H vs Q E hr h => ?_)
  · obtain ⟨a, ns, rfl, _⟩ := h
    rfl
  · obtain ⟨a, ns, rfl, hS, hlen, q⟩ := h
    refine ⟨_, (pss_cons (ps_set (i := 1) sc_law.nd rfl (Or.inl rfl) (pe_call (ok_source T) (hr.mono (by decide)) (by rfl) T.g_source T.F_source.kp T.b_source .nil pass0 (pa_cons (pv 0) pa_nil)))
      (pss_cons (ps_for PassesOwn.never rfl (pi_range1 (by rfl) T.n_range (pa_cons pe_int pa_nil)) (pg_name (i := 2) sc_law.nd rfl (Or.inl rfl)) (pss_cons (ps_set (i := 3) sc_law.nd rfl (Or.inr rfl) (pe_call (ok_a_form T) (hr.mono (by decide)) (by rfl) T.g_a_form T.F_a_form.kp T.b_a_form .nil pass0 (pa_cons (pv 1) pa_nil)))
      (pss_cons (ps_set (i := 4) sc_law.nd rfl (Or.inl rfl) (pe_ix ix_tup (pe_call (ok_reduced T) (hr.mono (by decide)) (by rfl) T.g_reduced T.F_reduced.kp T.b_reduced .nil pass0 (pa_cons (pv 3) pa_nil)) pe_int (fun _ _ => rfl)))
      (pss_cons (ps_par3 (i := 8) (j := 9) (l := 10) (by rfl) sc_law.nd rfl rfl rfl (by decide) (by decide) (by decide) rfl rfl rfl (pa_cons (pe_tup (pa_cons pe_int (pa_cons pe_int pa_nil))) (pa_cons (pe_tup (pa_cons pe_int (pa_cons pe_int pa_nil))) (pa_cons (pv 3) pa_nil))) (by rfl))
      (pss_cons (ps_for PassesOwn.never rfl (pi_range1 (by rfl) T.n_range (pa_cons (pe_call (ok_pull T) (hr.mono (by decide)) (by rfl) T.g_pull T.F_pull.kp T.b_pull .nil pass0 (pa_cons (pv 1) (pa_cons pe_int pa_nil))) pa_nil)) (pg_name (i := 5) sc_law.nd rfl (Or.inl rfl)) (pss_cons (ps_par (i := 11) (j := 12) (by rfl) sc_law.nd rfl rfl (by decide) rfl rfl (pa_cons (pe_op op_sub (pe_call (ok_pull T) (hr.mono (by decide)) (by rfl) T.g_pull T.F_pull.kp T.b_pull .nil pass0 (pa_cons (pv 1) (pa_cons pe_int pa_nil))) pe_int) (pa_cons (pe_call (ok_pull T) (hr.mono (by decide)) (by rfl) T.g_pull T.F_pull.kp T.b_pull .nil pass0 (pa_cons (pv 1) (pa_cons pe_int pa_nil))) pa_nil)) (by rfl))
      (Evl.pss_cut (ps_if (pt_cmpR op_eq (pv 12) pe_int (nomark _)) (pss_one (ps_par (i := 8) (j := 9) (by rfl) sc_law.nd rfl rfl (by decide) rfl rfl (pa_cons (pv 9) (pa_cons (pv 8) pa_nil)) (by rfl))) pss_nil)
      (Evl.pss_cut (ps_if (pt_cmpR op_eq (pv 12) pe_int (nomark _)) (pss_one (ps_set (i := 8) sc_law.nd rfl (Or.inl rfl) (pe_tup (pa_cons (pe_op op_sub pe_int (pe_ix ix_tup (pv 8) pe_int (fun _ _ => rfl))) (pa_cons (pe_op op_sub pe_int (pe_ix ix_tup (pv 8) pe_int (fun _ _ => rfl))) pa_nil))))) pss_nil)
      (Evl.pss_cut (ps_if (pt_cmpR op_gt (pv 12) pe_int (nomark _)) (pss_one (ps_set (i := 9) sc_law.nd rfl (Or.inl rfl) (pe_tup (pa_cons (pe_op op_add (pe_ix ix_tup (pv 9) pe_int (fun _ _ => rfl)) (pe_op op_mul (pv 11) (pe_ix ix_tup (pv 8) pe_int (fun _ _ => rfl)))) (pa_cons (pe_op op_add (pe_ix ix_tup (pv 9) pe_int (fun _ _ => rfl)) (pe_op op_mul (pv 11) (pe_ix ix_tup (pv 8) pe_int (fun _ _ => rfl)))) pa_nil))))) pss_nil)
      (pss_cons (ps_set (i := 10) sc_law.nd rfl (Or.inl rfl) (pe_call (ok_led T) (hr.mono (by decide)) (by rfl) T.g_led T.F_led.kp T.b_led .nil pass0 (pa_cons (pv 3) (pa_cons (pv 8) (pa_cons (pv 9) pa_nil)))))
      (pss_one (ps_if (pt_cmpR (op_neD hr.units) (pe_ix ix_tup (pe_call (ok_reduced T) (hr.mono (by decide)) (by rfl) T.g_reduced T.F_reduced.kp T.b_reduced .nil pass0 (pa_cons (pv 10) pa_nil)) pe_int (fun _ _ => rfl)) (pv 4) (nomark _)) (pss_one (ps_ret pe_bl)) pss_nil))))))))
      (pss_cons (ps_setLc (i := 6) (own := [("_law_a", 13), ("_law_b", 14)]) (g := (gTup K 2 (gCons (gName 13) (gCons (gName 14) gNil)))) (tt := tYes) (te := tCall spValueAt [] E0 (tCons (tVar 3) (tCons (tTup (tCons (tVar 13) (tCons (tVar 14) tNil))) tNil))) (by rfl) sc_law.nd rfl rfl (sw_true rfl rfl rfl (by decide +kernel)) (pi_list (pe_call0 (ok_few_pairs T) (hr.mono (by decide)) (by rfl) T.g_few_pairs T.F_few_pairs.kp T.b_few_pairs .nil pass0)) (blkOk_by (own := [("_law_a", 13), ("_law_b", 14)]) (N := ["_law_script", "_law_bag", "_law_turn", "_law_form", "_law_due", "_law_k", "_law_values", "_law_other", "_law_x", "_law_y", "_law_late", "_law_size", "_law_way", "_law_a", "_law_b"]) (sc := defScope s_law) (by decide +kernel)) (fun _ _ _ _ _ => (pg_tup (by rfl) (pgs_cons (pg_name (i := 13) sc_law.nd rfl (Or.inl rfl)) (pgs_cons (pg_name (i := 14) sc_law.nd rfl (Or.inl rfl)) pgs_nil)))) (fun _ _ _ _ _ => pts_nil) (fun _ _ _ _ _ => (pe_call (ok_value_at T) (hr.mono (by decide)) (by rfl) T.g_value_at T.F_value_at.kp T.b_value_at .nil pass0 (pa_cons (pv 3) (pa_cons (pe_tup (pa_cons (pv 13) (pa_cons (pv 14) pa_nil))) pa_nil)))))
      (pss_cons (ps_if (pt_cmpR op_lt (pe_callB (cr_min rfl) (by rfl) T.n_min (by decide +kernel) (pa_cons (pv 6) pa_nil)) (pe_ix ix_tup (pv 4) pe_int (fun _ _ => rfl)) (nomark _)) (pss_one (ps_ret pe_bl)) pss_nil)
      (pss_cons (ps_set (i := 7) sc_law.nd rfl (Or.inl rfl) (pe_call (ok_small_reduced T) (hr.mono (by decide)) (by rfl) T.g_small_reduced T.F_small_reduced.kp T.b_small_reduced .nil pass0 (pa_cons (pv 1) pa_nil)))
      (pss_one (ps_if (PW.pt (pw_or (pt_cmpR (op_neD hr.units) (pe_ix ix_tup (pe_call (ok_reduced T) (hr.mono (by decide)) (by rfl) T.g_reduced T.F_reduced.kp T.b_reduced .nil pass0 (pa_cons (pv 7) pa_nil)) pe_int (fun _ _ => rfl)) (pv 7) (nomark _)) (pw_or1 (pt_cmpR op_ne (pe_cmpR (op_eqD hr.units) (pv 7) (pv 4) (nomark _)) (pe_cmpR (op_eqD hr.units) (pe_ix ix_tup (pe_call (ok_reduced T) (hr.mono (by decide)) (by rfl) T.g_reduced T.F_reduced.kp T.b_reduced .nil pass0 (pa_cons (pv 10) pa_nil)) pe_int (fun _ _ => rfl)) (pe_ix ix_tup (pe_call (ok_reduced T) (hr.mono (by decide)) (by rfl) T.g_reduced T.F_reduced.kp T.b_reduced .nil pass0 (pa_cons (pv 7) pa_nil)) pe_int (fun _ _ => rfl)) (nomark _)) (nomark _))))) (pss_one (ps_ret pe_bl)) pss_nil))))))))))
      (pss_one (ps_ret pe_bl)))), ?_⟩
    refine ⟨.ref a, rfl, a, ns, rfl, hS, hlen, fun b sb H1 hb s1 B1 => ?_⟩
    refine ⟨6, rfl, by decide, by decide, for_range (lo := 0) (n := 6) (fun i σ H' => ∃ y2 y3 y4 y5 y6 y7 y8 y9 y10 y11 y12 y13 y14, σ = [some (.ref a), some (.ref b), y2, y3, y4, y5, y6, y7, y8, y9, y10, y11, y12, y13, y14] ∧ Bag H' b sb) ⟨none, none, none, none, none, none, none, none, none, none, none, none, none, rfl, B1⟩ ?_ ?_⟩
    · rintro i σ H2 hi ⟨y2, y3, y4, y5, y6, y7, y8, y9, y10, y11, y12, y13, y14, rfl, B2⟩
      -- the form, and its reduced one
      refine ⟨_, rfl, b, sb, rfl, B2, fun pf fa fb fc H3 Fm ba bb bc nf hf B3 k3 => ?_⟩
      refine ⟨_, rfl, pf, fa, fb, fc, rfl, SqT.of hf, Fm, rb_up ba (by decide), rb_up bb (by decide), rb_up bc (by decide), fun p0 pd o1 o2 ra rb rc rx ry rz rw' H4 n0 e4 R0 r0 => ?_⟩
      refine ⟨p0, _, 0, .ref pd, rfl, rfl, SqT.of R0.hp, atI_nat (j := 0) rfl, ?_⟩
      -- x, y, late
      refine ⟨by show 2 ≤ sizeLine; decide, fun p1 n1 => ⟨by show 2 ≤ sizeLine; decide, fun p2 n2 => ⟨_, rfl, _, _, _, rfl, ?_⟩⟩⟩
      have e1 := same_new (o := .tup [.int 1, .int 0]) n1
      have e2 := same_new (o := .tup [.int 0, .int 1]) n2
      have B4 := B3.same (e4.trans (e1.trans e2))
      have hf4 := (e4.trans (e1.trans e2)) _ _ hf
      have hd4 := (e1.trans e2) _ _ R0.hf
      refine ⟨_, rfl, b, sb, 5, rfl, B4, by decide, by decide, fun n H5 g1 g2 B5 k5 => ⟨n, rfl, by omega, by omega, ?_⟩⟩
      refine for_range (lo := 0) (n := n.toNat) (fun j σ H' => ∃ (u v pl : Addr) (x y z w' la lb lc : Int) (y5 y6 y7 y11 y12 y13 y14 : Option V), σ = [some (.ref a), some (.ref b), some (.int (0 + (i : Int))), some (.ref pf), some (.ref pd), y5, y6, y7, some (.ref u), some (.ref v), some (.ref pl), y11, y12, y13, y14] ∧ Two2 H' u v x y z w' (5 ^ j) ∧
        H' pl = some (.tup [.int la, .int lb, .int lc]) ∧ IsForm la lb lc ∧ FEq fa fb fc la lb lc ∧ la.natAbs < 2 ^ 300 ∧ lb.natAbs < 2 ^ 300 ∧ lc.natAbs < 2 ^ 300 ∧ H' pf = some (.tup [.int fa, .int fb, .int fc]) ∧ H' pd = some (.tup [.int ra, .int rb, .int rc]) ∧ Bag H' b sb)
        ⟨p1, p2, pf, 1, 0, 0, 1, fa, fb, fc, _, _, _, _, _, _, _, rfl, ⟨tk B4 k5 (e2 _ _ upd_same), tk B4 k5 upd_same, .inl (by decide), by decide, by decide, by decide, by decide⟩, tk B4 k5 hf4, Fm, .refl _ _ _, rb_up ba (by decide), rb_up bb (by decide), rb_up bc (by decide), tk B4 k5 hf4, tk B4 k5 hd4, B5⟩ ?_ ?_
      · rintro j σ H6 hj ⟨u, v, pl, x, y, z, w', la, lb, lc, y5, y6, y7, y11, y12, y13, y14, rfl, W, hl, Fl, El, bl1, bl2, bl3, hf6, hd6, B6⟩
        have hj4 : j + 1 ≤ 4 := by omega
        refine ⟨_, rfl, b, sb, 9, rfl, B6, by decide, by decide, fun s1 H7 s2 s3 B7 k7 => ⟨s1, 4, rfl, rfl, ?_⟩⟩
        refine ⟨_, rfl, b, sb, 4, rfl, B7, by decide, by decide, fun w1 H8 w2 w3 B8 k8 => ⟨_, _, rfl, ?_⟩⟩
        have W8 := W.keep B6 (k7.trans k8)
        have hf8 := tk B6 (k7.trans k8) hf6
        have hd8 := tk B6 (k7.trans k8) hd6
        have bS : (s1 - 4).natAbs ≤ 4 := by omega
        dsimp only
        generalize s1 - 4 = sz at bS ⊢
        -- the first change
        refine ⟨fun σ H' => ∃ (u v : Addr) (x y z w' : Int), σ = [some (.ref a), some (.ref b), some (.int (0 + (i : Int))), some (.ref pf), some (.ref pd), some (.int (0 + (j : Int))), y6, y7, some (.ref u), some (.ref v), some (.ref pl), some (.int sz), some (.int w1), y13, y14] ∧ Two2 H' u v x y z w' (5 ^ j) ∧ Same H8 H', ?_, ?_⟩
        · refine ⟨_, rfl, rfl, _, rfl, ite2 (fun _ => ?_) (fun _ => ?_)⟩
          · exact ⟨_, rfl, _, rfl, _, _, rfl, v, u, z, w', x, y, rfl, ⟨W8.hv, W8.hu, swap_uni W8.uni, W8.bz, W8.bw, W8.bx, W8.bY⟩, fun _ _ e => e⟩
          · exact ⟨u, v, x, y, z, w', rfl, W8, fun _ _ e => e⟩
        rintro σ H9 ⟨u1, v1, x1, y1, z1, w1', rfl, W9, s9⟩
        -- the second change
        refine ⟨fun σ H' => ∃ (u v : Addr) (x y z w' : Int), σ = [some (.ref a), some (.ref b), some (.int (0 + (i : Int))), some (.ref pf), some (.ref pd), some (.int (0 + (j : Int))), y6, y7, some (.ref u), some (.ref v), some (.ref pl), some (.int sz), some (.int w1), y13, y14] ∧ Two2 H' u v x y z w' (5 ^ j) ∧ Same H8 H', ?_, ?_⟩
        · refine ⟨_, rfl, rfl, _, rfl, ite2 (fun _ => ?_) (fun _ => ?_)⟩
          · refine ⟨_, rfl, u1, _, 0, .int x1, rfl, rfl, SqT.of W9.hu, atI_nat (j := 0) rfl, 0, x1, rfl, rfl, _, rfl, u1, _, 1, .int y1, rfl, rfl, SqT.of W9.hu, atI_nat (j := 1) rfl, 0, y1, rfl, rfl, by show 2 ≤ sizeLine; decide, fun p np => ?_⟩
            have ep := same_new (o := .tup [.int (0 - x1), .int (0 - y1)]) np
            exact ⟨p, v1, 0 - x1, 0 - y1, z1, w1', rfl, ⟨upd_same, ep _ _ W9.hv, uni_neg1 W9.uni, by have := W9.bx; omega, by have := W9.bY; omega, W9.bz, W9.bw⟩, s9.trans ep⟩
          · exact ⟨u1, v1, x1, y1, z1, w1', rfl, W9, s9⟩
        rintro σ H10 ⟨u2, v2, x2, y2', z2, w2', rfl, W10, s10⟩
        -- the third change
        refine ⟨fun σ H' => ∃ (u v : Addr) (x y z w' : Int), σ = [some (.ref a), some (.ref b), some (.int (0 + (i : Int))), some (.ref pf), some (.ref pd), some (.int (0 + (j : Int))), y6, y7, some (.ref u), some (.ref v), some (.ref pl), some (.int sz), some (.int w1), y13, y14] ∧ Two2 H' u v x y z w' (5 ^ (j + 1)) ∧ Same H8 H', ?_, ?_⟩
        · have pw : 5 ^ (j + 1) = 5 * 5 ^ j := by rw [Nat.pow_succ, Nat.mul_comm]
          refine ⟨_, rfl, w1, 1, rfl, rfl, _, rfl, ite2 (fun _ => ?_) (fun _ => ?_)⟩
          · have hs : -(2 ^ 64) < sz ∧ sz < 2 ^ 64 := by omega
            refine ⟨_, rfl, v2, _, 0, .int z2, rfl, rfl, SqT.of W10.hv, atI_nat (j := 0) rfl, _, rfl, _, rfl, u2, _, 0, .int x2, rfl, rfl, SqT.of W10.hu, atI_nat (j := 0) rfl, sz, x2, rfl, rfl, .inl hs, z2, _, rfl, rfl, ?_⟩
            refine ⟨_, rfl, v2, _, 1, .int w2', rfl, rfl, SqT.of W10.hv, atI_nat (j := 1) rfl, _, rfl, _, rfl, u2, _, 1, .int y2', rfl, rfl, SqT.of W10.hu, atI_nat (j := 1) rfl, sz, y2', rfl, rfl, .inl hs, w2', _, rfl, rfl, by show 2 ≤ sizeLine; decide, fun p np => ?_⟩
            have ep := same_new (o := .tup [.int (z2 + sz * x2), .int (w2' + sz * y2')]) np
            refine ⟨u2, p, x2, y2', z2 + sz * x2, w2' + sz * y2', rfl, ⟨ep _ _ W10.hu, upd_same, uni_add W10.uni, ?_, ?_, ?_, ?_⟩, s10.trans ep⟩
            · rw [pw]; have := W10.bx; omega
            · rw [pw]; have := W10.bY; omega
            · rw [pw]; exact ad_bd W10.bz bS W10.bx
            · rw [pw]; exact ad_bd W10.bw bS W10.bY
          · exact ⟨u2, v2, x2, y2', z2, w2', rfl, W10.same (fun _ _ e => e) (by omega), s10⟩
        rintro σ H11 ⟨u3, v3, x3, y3', z3, w3', rfl, W11, s11⟩
        have p5 := p5 hj4
        have m1 : x3.natAbs < 2 ^ 64 := by have := W11.bx; omega
        have m2 : y3'.natAbs < 2 ^ 64 := by have := W11.bY; omega
        have m3 : z3.natAbs < 2 ^ 64 := by have := W11.bz; omega
        have m4 : w3'.natAbs < 2 ^ 64 := by have := W11.bw; omega
        have a64 : fa.natAbs < 2 ^ 64 := rb_up ba (by decide)
        have b64 : fb.natAbs < 2 ^ 64 := rb_up bb (by decide)
        have c64 : fc.natAbs < 2 ^ 64 := rb_up bc (by decide)
        refine ⟨_, rfl, _, rfl, _, rfl, pf, u3, v3, fa, fb, fc, x3, y3', z3, w3', rfl, s11 _ _ hf8, W11.hu, W11.hv, rb_up ba (by decide), rb_up bb (by decide), rb_up bc (by decide), rb_up m1 (by decide), rb_up m2 (by decide), rb_up m3 (by decide), rb_up m4 (by decide), fun pl2 H12 n12 e12 h12 => ?_⟩
        have L : Led fa fb fc x3 y3' z3 w3' (fval fa fb fc x3 y3') (fmid fa fb fc x3 y3' z3 w3') (fval fa fb fc z3 w3') := ⟨rfl, rfl, rfl⟩
        have F2 := led_form Fm W11.uni L
        have E2 : FEq fa fb fc (fval fa fb fc x3 y3') (fmid fa fb fc x3 y3' z3 w3') (fval fa fb fc z3 w3') := ⟨_, _, _, _, W11.uni, L⟩
        have q1 := rb_up (fval_bd a64 b64 c64 m1 m2) (show 195 ≤ 300 by decide)
        have q2 := rb_up (fmid_bd a64 b64 c64 m1 m2 m3 m4) (show 195 ≤ 300 by decide)
        have q3 := rb_up (fval_bd a64 b64 c64 m3 m4) (show 195 ≤ 300 by decide)
        refine ⟨_, rfl, pl2, _, _, _, rfl, SqT.of h12, F2, q1, q2, q3, fun p0 pe o1 o2 a' b' c' x' y' z' w'' H13 n0 e13 R1 r1 => ?_⟩
        refine ⟨p0, _, 0, .ref pe, rfl, rfl, SqT.of R1.hp, atI_nat (j := 0) rfl, _, rfl, _, _, dtrip R1.hf, dtrip ((s11.trans (e12.trans e13)) _ _ hd8), rfl, rfl, false, (by rw [ne3_f (red_same r0 E2 r1)]), iteF ?_⟩
        exact ⟨u3, v3, pl2, x3, y3', z3, w3', _, _, _, _, _, _, _, _, _, _, rfl, W11.same (e12.trans e13) (Nat.le_refl _), e13 _ _ h12, F2, E2, q1, q2, q3, (s11.trans (e12.trans e13)) _ _ hf8, (s11.trans (e12.trans e13)) _ _ hd8, B8.same (s11.trans (e12.trans e13))⟩
      · rintro σ H6 ⟨u, v, pl, x, y, z, w', la, lb, lc, y5, y6, y7, y11, y12, y13, y14, rfl, W, hl, Fl, El, bl1, bl2, bl3, hf6, hd6, B6⟩
        -- the values
        refine ⟨rfl, fun lp vs H7 nl s7 h7 fw v0 v1 => ⟨lp, rfl, ⟨_, SqL.of h7⟩, fun D hD => ?_⟩⟩
        refine lc_list (K := K) (a := lp) (xs := vs) (fun j H' => ∃ ns : List Int, Same H7 H' ∧ H' D = some (.lst (ns.map V.int)) ∧ ns.length = j ∧ ∀ m ∈ ns, ra ≤ m) ⟨[], same_new hD, upd_same, rfl, fun m hm => by cases hm⟩ (fun j H' _ h => ?_) (fun j xv H' hx h => ?_) (fun H8 h => ?_)
        · obtain ⟨ns, s, _⟩ := h
          exact SqL.of (s _ _ h7)
        · obtain ⟨ns, s, hD', hn, hm⟩ := h
          obtain ⟨t, vx, vy, rfl, ht, nz, b1, b2⟩ := fw xv (List.mem_of_getElem? hx)
          refine ⟨t, _, rfl, SqT.of (s _ _ ht), rfl, .int vx, _, rfl, .int vy, _, rfl, rfl, rfl, ?_⟩
          refine ⟨_, rfl, _, rfl, _, rfl, by show 2 ≤ sizeLine; decide, fun p np => ?_⟩
          have ep := same_new (o := .tup [.int vx, .int vy]) np
          refine ⟨pf, p, fa, fb, fc, vx, vy, rfl, (s7.trans (s.trans ep)) _ _ hf6, upd_same, rb_up ba (by decide), rb_up bb (by decide), rb_up bc (by decide), ab_lt b1 (Nat.lt_of_lt_of_le (show 3 < 2 ^ 2 by decide) (Nat.pow_le_pow_right (by decide) (by decide))), ab_lt b2 (Nat.lt_of_lt_of_le (show 3 < 2 ^ 2 by decide) (Nat.pow_le_pow_right (by decide) (by decide))), ?_⟩
          have hj := List.getElem?_eq_some_iff.mp hx
          refine ⟨_, ep _ _ hD', ?_, ns ++ [fval fa fb fc vx vy], ?_, ?_, ?_, ?_⟩
          · rw [List.length_map, hn]
            exact small1000 (by obtain ⟨z, _⟩ := hj; omega)
          · exact fun a o z => (upd_ne (ne_of_none z hD)).trans ((s.trans ep) a o z)
          · rw [upd_same, List.map_append]
            rfl
          · rw [List.length_append, hn]
            rfl
          · intro m hm'
            rcases List.mem_append.mp hm' with hm' | hm'
            · exact hm m hm'
            · rw [List.mem_singleton.mp hm']
              exact form_min r0.feq r0.red r0.frm.1 nz
        · obtain ⟨ns, s8, hD8, hn, hm⟩ := h
          refine ⟨_, rfl, D, ns, rfl, SqL.of hD8, by omega, fun m hm1 _ => ?_⟩
          have hd8 := (s7.trans s8) _ _ hd6
          refine ⟨_, rfl, pd, _, 0, .int ra, rfl, rfl, SqT.of hd8, atI_nat (j := 0) rfl, m, ra, rfl, rfl, false, (by show V.bl (decide (m < ra)) = V.bl false; rw [decide_eq_false (by have := hm m hm1; omega)]), iteF ?_⟩
          have B8 := B6.same (s7.trans s8)
          refine ⟨_, rfl, b, sb, rfl, B8, fun po oa ob oc H9 Fo Ro oa1 ob1 oc1 ho B9 k9 => ?_⟩
          have hd9 := tk B8 k9 hd8
          have hl9 := tk B8 k9 ((s7.trans s8) _ _ hl)
          have w1 : oa.natAbs < 2 ^ 300 := ab_lt oa1 (Nat.lt_of_lt_of_le (show 40 < 2 ^ 6 by decide) (Nat.pow_le_pow_right (by decide) (by decide)))
          have w2 : ob.natAbs < 2 ^ 300 := ab_lt ob1 (Nat.lt_of_lt_of_le (show 40 < 2 ^ 6 by decide) (Nat.pow_le_pow_right (by decide) (by decide)))
          have w3 : oc.natAbs < 2 ^ 300 := ab_lt oc1 (Nat.lt_of_lt_of_le (show 40 < 2 ^ 6 by decide) (Nat.pow_le_pow_right (by decide) (by decide)))
          refine ⟨_, rfl, po, oa, ob, oc, rfl, SqT.of ho, Fo, w1, w2, w3, fun p0 pe o1 o2 a' b' c' x' y' z' w'' H10 n0 e10 R1 r1 => ?_⟩
          have q1 := red_one r1.red r1.frm.1 Ro Fo.1 r1.feq.symm
          refine ⟨p0, _, 0, .ref pe, rfl, rfl, SqT.of R1.hp, atI_nat (j := 0) rfl, _, rfl, _, _, dtrip R1.hf, dtrip (e10 _ _ ho), rfl, rfl, false, (by rw [ne3_f q1]), iteF ?_⟩
          refine ⟨_, rfl, _, rfl, _, _, dtrip (e10 _ _ ho), dtrip (e10 _ _ hd9), rfl, rfl, ?_⟩
          refine ⟨_, rfl, pl, la, lb, lc, rfl, SqT.of (e10 _ _ hl9), Fl, bl1, bl2, bl3, fun p1 pg o3 o4 a2 b2 c2 x2 y2 z2 w9 H11 n1 e11 R2 r2 => ?_⟩
          have q2 := red_same r0 El r2
          refine ⟨p1, _, 0, .ref pg, rfl, rfl, SqT.of R2.hp, atI_nat (j := 0) rfl, ?_⟩
          refine ⟨_, rfl, po, oa, ob, oc, rfl, SqT.of ((e10.trans e11) _ _ ho), Fo, w1, w2, w3, fun p2 ph o5 o6 a3 b3 c3 x3 y3 z3 w8 H12 n2 e12 R3 r3 => ?_⟩
          have q3 := red_one r3.red r3.frm.1 Ro Fo.1 r3.feq.symm
          refine ⟨p2, _, 0, .ref ph, rfl, rfl, SqT.of R3.hp, atI_nat (j := 0) rfl, _, _, dtrip (e12 _ _ R2.hf), dtrip R3.hf, rfl, rfl, rfl, false, ?_, iteF ?_⟩
          · obtain ⟨rfl, rfl, rfl⟩ := q2
            obtain ⟨rfl, rfl, rfl⟩ := q3
            rw [eqv3, eqv3]
            have t : ∀ x y : Int, decide (x = y) = decide (y = x) := fun x y => by
              by_cases h : x = y
              · rw [decide_eq_true h, decide_eq_true h.symm]
              · rw [decide_eq_false h, decide_eq_false (fun z => h z.symm)]
            rw [t a2, t b2, t c2]
            simp
          exact ⟨_, _, _, _, _, _, _, _, _, _, _, _, _, rfl, (B9.same (e10.trans (e11.trans e12)))⟩
    · rintro σ H2 ⟨y2, y3, y4, y5, y6, y7, y8, y9, y10, y11, y12, y13, y14, rfl, B2⟩
      exact q _
end
theorem all_mk {l : PySem.W.OpenLaw} {w : World} {K : PySem.W.Frag} {h : Heap} {mg : Str → Option Value} {fa : Addr} (X : K.In h) (G : h.Ns mainGlobals mg) (hfa : mg "law" = some (.ref fa))
    {od0 an0 : Option Addr} {sl0 : Array (Option Value)} {oc0 kV0 dc0 pm0 cd0 ct0 : Value} {f0 : Addr}
    (a0 : PySem.W.nsIn K mainGlobals "added" = some (some (.ref f0))) (l0 : K.lookup f0 = some ⟨oc0, od0, .func (PySem.W.fnOf "added" "added" (defArgs s_added) (defBody s_added) (defScope s_added) .none kV0 dc0 pm0 an0 cd0 ct0), sl0⟩) (c0 : PySem.W.codeIn K cd0 "added" = true) (k0 : PySem.W.keepIn K (.ref f0) = true)
    {od1 an1 : Option Addr} {sl1 : Array (Option Value)} {oc1 kV1 dc1 pm1 cd1 ct1 : Value} {f1 : Addr}
    (a1 : PySem.W.nsIn K mainGlobals "scaled" = some (some (.ref f1))) (l1 : K.lookup f1 = some ⟨oc1, od1, .func (PySem.W.fnOf "scaled" "scaled" (defArgs s_scaled) (defBody s_scaled) (defScope s_scaled) .none kV1 dc1 pm1 an1 cd1 ct1), sl1⟩) (c1 : PySem.W.codeIn K cd1 "scaled" = true) (k1 : PySem.W.keepIn K (.ref f1) = true)
    {od2 an2 : Option Addr} {sl2 : Array (Option Value)} {oc2 kV2 dc2 pm2 cd2 ct2 : Value} {f2 : Addr}
    (a2 : PySem.W.nsIn K mainGlobals "reduced" = some (some (.ref f2))) (l2 : K.lookup f2 = some ⟨oc2, od2, .func (PySem.W.fnOf "reduced" "reduced" (defArgs s_reduced) (defBody s_reduced) (defScope s_reduced) .none kV2 dc2 pm2 an2 cd2 ct2), sl2⟩) (c2 : PySem.W.codeIn K cd2 "reduced" = true) (k2 : PySem.W.keepIn K (.ref f2) = true)
    {od3 an3 : Option Addr} {sl3 : Array (Option Value)} {oc3 kV3 dc3 pm3 cd3 ct3 : Value} {f3 : Addr}
    (a3 : PySem.W.nsIn K mainGlobals "_law_source" = some (some (.ref f3))) (l3 : K.lookup f3 = some ⟨oc3, od3, .func (PySem.W.fnOf "_law_source" "_law_source" (defArgs s_source) (defBody s_source) (defScope s_source) .none kV3 dc3 pm3 an3 cd3 ct3), sl3⟩) (c3 : PySem.W.codeIn K cd3 "_law_source" = true) (k3 : PySem.W.keepIn K (.ref f3) = true)
    {od4 an4 : Option Addr} {sl4 : Array (Option Value)} {oc4 kV4 dc4 pm4 cd4 ct4 : Value} {f4 : Addr}
    (a4 : PySem.W.nsIn K mainGlobals "_law_pull" = some (some (.ref f4))) (l4 : K.lookup f4 = some ⟨oc4, od4, .func (PySem.W.fnOf "_law_pull" "_law_pull" (defArgs s_pull) (defBody s_pull) (defScope s_pull) .none kV4 dc4 pm4 an4 cd4 ct4), sl4⟩) (c4 : PySem.W.codeIn K cd4 "_law_pull" = true) (k4 : PySem.W.keepIn K (.ref f4) = true)
    {od5 an5 : Option Addr} {sl5 : Array (Option Value)} {oc5 kV5 dc5 pm5 cd5 ct5 : Value} {f5 : Addr}
    (a5 : PySem.W.nsIn K mainGlobals "_law_of" = some (some (.ref f5))) (l5 : K.lookup f5 = some ⟨oc5, od5, .func (PySem.W.fnOf "_law_of" "_law_of" (defArgs s_of) (defBody s_of) (defScope s_of) .none kV5 dc5 pm5 an5 cd5 ct5), sl5⟩) (c5 : PySem.W.codeIn K cd5 "_law_of" = true) (k5 : PySem.W.keepIn K (.ref f5) = true)
    {od6 an6 : Option Addr} {sl6 : Array (Option Value)} {oc6 kV6 dc6 pm6 cd6 ct6 : Value} {f6 : Addr}
    (a6 : PySem.W.nsIn K mainGlobals "_law_any_pair" = some (some (.ref f6))) (l6 : K.lookup f6 = some ⟨oc6, od6, .func (PySem.W.fnOf "_law_any_pair" "_law_any_pair" (defArgs s_any_pair) (defBody s_any_pair) (defScope s_any_pair) .none kV6 dc6 pm6 an6 cd6 ct6), sl6⟩) (c6 : PySem.W.codeIn K cd6 "_law_any_pair" = true) (k6 : PySem.W.keepIn K (.ref f6) = true)
    {od7 an7 : Option Addr} {sl7 : Array (Option Value)} {oc7 kV7 dc7 pm7 cd7 ct7 : Value} {f7 : Addr}
    (a7 : PySem.W.nsIn K mainGlobals "_law_a_form" = some (some (.ref f7))) (l7 : K.lookup f7 = some ⟨oc7, od7, .func (PySem.W.fnOf "_law_a_form" "_law_a_form" (defArgs s_a_form) (defBody s_a_form) (defScope s_a_form) .none kV7 dc7 pm7 an7 cd7 ct7), sl7⟩) (c7 : PySem.W.codeIn K cd7 "_law_a_form" = true) (k7 : PySem.W.keepIn K (.ref f7) = true)
    {od8 an8 : Option Addr} {sl8 : Array (Option Value)} {oc8 kV8 dc8 pm8 cd8 ct8 : Value} {f8 : Addr}
    (a8 : PySem.W.nsIn K mainGlobals "_law_value_at" = some (some (.ref f8))) (l8 : K.lookup f8 = some ⟨oc8, od8, .func (PySem.W.fnOf "_law_value_at" "_law_value_at" (defArgs s_value_at) (defBody s_value_at) (defScope s_value_at) .none kV8 dc8 pm8 an8 cd8 ct8), sl8⟩) (c8 : PySem.W.codeIn K cd8 "_law_value_at" = true) (k8 : PySem.W.keepIn K (.ref f8) = true)
    {od9 an9 : Option Addr} {sl9 : Array (Option Value)} {oc9 kV9 dc9 pm9 cd9 ct9 : Value} {f9 : Addr}
    (a9 : PySem.W.nsIn K mainGlobals "_law_led" = some (some (.ref f9))) (l9 : K.lookup f9 = some ⟨oc9, od9, .func (PySem.W.fnOf "_law_led" "_law_led" (defArgs s_led) (defBody s_led) (defScope s_led) .none kV9 dc9 pm9 an9 cd9 ct9), sl9⟩) (c9 : PySem.W.codeIn K cd9 "_law_led" = true) (k9 : PySem.W.keepIn K (.ref f9) = true)
    {od10 an10 : Option Addr} {sl10 : Array (Option Value)} {oc10 kV10 dc10 pm10 cd10 ct10 : Value} {f10 : Addr}
    (a10 : PySem.W.nsIn K mainGlobals "_law_few_pairs" = some (some (.ref f10))) (l10 : K.lookup f10 = some ⟨oc10, od10, .func (PySem.W.fnOf "_law_few_pairs" "_law_few_pairs" (defArgs s_few_pairs) (defBody s_few_pairs) (defScope s_few_pairs) .none kV10 dc10 pm10 an10 cd10 ct10), sl10⟩) (c10 : PySem.W.codeIn K cd10 "_law_few_pairs" = true) (k10 : PySem.W.keepIn K (.ref f10) = true)
    {od11 an11 : Option Addr} {sl11 : Array (Option Value)} {oc11 kV11 dc11 pm11 cd11 ct11 : Value} {f11 : Addr}
    (a11 : PySem.W.nsIn K mainGlobals "_law_small_reduced" = some (some (.ref f11))) (l11 : K.lookup f11 = some ⟨oc11, od11, .func (PySem.W.fnOf "_law_small_reduced" "_law_small_reduced" (defArgs s_small_reduced) (defBody s_small_reduced) (defScope s_small_reduced) .none kV11 dc11 pm11 an11 cd11 ct11), sl11⟩) (c11 : PySem.W.codeIn K cd11 "_law_small_reduced" = true) (k11 : PySem.W.keepIn K (.ref f11) = true)
    {od12 an12 : Option Addr} {sl12 : Array (Option Value)} {oc12 kV12 dc12 pm12 cd12 ct12 : Value} {f12 : Addr}
    (a12 : PySem.W.nsIn K mainGlobals "law" = some (some (.ref f12))) (l12 : K.lookup f12 = some ⟨oc12, od12, .func (PySem.W.fnOf "law" "law" (defArgs s_law) (defBody s_law) (defScope s_law) .none kV12 dc12 pm12 an12 cd12 ct12), sl12⟩) (c12 : PySem.W.codeIn K cd12 "law" = true) (k12 : PySem.W.keepIn K (.ref f12) = true)
    (z0 : PySem.W.nsIn K mainGlobals "ValueError" = some none)
    (z1 : PySem.W.nsIn K mainGlobals "range" = some none)
    (z2 : PySem.W.nsIn K mainGlobals "sum" = some none)
    (z3 : PySem.W.nsIn K mainGlobals "list" = some none)
    (z4 : PySem.W.nsIn K mainGlobals "len" = some none)
    (z5 : PySem.W.nsIn K mainGlobals "min" = some none)
    : ∃ fd : FuncData, (∀ (s : Shared) (v : Value), BindsTo s fd ⟨[v], []⟩ [("_law_script", v)]) ∧ ∀ base : Heap, K.In base → base.Ns mainGlobals mg → FnOk l.prog w K mg base CX0 5 fa fd ["_law_script"] (spLaw K) := by
  have e := hfa.symm.trans (PySem.W.mg_of X G a12)
  cases e
  have F0 := fun_mk (st := s_added) l0 c0 k0
  have F1 := fun_mk (st := s_scaled) l1 c1 k1
  have b1 := F1.binds (ps := ["pair", "number"]) fun _ _ _ _ _ _ us hl => match us, hl with | [_, _], _ => rfl
  have F2 := fun_mk (st := s_reduced) l2 c2 k2
  have b2 := F2.binds (ps := ["form"]) fun _ _ _ _ _ _ us hl => match us, hl with | [_], _ => rfl
  have F3 := fun_mk (st := s_source) l3 c3 k3
  have b3 := F3.binds (ps := ["_law_script"]) fun _ _ _ _ _ _ us hl => match us, hl with | [_], _ => rfl
  have F4 := fun_mk (st := s_pull) l4 c4 k4
  have b4 := F4.binds (ps := ["_law_bag", "_law_size"]) fun _ _ _ _ _ _ us hl => match us, hl with | [_, _], _ => rfl
  have F5 := fun_mk (st := s_of) l5 c5 k5
  have b5 := F5.binds (ps := ["_law_bag", "_law_some"]) fun _ _ _ _ _ _ us hl => match us, hl with | [_, _], _ => rfl
  have F6 := fun_mk (st := s_any_pair) l6 c6 k6
  have b6 := F6.binds (ps := ["_law_bag"]) fun _ _ _ _ _ _ us hl => match us, hl with | [_], _ => rfl
  have F7 := fun_mk (st := s_a_form) l7 c7 k7
  have b7 := F7.binds (ps := ["_law_bag"]) fun _ _ _ _ _ _ us hl => match us, hl with | [_], _ => rfl
  have F8 := fun_mk (st := s_value_at) l8 c8 k8
  have b8 := F8.binds (ps := ["_law_form", "_law_pair"]) fun _ _ _ _ _ _ us hl => match us, hl with | [_, _], _ => rfl
  have F9 := fun_mk (st := s_led) l9 c9 k9
  have b9 := F9.binds (ps := ["_law_form", "_law_x", "_law_y"]) fun _ _ _ _ _ _ us hl => match us, hl with | [_, _, _], _ => rfl
  have F10 := fun_mk (st := s_few_pairs) l10 c10 k10
  have b10 := F10.binds (ps := []) fun _ _ _ _ _ _ us hl => match us, hl with | [], _ => rfl
  have F11 := fun_mk (st := s_small_reduced) l11 c11 k11
  have b11 := F11.binds (ps := ["_law_bag"]) fun _ _ _ _ _ _ us hl => match us, hl with | [_], _ => rfl
  have F12 := fun_mk (st := s_law) l12 c12 k12
  have T : Txt K mg := {
    f_added := f0
    d_added := _
    F_added := F0
    g_added := PySem.W.mg_of X G a0
    f_scaled := f1
    d_scaled := _
    F_scaled := F1
    g_scaled := PySem.W.mg_of X G a1
    b_scaled := b1
    f_reduced := f2
    d_reduced := _
    F_reduced := F2
    g_reduced := PySem.W.mg_of X G a2
    b_reduced := b2
    f_source := f3
    d_source := _
    F_source := F3
    g_source := PySem.W.mg_of X G a3
    b_source := b3
    f_pull := f4
    d_pull := _
    F_pull := F4
    g_pull := PySem.W.mg_of X G a4
    b_pull := b4
    f_of := f5
    d_of := _
    F_of := F5
    g_of := PySem.W.mg_of X G a5
    b_of := b5
    f_any_pair := f6
    d_any_pair := _
    F_any_pair := F6
    g_any_pair := PySem.W.mg_of X G a6
    b_any_pair := b6
    f_a_form := f7
    d_a_form := _
    F_a_form := F7
    g_a_form := PySem.W.mg_of X G a7
    b_a_form := b7
    f_value_at := f8
    d_value_at := _
    F_value_at := F8
    g_value_at := PySem.W.mg_of X G a8
    b_value_at := b8
    f_led := f9
    d_led := _
    F_led := F9
    g_led := PySem.W.mg_of X G a9
    b_led := b9
    f_few_pairs := f10
    d_few_pairs := _
    F_few_pairs := F10
    g_few_pairs := PySem.W.mg_of X G a10
    b_few_pairs := b10
    f_small_reduced := f11
    d_small_reduced := _
    F_small_reduced := F11
    g_small_reduced := PySem.W.mg_of X G a11
    b_small_reduced := b11
    n_ValueError := PySem.W.mg_none_of X G z0
    n_range := PySem.W.mg_none_of X G z1
    n_sum := PySem.W.mg_none_of X G z2
    n_list := PySem.W.mg_none_of X G z3
    n_len := PySem.W.mg_none_of X G z4
    n_min := PySem.W.mg_none_of X G z5 }
  exact ⟨PySem.W.fnOf "law" "law" (defArgs s_law) (defBody s_law) (defScope s_law) .none kV12 dc12 pm12 an12 cd12 ct12, fun s v => .of_eq rfl, fun base _ _ => ok_law F12 T⟩
end Gy
open PySem PySem.W PyProof.Rows
set_option maxRecDepth 100000 in
set_option maxHeartbeats 0 in
theorem PySem.Challenge.cw_grainyard_k48_whole_one_reduced_form_holds : PySem.Challenge.rw_grainyard_k48_whole_one_reduced_form.Holds := by
  w_on; o_law; k_head; (case hw => w_witness2)
  k_fill
  refine L2.walk_of (l := PySem.Challenge.rw_grainyard_k48_whole_one_reduced_form) (n := 63) (k := 5) (x := "_law_script") (CX := fun _ => L2.CX0) (sp := fun w => Gy.spLaw _) rfl (by decide) rfl ⟨rfl, by decide, by decide⟩ (fun w h Y => PySem.W.kIn_of Y) ?F (fun _ _ a ns hl _ hS => ⟨a, ns, rfl, hS, hl, fun _ => rfl⟩) (fun _ _ _ _ _ h => h)
  case F =>
    intro w mg fa h KX G hmg
    refine' Gy.all_mk KX G hmg ?a0 ?l0 ?c0 ?k0 ?a1 ?l1 ?c1 ?k1 ?a2 ?l2 ?c2 ?k2 ?a3 ?l3 ?c3 ?k3 ?a4 ?l4 ?c4 ?k4 ?a5 ?l5 ?c5 ?k5 ?a6 ?l6 ?c6 ?k6 ?a7 ?l7 ?c7 ?k7 ?a8 ?l8 ?c8 ?k8 ?a9 ?l9 ?c9 ?k9 ?a10 ?l10 ?c10 ?k10 ?a11 ?l11 ?c11 ?k11 ?a12 ?l12 ?c12 ?k12 ?z0 ?z1 ?z2 ?z3 ?z4 ?z5
    (case a0 => k_is); (case l0 => k_is); (case c0 => k_is); (case k0 => k_is); (case a1 => k_is); (case l1 => k_is); (case c1 => k_is); (case k1 => k_is); (case a2 => k_is); (case l2 => k_is); (case c2 => k_is); (case k2 => k_is); (case a3 => k_is); (case l3 => k_is); (case c3 => k_is); (case k3 => k_is); (case a4 => k_is); (case l4 => k_is); (case c4 => k_is); (case k4 => k_is); (case a5 => k_is); (case l5 => k_is); (case c5 => k_is); (case k5 => k_is); (case a6 => k_is); (case l6 => k_is); (case c6 => k_is); (case k6 => k_is); (case a7 => k_is); (case l7 => k_is); (case c7 => k_is); (case k7 => k_is); (case a8 => k_is); (case l8 => k_is); (case c8 => k_is); (case k8 => k_is); (case a9 => k_is); (case l9 => k_is); (case c9 => k_is); (case k9 => k_is); (case a10 => k_is); (case l10 => k_is); (case c10 => k_is); (case k10 => k_is); (case a11 => k_is); (case l11 => k_is); (case c11 => k_is); (case k11 => k_is); (case a12 => k_is); (case l12 => k_is); (case c12 => k_is); (case k12 => k_is); (case z0 => k_is); (case z1 => k_is); (case z2 => k_is); (case z3 => k_is); (case z4 => k_is); (case z5 => k_is)

