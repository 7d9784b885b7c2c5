import PyProof.Rows.All
import Wide.All
import OpenK.AllK
import Wide.FinOn
import HandS.ForMost
import HandS.Wide
import HandS.WideBits
import HandS.IsInst
import HandS.Defaults
import HandS.Star
import HandS.Evl
import HandS.NoneIn
import HandS.Style
import HandS.SlotsOwn
import HandS.MakeKwOnly
import HandS.ForExc
import HandS.ExcInit
import HandS.MapJoin
import HandS.NestedK
import HandS.Lambda
import HandS.EndTab
import HandS.TryMany
import HandS.HotCalls
import HandS.ExcField
import HandS.ClsMeth
import KE.KExcSuper
import KE.KExcIs
import KE.KOpsOwn
import KE.KNestM
import HandS.Property
import KE.DataEq
import HandS.Deep
import HandS.TupAny
import HandS.Zip
import HandS.Dict
import HandS.More
import HandS.FStr
import HandS.Text
import HandS.RaiseMore
import HandS.DictComp
import HandS.DictTup
import HandS.Conv
import HandS.Comp
import KE.KDictKeyed
import KE.KeyNested
import KE.SortData
import KE.KDictItemsList
import KE.GoesMore
import HandS.Walk
import HandS.StrMore
import HandS.GenList
import HandS.RepeatKit
import PySem.Challenge.RW_grainyard_k07_whole_fractions_come_close
set_option Elab.async false
set_option linter.all false
set_option maxRecDepth 100000
set_option maxHeartbeats 4000000
namespace Gy
open PySem PySem.Spec PyProof.Rows L2
theorem sq_nn (x : Int) : 0 ≤ x * x := by
  rcases Int.le_total 0 x with h | h
  · exact Int.mul_nonneg h h
  · exact Int.mul_nonneg_of_nonpos_of_nonpos h h
theorem sq_le {x y : Int} (h0 : 0 ≤ x) (h : x ≤ y) : x * x ≤ y * y := Int.mul_le_mul h h h0 (Int.le_trans h0 h)
theorem sq_lt {x y : Int} (h0 : 0 ≤ x) (h : x < y) : x * x < y * y := by
  have h1 : (x + 1) * (x + 1) ≤ y * y := sq_le (by omega) (by omega)
  grind
theorem lt_of_sq {x y : Int} (h0 : 0 ≤ y) (h : x * x < y * y) : x < y := by
  rcases Int.lt_or_le x y with z | z
  · exact z
  · have := sq_le h0 z
    omega
theorem le_of_sq {x y : Int} (h0 : 0 ≤ y) (h : x * x ≤ y * y) : x ≤ y := by
  rcases Int.lt_or_le y x with z | z
  · have := sq_lt h0 z
    omega
  · exact z
/-- Newton's step from above -/
theorem newton_up {g n : Int} (hg : 0 < g) (hn : 0 ≤ n) : n < ((g + n / g) / 2 + 1) * ((g + n / g) / 2 + 1) := by
  have hq : 0 ≤ n / g := Int.ediv_nonneg hn (by omega)
  have h1 : n < g * (n / g + 1) := by
    have := Int.lt_ediv_add_one_mul_self n hg
    grind
  generalize n / g = q at hq h1 ⊢
  have h2 : g + q + 1 ≤ 2 * ((g + q) / 2 + 1) := by omega
  generalize (g + q) / 2 = r at h2 ⊢
  have h3 := sq_nn (g - (q + 1))
  have h4 := sq_le (show 0 ≤ g + q + 1 by omega) h2
  grind
theorem newton_dn {g n : Int} (hg : 0 < g) (h : n < g * g) : (g + n / g) / 2 < g := by
  have h1 : n / g < g := Int.ediv_lt_of_lt_mul hg h
  omega
theorem newton_nn {g n : Int} (hg : 0 < g) (hn : 0 ≤ n) : 0 ≤ (g + n / g) / 2 := by
  have hq : 0 ≤ n / g := Int.ediv_nonneg hn (by omega)
  omega
/-- no root times a square is a square -/
theorem no_square {d k : Int} (hk : 0 ≤ k) (h1 : k * k < d) (h2 : d < (k + 1) * (k + 1)) : ∀ (n : Nat) (b w : Int), 0 < b → 0 ≤ w → b.toNat ≤ n → w * w ≠ d * b * b
  | 0, b, w, hb, _, hn => by omega
  | n + 1, b, w, hb, hw, hn => fun e => by
    have hbb : 0 < b * b := Int.mul_pos hb hb
    have l1 : (k * b) * (k * b) < w * w := by
      have := Int.mul_lt_mul_of_pos_right h1 hbb
      grind
    have l2 : w * w < ((k + 1) * b) * ((k + 1) * b) := by
      have := Int.mul_lt_mul_of_pos_right h2 hbb
      grind
    have m1 : k * b < w := lt_of_sq hw l1
    have m2 : w < (k + 1) * b := lt_of_sq (Int.mul_nonneg (by omega) (by omega)) l2
    have m3 : w - k * b < b := by grind
    refine no_square hk h1 h2 n (w - k * b) (d * b - k * w) (by omega) ?_ (by omega) (by grind)
    have : (k * w) * b ≤ (d * b) * b := by
      have z := Int.mul_le_mul_of_nonneg_right (Int.le_of_lt m1) hw
      grind
    have z : k * w ≤ d * b := Int.le_of_mul_le_mul_right this hb
    omega
def topS (i : Nat) : Stmt := PySem.Challenge.pw_grainyard_k07_whole_fractions_come_close.main.body.getD i (.Pass ⟨0, 0, 0, 0⟩)
abbrev s_whole_root : Stmt := topS 4
theorem sc_whole_root : FnScope ["number", "guess"] ["number"] (defScope s_whole_root) := ⟨rfl, rfl, rfl, by decide +kernel, rfl, by decide +kernel, by decide +kernel⟩
abbrev s_added : Stmt := topS 5
theorem sc_added : FnScope ["pairs", "a", "b"] ["pairs"] (defScope s_added) := ⟨rfl, rfl, rfl, by decide +kernel, rfl, by decide +kernel, by decide +kernel⟩
abbrev s_scaled : Stmt := topS 6
theorem sc_scaled : FnScope ["pair", "number", "a", "b"] ["pair", "number"] (defScope s_scaled) := ⟨rfl, rfl, rfl, by decide +kernel, rfl, by decide +kernel, by decide +kernel⟩
abbrev s_floor_of : Stmt := topS 7
theorem sc_floor_of : FnScope ["pair", "root", "whole", "a", "b"] ["pair", "root"] (defScope s_floor_of) := ⟨rfl, rfl, rfl, by decide +kernel, rfl, by decide +kernel, by decide +kernel⟩
abbrev s_endless_fractions : Stmt := topS 9
theorem sc_endless_fractions : GScope ["root", "whole", "m", "t", "k", "last", "before"] ["root"] (defScope s_endless_fractions) := ⟨rfl, rfl, rfl, by decide +kernel, rfl, by decide +kernel, by decide +kernel⟩
abbrev s_fractions : Stmt := topS 10
theorem sc_fractions : GScope ["root", "count", "number", "fraction"] ["root", "count"] (defScope s_fractions) := ⟨rfl, rfl, rfl, by decide +kernel, rfl, by decide +kernel, by decide +kernel⟩
abbrev s_source : Stmt := topS 12
theorem sc_source : FnScope ["_law_script", "_law_mix", "_law_cell"] ["_law_script"] (defScope s_source) := ⟨rfl, rfl, rfl, by decide +kernel, rfl, by decide +kernel, by decide +kernel⟩
abbrev s_pull : Stmt := topS 13
theorem sc_pull : FnScope ["_law_bag", "_law_size", "_law_mix", "_law_cell", "_law_found"] ["_law_bag", "_law_size"] (defScope s_pull) := ⟨rfl, rfl, rfl, by decide +kernel, rfl, by decide +kernel, by decide +kernel⟩
abbrev s_of : Stmt := topS 14
theorem sc_of : FnScope ["_law_bag", "_law_some"] ["_law_bag", "_law_some"] (defScope s_of) := ⟨rfl, rfl, rfl, by decide +kernel, rfl, by decide +kernel, by decide +kernel⟩
abbrev s_roots : Stmt := topS 15
theorem sc_roots : FnScope ["_law_d"] [] (defScope s_roots) := ⟨rfl, rfl, rfl, by decide +kernel, rfl, by decide +kernel, by decide +kernel⟩
abbrev s_a_root : Stmt := topS 16
theorem sc_a_root : FnScope ["_law_bag"] ["_law_bag"] (defScope s_a_root) := ⟨rfl, rfl, rfl, by decide +kernel, rfl, by decide +kernel, by decide +kernel⟩
abbrev s_lsign : Stmt := topS 17
theorem sc_lsign : FnScope ["_law_pair", "_law_root", "_law_value"] ["_law_pair", "_law_root"] (defScope s_lsign) := ⟨rfl, rfl, rfl, by decide +kernel, rfl, by decide +kernel, by decide +kernel⟩
abbrev s_closer : Stmt := topS 18
theorem sc_closer : FnScope ["_law_p", "_law_q", "_law_more", "_law_next_q", "_law_at", "_law_one", "_law_other"] ["_law_p", "_law_q", "_law_more", "_law_next_q", "_law_at"] (defScope s_closer) := ⟨rfl, rfl, rfl, by decide +kernel, rfl, by decide +kernel, by decide +kernel⟩
abbrev s_law : Stmt := topS 19
theorem sc_law : FnScope ["_law_script", "_law_bag", "_law_turn", "_law_rows", "_law_at", "_law_root", "_law_count", "_law_p", "_law_q", "_law_more", "_law_next_q"] ["_law_script"] (defScope s_law) := ⟨rfl, rfl, rfl, by decide +kernel, rfl, by decide +kernel, by decide +kernel⟩
set_option genInjectivity false in
set_option genSizeOf false in
structure Txt (K : PySem.W.Frag) (mg : Str → Option Value) where
  f_whole_root : Addr
  d_whole_root : FuncData
  F_whole_root : Fun K "whole_root" "whole_root" s_whole_root f_whole_root d_whole_root
  g_whole_root : mg "whole_root" = some (.ref f_whole_root)
  b_whole_root : Binds K d_whole_root ["number"] []
  f_added : Addr
  d_added : FuncData
  F_added : Fun K "added" "added" s_added f_added d_added
  g_added : mg "added" = some (.ref f_added)
  f_scaled : Addr
  d_scaled : FuncData
  F_scaled : Fun K "scaled" "scaled" s_scaled f_scaled d_scaled
  g_scaled : mg "scaled" = some (.ref f_scaled)
  b_scaled : Binds K d_scaled ["pair", "number"] []
  f_floor_of : Addr
  d_floor_of : FuncData
  F_floor_of : Fun K "floor_of" "floor_of" s_floor_of f_floor_of d_floor_of
  g_floor_of : mg "floor_of" = some (.ref f_floor_of)
  b_floor_of : Binds K d_floor_of ["pair", "root"] []
  f_endless_fractions : Addr
  d_endless_fractions : FuncData
  F_endless_fractions : Fun K "endless_fractions" "endless_fractions" s_endless_fractions f_endless_fractions d_endless_fractions
  g_endless_fractions : mg "endless_fractions" = some (.ref f_endless_fractions)
  b_endless_fractions : Binds K d_endless_fractions ["root"] []
  f_fractions : Addr
  d_fractions : FuncData
  F_fractions : Fun K "fractions" "fractions" s_fractions f_fractions d_fractions
  g_fractions : mg "fractions" = some (.ref f_fractions)
  b_fractions : Binds K d_fractions ["root", "count"] []
  f_source : Addr
  d_source : FuncData
  F_source : Fun K "_law_source" "_law_source" s_source f_source d_source
  g_source : mg "_law_source" = some (.ref f_source)
  b_source : Binds K d_source ["_law_script"] []
  f_pull : Addr
  d_pull : FuncData
  F_pull : Fun K "_law_pull" "_law_pull" s_pull f_pull d_pull
  g_pull : mg "_law_pull" = some (.ref f_pull)
  b_pull : Binds K d_pull ["_law_bag", "_law_size"] []
  f_of : Addr
  d_of : FuncData
  F_of : Fun K "_law_of" "_law_of" s_of f_of d_of
  g_of : mg "_law_of" = some (.ref f_of)
  b_of : Binds K d_of ["_law_bag", "_law_some"] []
  f_roots : Addr
  d_roots : FuncData
  F_roots : Fun K "_law_roots" "_law_roots" s_roots f_roots d_roots
  g_roots : mg "_law_roots" = some (.ref f_roots)
  b_roots : Binds K d_roots [] []
  f_a_root : Addr
  d_a_root : FuncData
  F_a_root : Fun K "_law_a_root" "_law_a_root" s_a_root f_a_root d_a_root
  g_a_root : mg "_law_a_root" = some (.ref f_a_root)
  b_a_root : Binds K d_a_root ["_law_bag"] []
  f_lsign : Addr
  d_lsign : FuncData
  F_lsign : Fun K "_law_sign" "_law_sign" s_lsign f_lsign d_lsign
  g_lsign : mg "_law_sign" = some (.ref f_lsign)
  b_lsign : Binds K d_lsign ["_law_pair", "_law_root"] []
  f_closer : Addr
  d_closer : FuncData
  F_closer : Fun K "_law_closer" "_law_closer" s_closer f_closer d_closer
  g_closer : mg "_law_closer" = some (.ref f_closer)
  b_closer : Binds K d_closer ["_law_p", "_law_q", "_law_more", "_law_next_q", "_law_at"] []
  n_ValueError : mg "ValueError" = none
  n_zip : mg "zip" = none
  n_range : mg "range" = none
  n_sum : mg "sum" = none
  n_list : mg "list" = none
  n_int : mg "int" = none
  n_len : mg "len" = none
  n_abs : mg "abs" = none
/-! ### heaps, and the bag that the draws change -/
def Keep (b : Addr) (H H' : Hp) : Prop := ∀ a o, a ≠ b → H a = some o → H' a = some o
theorem Keep.refl {b : Addr} (H : Hp) : Keep b H H := fun _ _ _ e => e
theorem Keep.trans {b : Addr} {H H1 H2 : Hp} (x : Keep b H H1) (y : Keep b H1 H2) : Keep b H H2 := fun a o n e => y a o n (x a o n e)
theorem keep_put {b : Addr} {H : Hp} {o : HO} : Keep b H (upd H b o) := fun a u n e => (upd_ne n).trans e
theorem keep_new {b p : Addr} {H : Hp} {o : HO} (hp : H p = none) : Keep b H (upd H p o) := fun a u _ e => (upd_ne (ne_of_none e hp)).trans e
theorem same_new {p : Addr} {H : Hp} {o : HO} (hp : H p = none) : Same H (upd H p o) := fun a u e => (upd_ne (ne_of_none e hp)).trans e
theorem keep_of {b : Addr} {H H' : Hp} (s : Same H H') : Keep b H H' := fun a o _ e => s a o e
theorem Same.keep {b : Addr} {H H1 H2 : Hp} (s : Same H H1) (k : Keep b H1 H2) (hb : H b = none) : Same H H2 := fun a o e => k a o (ne_of_none e hb) (s a o e)
structure BagAt (H : Hp) (b s : Addr) (ns : List Int) (i j m c : Int) : Prop where
  hb : H b = some (.lst [.ref s, .int i, .int j, .int m, .int c])
  hs : H s = some (.lst (ns.map V.int))
  i0 : 0 ≤ i
  i1 : i ≤ (ns.length : Int)
  m0 : 0 ≤ m
  m1 : m < 2147483399
def Bag (H : Hp) (b sb : Addr) : Prop := ∃ (ns : List Int) (i j m c : Int), BagAt H b sb ns i j m c
theorem BagAt.ne {H : Hp} {b s : Addr} {ns : List Int} {i j m c : Int} (B : BagAt H b s ns i j m c) : s ≠ b := ne_of B.hs B.hb (by
  intro e
  injection e with e
  cases ns with
  | nil => simp at e
  | cons x r => simp at e)
theorem BagAt.put {H : Hp} {b s : Addr} {ns : List Int} {i j m c : Int} (B : BagAt H b s ns i j m c) {i' j' m' c' : Int} (h0 : 0 ≤ i') (h1 : i' ≤ (ns.length : Int)) (h2 : 0 ≤ m') (h3 : m' < 2147483399) :
    BagAt (upd H b (.lst [.ref s, .int i', .int j', .int m', .int c'])) b s ns i' j' m' c' := ⟨upd_same, (upd_ne B.ne).trans B.hs, h0, h1, h2, h3⟩
theorem BagAt.same {H H' : Hp} {b s : Addr} {ns : List Int} {i j m c : Int} (B : BagAt H b s ns i j m c) (e : Same H H') : BagAt H' b s ns i j m c := ⟨e _ _ B.hb, e _ _ B.hs, B.i0, B.i1, B.m0, B.m1⟩
theorem Bag.same {H H' : Hp} {b sb : Addr} (B : Bag H b sb) (e : Same H H') : Bag H' b sb := by
  obtain ⟨ns, i, j, m, c, B⟩ := B
  exact ⟨ns, i, j, m, c, B.same e⟩
theorem Bag.new {H : Hp} {b sb p : Addr} {o : HO} (B : Bag H b sb) (hp : H p = none) : Bag (upd H p o) b sb := B.same (same_new hp)
theorem Bag.ne {H : Hp} {b sb p : Addr} (B : Bag H b sb) (hp : H p = none) : p ≠ b := by
  obtain ⟨ns, i, j, m, c, B⟩ := B
  exact (ne_of_none B.hb hp).symm
theorem Bag.ne2 {H : Hp} {b sb p : Addr} (B : Bag H b sb) (hp : H p = none) : p ≠ sb := by
  obtain ⟨ns, i, j, m, c, B⟩ := B
  exact (ne_of_none B.hs hp).symm
theorem Bag.tup {H : Hp} {b sb p : Addr} {xs : List V} (B : Bag H b sb) (hp : H p = some (.tup xs)) : p ≠ b := by
  obtain ⟨ns, i, j, m, c, B⟩ := B
  exact ne_of hp B.hb (by intro z; cases z)
theorem Bag.put {H : Hp} {b sb l : Addr} {o : HO} (B : Bag H b sb) (h1 : l ≠ b) (h2 : l ≠ sb) : Bag (upd H l o) b sb := by
  obtain ⟨ns, i, j, m, c, B⟩ := B
  exact ⟨ns, i, j, m, c, (upd_ne h1.symm).trans B.hb, (upd_ne h2.symm).trans B.hs, B.i0, B.i1, B.m0, B.m1⟩
theorem Keep.list {K : PySem.W.Frag} {H H' : Hp} {b p : Addr} {xs : List V} (k : Keep b H H') (hp : p ≠ b) (h : H p = some (.lst xs)) : SqL K H' p xs := SqL.of (k _ _ hp h)
theorem at_some {α : Type} {xs : List α} {i : Int} (h0 : 0 ≤ i) (h1 : i < (xs.length : Int)) : ∃ v, xs[i.toNat]? = some v ∧ atI xs i = some v := by
  obtain ⟨n, rfl⟩ := Int.eq_ofNat_of_zero_le h0
  have hl : n < xs.length := by omega
  exact ⟨xs[n], by simp [hl], atI_nat (by simp [hl])⟩
theorem at_ex {ns : List Int} {i : Int} (h0 : 0 ≤ i) (h1 : i < (ns.length : Int)) : ∃ z, atI (ns.map V.int) i = some (.int z) := by
  obtain ⟨n, rfl⟩ := Int.eq_ofNat_of_zero_le h0
  have hl : n < ns.length := by omega
  exact ⟨ns[n], atI_nat (by simp [hl])⟩
/-! ### f(k = v, ..): keywords alone -/
section
variable {X : Cx}
theorem pe_kwOnly {CX : CXT} {k : Nat} {f : Addr} {fd : FuncData} {ps ks : List Str} {sp : Sp} {E : XK} {x : Str} {p pos : Pos} {kws : List Keyword} {tk : TA} {g : List Value → List Value → List Value} {gV : List V → List V → List V}
    (F : FnOk X.prog X.w X.K X.mg X.base CX k f fd ps sp) (hr : Room k X.A) (hg : Gl X x) (hm : X.mg x = some (.ref f))
    (hk : PySem.W.keepIn X.K (.ref f) = true) (hb : KBn X.K fd ps 0 ks g gV) (hx : Passes CX X E) (hkw : PK X kws tk)
    (hall : (backToKw pos (keywordEach kws X.env)).all (·.1.isSome) = true := by rfl)
    (hks : (backToKw pos (keywordEach kws X.env)).filterMap (·.1) = ks := by rfl)
    (hdb : (x == ("__debug__" : Str)) = false := by decide)
    (hpl : ((backTo pos (starEach [] X.env)).any (·.1) || (backToKw pos (keywordEach kws X.env)).any (·.1.isNone)) = false := by rfl) :
    PE X (.Call (.Name x p) [] kws pos) (fun σ H Q => tk σ H fun zs H2 => zs.length = ks.length ∧ sp (gV [] zs) H2 Q E) := by
  refine ⟨fun pins s σ H Q I h => wpAny_Call_Name_kw (ld_glob I hg hm ?_ hdb)⟩
  refine PySem.W.callWith_KW0 (h₀ := X.base) I.ok.mod.kin hk hall ?_ hpl
  refine thn (hkw.run pos pins s σ H _ I h) fun ws s2 ⟨zs, H2, I2, rz, l2, q2⟩ => ⟨I2.kIn, ?_⟩
  rw [hks]
  exact run_fnN (us := []) (vs := []) F hr hb hx I2 .nil rz rfl l2 q2
end
/-! ### the law's own draws -/
section
variable {base : Heap} {K : PySem.W.Frag} {mg : Str → Option Value} {P : Program} {w : World}
def spPull : Sp := fun vs H Q _ => ∃ (b sb : Addr) (n : Int), vs = [.ref b, .int n] ∧ Bag H b sb ∧ 0 < n ∧ n.natAbs < 2 ^ 100 ∧ ∀ z H', 0 ≤ z → z < n → Bag H' b sb → Keep b H H' → Q (.int z) H'
theorem ok_pull (T : Txt K mg) : FnOk P w K mg base CX0 1 T.f_pull T.d_pull ["_law_bag", "_law_size"] spPull := by
  refine T.F_pull.ok sc_pull (fun vs H Q E h => ?_) (fun cdv A outer s H vs Q E hr h => ?_)
  · obtain ⟨b, sb, n, rfl, _⟩ := h
    rfl
  · obtain ⟨b, s1, n, rfl, ⟨ns, i, j, m, c, B⟩, h0, h1, q⟩ := h
    refine ⟨_, (pss_cons (ps_asg (pe_op op_add (pe_ix ix_list (pv 0) pe_int (fun _ _ => rfl)) pe_int) (pg_sub (pv 0) pe_int set_list))
      (Evl.pss_cut (ps_if (PW.pt (pw_and (pt_cmpR op_eq (pe_ix ix_list (pv 0) pe_int (fun _ _ => rfl)) pe_int (nomark _)) (pw_and1 (pt_cmpR op_lt (pe_ix ix_list (pv 0) pe_int (fun _ _ => rfl)) (pe_callB call_len_seq (by rfl) T.n_len (by decide +kernel) (pa_cons (pe_ix ix_list (pv 0) pe_int (fun _ _ => rfl)) pa_nil)) (nomark _))))) (pss_cons (ps_set (i := 3) sc_pull.nd rfl (Or.inl rfl) (pe_ix ix_list (pe_ix ix_list (pv 0) pe_int (fun _ _ => rfl)) (pe_ix ix_list (pv 0) pe_int (fun _ _ => rfl)) (fun _ _ => rfl)))
      (pss_cons (ps_asg (pe_op op_add (pe_ix ix_list (pv 0) pe_int (fun _ _ => rfl)) pe_int) (pg_sub (pv 0) pe_int set_list))
      (pss_one (ps_if (pt_cmpR op_ge (pv 3) (pe_op op_pow pe_int pe_int) (nomark _)) (pss_one (ps_asg (pv 3) (pg_sub (pv 0) pe_int set_list))) (pss_cons (ps_set (i := 2) sc_pull.nd rfl (Or.inl rfl) (pe_op op_add (pe_op op_mul (pe_ix ix_list (pv 0) pe_int (fun _ _ => rfl)) pe_int) (pe_op op_mul (pe_op op_mod (pv 3) pe_int) pe_int)))
      (pss_one (ps_asg (pe_op op_mod (pe_op op_add (pv 2) pe_int) pe_int) (pg_sub (pv 0) pe_int set_list)))))))) pss_nil)
      (pss_cons (ps_if (pt_cmpR op_gt (pe_ix ix_list (pv 0) pe_int (fun _ _ => rfl)) pe_int (nomark _)) (pss_cons (ps_set (i := 4) sc_pull.nd rfl (Or.inl rfl) (pe_op op_mod (pe_ix ix_list (pv 0) pe_int (fun _ _ => rfl)) (pv 1)))
      (pss_cons (ps_asg (pe_op op_fdivW (pe_ix ix_list (pv 0) pe_int (fun _ _ => rfl)) (pv 1)) (pg_sub (pv 0) pe_int set_list))
      (pss_one (ps_ret (pv 4))))) pss_nil)
      (pss_cons (ps_set (i := 2) sc_pull.nd rfl (Or.inl rfl) (pe_op op_add (pe_op op_mul (pe_op op_mul (pe_ix ix_list (pv 0) pe_int (fun _ _ => rfl)) (pe_ix ix_list (pv 0) pe_int (fun _ _ => rfl))) pe_int) (pe_op op_mul (pe_ix ix_list (pv 0) pe_int (fun _ _ => rfl)) pe_int)))
      (pss_cons (ps_asg (pe_op op_mod (pe_op op_add (pv 2) (pe_op op_mul pe_int (pe_ix ix_list (pv 0) pe_int (fun _ _ => rfl)))) pe_int) (pg_sub (pv 0) pe_int set_list))
      (pss_one (ps_ret (pe_op op_mod (pe_op op_fdiv (pe_ix ix_list (pv 0) pe_int (fun _ _ => rfl)) pe_int) (pv 1))))))))), ?_⟩
    -- the count of the draws
    have B1 := B.put (j' := j) (c' := c + 1) B.i0 B.i1 B.m0 B.m1
    refine ⟨.ref b, rfl, b, _, 4, .int c, rfl, rfl, SqL.of B.hb, atI_nat (j := 4) rfl, c, 1, rfl, rfl, .ref b, rfl, b, _, 4, 4, rfl, rfl, B.hb, rfl, ?_⟩
    refine ⟨fun σ H' => ∃ y2 y3 y4, σ = [some (.ref b), some (.int n), y2, y3, y4] ∧ Bag H' b s1 ∧ Keep b H H', ?_, ?_⟩
    · -- the next cell of the script
      refine ⟨.ref b, rfl, b, _, 2, .int j, rfl, rfl, SqL.of B1.hb, atI_nat (j := 2) rfl, rfl, _, rfl, ite2 (fun e => ?_) (fun e => ?_)⟩
      · refine ⟨.ref b, rfl, b, _, 1, .int i, rfl, rfl, SqL.of B1.hb, atI_nat (j := 1) rfl, .ref b, rfl, b, _, 0, .ref s1, rfl, rfl, SqL.of B1.hb, atI_nat (j := 0) rfl, s1, _, rfl, .inl (SqL.of B1.hs), i, _, rfl, rfl, _, rfl, ite2 (fun e2 => ?_) (fun e2 => ?_)⟩
        · have e3 : i < (ns.length : Int) := by
            have := of_decide_eq_true e2
            rw [List.length_map] at this
            exact this
          obtain ⟨z, hz⟩ := at_ex B.i0 e3
          have B2 := B1.put (j' := j) (c' := c + 1) (show 0 ≤ i + 1 by have := B.i0; omega) (show i + 1 ≤ (ns.length : Int) by omega) B.m0 B.m1
          refine ⟨.ref b, rfl, b, _, 0, .ref s1, rfl, rfl, SqL.of B1.hb, atI_nat (j := 0) rfl, .ref b, rfl, b, _, 1, .int i, rfl, rfl, SqL.of B1.hb, atI_nat (j := 1) rfl, s1, _, i, _, rfl, rfl, SqL.of B1.hs, hz, ?_⟩
          refine ⟨.ref b, rfl, b, _, 1, .int i, rfl, rfl, SqL.of B1.hb, atI_nat (j := 1) rfl, i, 1, rfl, rfl, .ref b, rfl, b, _, 1, 1, rfl, rfl, B1.hb, rfl, ?_⟩
          refine ⟨_, rfl, 10, 18, rfl, rfl, ⟨by decide, by decide, by decide⟩, z, _, rfl, rfl, _, rfl, ite2 (fun e4 => ?_) (fun e4 => ?_)⟩
          · have B3 := B2.put (j' := z) (c' := c + 1) (show 0 ≤ i + 1 by have := B.i0; omega) (show i + 1 ≤ (ns.length : Int) by omega) B.m0 B.m1
            refine ⟨_, rfl, .ref b, rfl, b, _, 2, 2, rfl, rfl, B2.hb, rfl, ?_⟩
            exact ⟨_, _, _, rfl, ⟨ns, _, _, _, _, B3⟩, keep_put.trans (keep_put.trans keep_put)⟩
          · refine ⟨.ref b, rfl, b, _, 3, .int m, rfl, rfl, SqL.of B2.hb, atI_nat (j := 3) rfl, m, 40014, rfl, rfl, .inr ⟨by decide, by decide⟩, _, rfl, z, 2147483399, rfl, rfl, (by show (0 : Int) < 2147483399; decide), _, 69069, rfl, rfl, .inr ⟨by decide, by decide⟩, _, _, rfl, rfl, ?_⟩
            refine ⟨_, rfl, _, 11, rfl, rfl, _, 2147483399, rfl, rfl, (by show (0 : Int) < 2147483399; decide), .ref b, rfl, b, _, 3, 3, rfl, rfl, B2.hb, rfl, ?_⟩
            have B3 := B2.put (j' := j) (m' := (m * 40014 + z % 2147483399 * 69069 + 11) % 2147483399) (c' := c + 1) (show 0 ≤ i + 1 by have := B.i0; omega) (show i + 1 ≤ (ns.length : Int) by omega) (by omega) (by omega)
            exact ⟨_, _, _, rfl, ⟨ns, _, _, _, _, B3⟩, keep_put.trans (keep_put.trans keep_put)⟩
        · exact ⟨_, _, _, rfl, ⟨ns, _, _, _, _, B1⟩, keep_put⟩
      · exact ⟨_, _, _, rfl, ⟨ns, _, _, _, _, B1⟩, keep_put⟩
    · rintro σ H' ⟨y2, y3, y4, rfl, ⟨ns2, i2, j2, m2, c2, B2⟩, k2⟩
      refine ⟨.ref b, rfl, b, _, 2, .int j2, rfl, rfl, SqL.of B2.hb, atI_nat (j := 2) rfl, j2, 0, rfl, rfl, _, rfl, ite2 (fun e => ?_) (fun e => ?_)⟩
      · have B3 := B2.put (j' := j2 / n) (c' := c2) B2.i0 B2.i1 B2.m0 B2.m1
        refine ⟨.ref b, rfl, b, _, 2, .int j2, rfl, rfl, SqL.of B2.hb, atI_nat (j := 2) rfl, .int n, rfl, j2, n, rfl, rfl, h0, ?_⟩
        refine ⟨.ref b, rfl, b, _, 2, .int j2, rfl, rfl, SqL.of B2.hb, atI_nat (j := 2) rfl, .int n, rfl, j2, n, rfl, rfl, wide_div h0 h1 (by decide) (by decide), .ref b, rfl, b, _, 2, 2, rfl, rfl, B2.hb, rfl, ?_⟩
        exact ⟨_, rfl, q _ _ (Int.emod_nonneg _ (by omega)) (Int.emod_lt_of_pos _ h0) ⟨ns2, _, _, _, _, B3⟩ (k2.trans keep_put)⟩
      · have hm : -(2 ^ 64) < m2 ∧ m2 < 2 ^ 64 := ⟨by have := B2.m0; omega, by have := B2.m1; omega⟩
        refine ⟨.ref b, rfl, b, _, 3, .int m2, rfl, rfl, SqL.of B2.hb, atI_nat (j := 3) rfl, .ref b, rfl, b, _, 3, .int m2, rfl, rfl, SqL.of B2.hb, atI_nat (j := 3) rfl, m2, m2, rfl, rfl, .inl hm, _, 7, rfl, rfl, .inr ⟨by decide, by decide⟩,
          .ref b, rfl, b, _, 3, .int m2, rfl, rfl, SqL.of B2.hb, atI_nat (j := 3) rfl, m2, 40692, rfl, rfl, .inr ⟨by decide, by decide⟩, _, _, rfl, rfl, ?_⟩
        refine ⟨_, rfl, .ref b, rfl, b, _, 4, .int c2, rfl, rfl, SqL.of B2.hb, atI_nat (j := 4) rfl, 1013904223, c2, rfl, rfl, .inl ⟨by decide, by decide⟩, _, _, rfl, rfl, _, 2147483399, rfl, rfl, (by show (0 : Int) < 2147483399; decide), .ref b, rfl, b, _, 3, 3, rfl, rfl, B2.hb, rfl, ?_⟩
        have B3 := B2.put (j' := j2) (m' := (m2 * m2 * 7 + m2 * 40692 + 1013904223 * c2) % 2147483399) (c' := c2) B2.i0 B2.i1 (Int.emod_nonneg _ (by decide)) (Int.emod_lt_of_pos _ (by decide))
        refine ⟨.ref b, rfl, b, _, 3, _, rfl, rfl, SqL.of B3.hb, atI_nat (j := 3) rfl, _, 37, rfl, rfl, ⟨by decide, by decide⟩, .int n, rfl, _, n, rfl, rfl, h0, ?_⟩
        exact q _ _ (Int.emod_nonneg _ (by omega)) (Int.emod_lt_of_pos _ h0) ⟨ns2, _, _, _, _, B3⟩ (k2.trans keep_put)
def spOf : Sp := fun vs H Q _ => ∃ (b sb l : Addr) (xs : List V), vs = [.ref b, .ref l] ∧ Bag H b sb ∧ H l = some (.lst xs) ∧ l ≠ b ∧ 0 < xs.length ∧ xs.length ≤ 1000 ∧ ∀ (i : Nat) (v : V) (H' : Hp), xs[i]? = some v → Bag H' b sb → Keep b H H' → Q v H'
theorem ok_of (T : Txt K mg) : FnOk P w K mg base CX0 2 T.f_of T.d_of ["_law_bag", "_law_some"] spOf := by
  refine T.F_of.ok sc_of (fun vs H Q E h => ?_) (fun cdv A outer s H vs Q E hr h => ?_)
  · obtain ⟨b, sb, l, xs, rfl, _⟩ := h
    rfl
  · obtain ⟨b, sb, l, xs, rfl, B, hl, nl, h0, h1, q⟩ := h
    refine ⟨_, (pss_one (ps_ret (pe_ix ix_list (pv 1) (pe_call (ok_pull T) (hr.mono (by decide)) (by rfl) T.g_pull T.F_pull.kp T.b_pull .nil pass0 (pa_cons (pv 0) (pa_cons (pe_callB call_len_seq (by rfl) T.n_len (by decide +kernel) (pa_cons (pv 1) pa_nil)) pa_nil))) (fun _ _ => rfl)))), ?_⟩
    have hn : ((xs.length : Int)).natAbs < 2 ^ 100 := Nat.lt_of_le_of_lt (show (xs.length : Int).natAbs ≤ 1000 by omega) (by decide)
    refine ⟨.ref l, rfl, .ref b, rfl, .ref l, rfl, l, xs, rfl, .inl (SqL.of hl), b, sb, _, rfl, B, (by show (0 : Int) < (xs.length : Int); omega), hn, fun z H' z0 z1 B' k' => ?_⟩
    obtain ⟨v, e1, e2⟩ := at_some z0 z1
    exact ⟨l, xs, z, v, rfl, rfl, k'.list nl hl, e2, q _ _ _ e1 B' k'⟩
end
section
variable {base : Heap} {K : PySem.W.Frag} {mg : Str → Option Value} {P : Program} {w : World}
def okR (x : Int) : Bool := !inV (.int x) [.int 4, .int 9, .int 16, .int 25, .int 36, .int 49, .int 64, .int 81]
def rootsTo : Nat → List Int
  | 0 => []
  | n + 1 => if okR (2 + (n : Int)) = true then rootsTo n ++ [2 + (n : Int)] else rootsTo n
theorem rootsTo_len : ∀ n, (rootsTo n).length ≤ n
  | 0 => Nat.le_refl _
  | n + 1 => by
    have := rootsTo_len n
    unfold rootsTo
    split
    · rw [List.length_append]
      simp
      omega
    · omega
def IsRoot (d : Int) : Prop := 2 ≤ d ∧ d ≤ 99 ∧ ∃ k : Int, 0 ≤ k ∧ k * k < d ∧ d < (k + 1) * (k + 1)
def kOf (d : Int) : Int := if d < 4 then 1 else if d < 9 then 2 else if d < 16 then 3 else if d < 25 then 4 else if d < 36 then 5 else if d < 49 then 6 else if d < 64 then 7 else if d < 81 then 8 else 9
theorem roots_are {d : Int} (h : d ∈ rootsTo 98) : IsRoot d := by
  have z : ∀ d ∈ rootsTo 98, 2 ≤ d ∧ d ≤ 99 ∧ 0 ≤ kOf d ∧ kOf d * kOf d < d ∧ d < (kOf d + 1) * (kOf d + 1) := by decide +kernel
  obtain ⟨a, b, c⟩ := z d h
  exact ⟨a, b, kOf d, c⟩
theorem isRoot_by {d : Int} (h : 2 ≤ d ∧ d ≤ 99 ∧ 0 ≤ kOf d ∧ kOf d * kOf d < d ∧ d < (kOf d + 1) * (kOf d + 1)) : IsRoot d := ⟨h.1, h.2.1, kOf d, h.2.2⟩
def spRoots : Sp := fun vs H Q _ => vs = [] ∧ ∀ p H', H p = none → Same H H' → H' p = some (.lst ((rootsTo 98).map V.int)) → Q (.ref p) H'
theorem ok_roots (T : Txt K mg) : FnOk P w K mg base CX0 1 T.f_roots T.d_roots [] spRoots := by
  refine T.F_roots.ok sc_roots (fun vs H Q E h => ?_) (fun cdv A outer s H vs Q E hr h => ?_)
  · obtain ⟨rfl, _⟩ := h
    rfl
  · obtain ⟨rfl, q⟩ := h
    refine ⟨_, (pss_one (ps_ret (pe_lc (own := [("_law_d", 0)]) (g := (gName 0)) (tt := tTest (tOp (rIn K true) _ _)) (by rfl) sc_roots.nd (pi_range2 (by rfl) T.n_range (pa_cons pe_int (pa_cons pe_int pa_nil))) (blkOk_by (own := [("_law_d", 0)]) (N := ["_law_d"]) (sc := defScope s_roots) (by decide +kernel)) (fun _ _ _ _ _ => (pg_name (i := 0) sc_roots.nd rfl (Or.inl rfl))) (fun _ _ _ _ _ => (pts_one (pt_cmpR op_notIn_seq (pv 0) (pe_tup (pa_cons pe_int (pa_cons pe_int (pa_cons pe_int (pa_cons pe_int (pa_cons pe_int (pa_cons pe_int (pa_cons pe_int (pa_cons pe_int pa_nil))))))))) (by rfl)))) (fun _ _ _ _ _ => (pv 0))))), ?_⟩
    refine ⟨2, 100, rfl, ⟨by decide, by decide, by decide, by decide⟩, fun D hD => ?_⟩
    refine lc_range (lo := 2) (n := 98) (fun i H' => Same H H' ∧ H' D = some (.lst ((rootsTo i).map V.int))) ⟨same_new hD, upd_same⟩ ?_ ?_
    · rintro i H' hi ⟨sm, hd⟩
      refine ⟨rfl, _, rfl, (by show 8 ≤ sizeLine; decide), fun t ht => ?_⟩
      refine ⟨t, _, rfl, .inr (SqT.of upd_same), rfl, rfl, _, rfl, ?_⟩
      have hd2 : (upd H' t (.tup [.int 4, .int 9, .int 16, .int 25, .int 36, .int 49, .int 64, .int 81])) D = some (.lst ((rootsTo i).map V.int)) := (upd_ne (ne_of_none hd ht)).trans hd
      refine ite2 (fun e => ?_) (fun e => ?_)
      · refine ⟨_, rfl, _, hd2, ?_, ?_, ?_⟩
        · rw [List.length_map]
          have := rootsTo_len i
          exact small1000 (by omega)
        · exact fun a o z => (upd_ne (ne_of_none z hD)).trans ((sm.trans (same_new ht)) a o z)
        · rw [upd_same]
          have e' : okR (2 + (i : Int)) = true := e
          rw [show rootsTo (i + 1) = rootsTo i ++ [2 + (i : Int)] by
            show (if okR (2 + (i : Int)) = true then rootsTo i ++ [2 + (i : Int)] else rootsTo i) = _
            rw [if_pos e'], List.map_append]
          rfl
      · refine ⟨sm.trans (same_new ht), ?_⟩
        have e' : ¬ okR (2 + (i : Int)) = true := e
        rw [show rootsTo (i + 1) = rootsTo i by
          show (if okR (2 + (i : Int)) = true then rootsTo i ++ [2 + (i : Int)] else rootsTo i) = _
          rw [if_neg e']]
        exact hd2
    · rintro H' ⟨sm, hd⟩
      exact q D H' hD sm hd
end
section
variable {base : Heap} {K : PySem.W.Frag} {mg : Str → Option Value} {P : Program} {w : World}
def spARoot : Sp := fun vs H Q _ => ∃ b sb : Addr, vs = [.ref b] ∧ Bag H b sb ∧ ∀ d H', IsRoot d → Bag H' b sb → Keep b H H' → Q (.int d) H'
theorem root_in {i : Nat} {v : V} (h : ((rootsTo 98).map V.int)[i]? = some v) : ∃ d, v = .int d ∧ IsRoot d := by
  rw [List.getElem?_map] at h
  cases e : (rootsTo 98)[i]? with
  | none =>
    rw [e] at h
    cases h
  | some d =>
    rw [e] at h
    exact ⟨d, (Option.some.inj h).symm, roots_are (List.mem_of_getElem? e)⟩
theorem ok_a_root (T : Txt K mg) : FnOk P w K mg base CX0 3 T.f_a_root T.d_a_root ["_law_bag"] spARoot := by
  refine T.F_a_root.ok sc_a_root (fun vs H Q E h => ?_) (fun cdv A outer s H vs Q E hr h => ?_)
  · obtain ⟨b, sb, rfl, _⟩ := h
    rfl
  · obtain ⟨b, sb, rfl, B, q⟩ := h
    refine ⟨_, (pss_one (ps_ret (pe_call (ok_of T) (hr.mono (by decide)) (by rfl) T.g_of T.F_of.kp T.b_of .nil pass0 (pa_cons (pv 0) (pa_cons (pe_lst (pa_cons pe_int (pa_cons pe_int (pa_cons pe_int (pa_cons pe_int (pa_cons (pe_call (ok_of T) (hr.mono (by decide)) (by rfl) T.g_of T.F_of.kp T.b_of .nil pass0 (pa_cons (pv 0) (pa_cons (pe_call0 (ok_roots T) (hr.mono (by decide)) (by rfl) T.g_roots T.F_roots.kp T.b_roots .nil pass0) pa_nil))) (pa_cons (pe_call (ok_of T) (hr.mono (by decide)) (by rfl) T.g_of T.F_of.kp T.b_of .nil pass0 (pa_cons (pv 0) (pa_cons (pe_call0 (ok_roots T) (hr.mono (by decide)) (by rfl) T.g_roots T.F_roots.kp T.b_roots .nil pass0) pa_nil))) pa_nil))))))) pa_nil))))), ?_⟩
    have hz : ((rootsTo 98).map V.int).length = 90 := by decide +kernel
    refine ⟨.ref b, rfl, .ref b, rfl, rfl, fun p H1 hp s1 h1 => ?_⟩
    refine ⟨b, sb, p, _, rfl, B.same s1, h1, B.ne hp, by omega, by omega, fun i v H2 hv B2 k2 => ?_⟩
    obtain ⟨r1, rfl, i1⟩ := root_in hv
    refine ⟨.ref b, rfl, rfl, fun p' H3 hp' s3 h3 => ?_⟩
    refine ⟨b, sb, p', _, rfl, B2.same s3, h3, B2.ne hp', by omega, by omega, fun i' v' H4 hv' B4 k4 => ?_⟩
    obtain ⟨r2, rfl, i2⟩ := root_in hv'
    refine ⟨(by show 6 ≤ sizeLine; decide), fun l hl => ?_⟩
    refine ⟨b, sb, l, _, rfl, B4.new hl, upd_same, B4.ne hl, by simp, by simp, fun i v H5 hv B5 k5 => ?_⟩
    have kk : Keep b H H5 := (keep_of s1).trans (k2.trans ((keep_of s3).trans (k4.trans ((keep_new hl).trans k5))))
    match i, hv with
    | 0, hv => cases hv; exact q 2 H5 (isRoot_by (by decide)) B5 kk
    | 1, hv => cases hv; exact q 3 H5 (isRoot_by (by decide)) B5 kk
    | 2, hv => cases hv; exact q 5 H5 (isRoot_by (by decide)) B5 kk
    | 3, hv => cases hv; exact q 99 H5 (isRoot_by (by decide)) B5 kk
    | 4, hv => cases hv; exact q r1 H5 i1 B5 kk
    | 5, hv => cases hv; exact q r2 H5 i2 B5 kk
    | n + 6, hv => simp at hv
end
section
variable {base : Heap} {K : PySem.W.Frag} {mg : Str → Option Value} {P : Program} {w : World}
def spSource (K : PySem.W.Frag) : Sp := fun vs H Q _ => ∃ (a : Addr) (ns : List Int), vs = [.ref a] ∧ SqL K H a (ns.map V.int) ∧ ns.length ≤ 63 ∧ ∀ b sb H', H b = none → Same H H' → Bag H' b sb → Q (.ref b) H'
theorem ok_source (T : Txt K mg) : FnOk P w K mg base CX0 1 T.f_source T.d_source ["_law_script"] (spSource K) := by
  refine T.F_source.ok sc_source (fun vs H Q E h => ?_) (fun cdv A outer s H vs Q E hr h => ?_)
  · obtain ⟨a, ns, rfl, _⟩ := h
    rfl
  · obtain ⟨a, ns, rfl, hS, hlen, q⟩ := h
    refine ⟨_, (pss_cons (ps_set (i := 1) sc_source.nd rfl (Or.inl rfl) pe_int)
      (pss_cons (ps_for PassesOwn.never rfl (pi_list (pe_slice sl_list (pv 0) po_none (po_some pe_int))) (pg_name (i := 2) sc_source.nd rfl (Or.inl rfl)) (pss_one (ps_set (i := 1) sc_source.nd rfl (Or.inl rfl) (pe_op op_mod (pe_op op_add (pe_op op_add (pe_op op_mul (pv 1) pe_int) (pe_op op_mod (pv 2) pe_int)) pe_int) pe_int))))
      (pss_one (ps_ret (pe_lst (pa_cons (pe_callTy call_list_of (by rfl) T.n_list (by decide +kernel) (pa_cons (pe_slice sl_list (pv 0) po_none (po_some pe_int)) pa_nil)) (pa_cons pe_int (pa_cons pe_int (pa_cons (pv 1) (pa_cons pe_int pa_nil)))))))))), ?_⟩
    have hcut : cutV (ns.map V.int) none (some 63) = ns.map V.int := by
      unfold cutV
      rw [HT.sIx_none, show HT.sIx (ns.map V.int).length (ns.map V.int).length (some 63) = min 63 (ns.map V.int).length from HT.sIx_nat _ _ 63]
      rw [List.drop_zero, List.length_map, Nat.sub_zero, Nat.min_eq_right hlen]
      exact List.take_of_length_le (by rw [List.length_map]; exact Nat.le_refl _)
    refine ⟨.ref a, rfl, 63, rfl, a, _, rfl, hS, fun p hp => ?_⟩
    rw [hcut]
    refine ⟨p, rfl, ⟨_, SqL.of upd_same⟩, for_list (K := K) (a := p) (xs := ns.map V.int) (fun i σ H2 => ∃ (m : Int) (y : Option V), σ = [some (.ref a), some (.int m), y] ∧ 0 ≤ m ∧ m < 2147483399 ∧ H2 = upd H p (.lst (ns.map V.int)))
      ⟨3812, none, rfl, by decide, by decide, rfl⟩ (fun i σ H2 _ ⟨_, _, _, _, _, e⟩ => by rw [e]; exact SqL.of upd_same) ?_ ?_⟩
    · rintro i x σ H2 hx ⟨m, y, rfl, m0, m1, rfl⟩
      obtain ⟨z, rfl⟩ : ∃ z, x = V.int z := by
        rw [List.getElem?_map] at hx
        cases e : ns[i]? with
        | none =>
          rw [e] at hx
          cases hx
        | some z =>
          rw [e] at hx
          exact ⟨z, (Option.some.inj hx).symm⟩
      refine ⟨_, rfl, m, 40692, rfl, rfl, .inr ⟨by decide, by decide⟩, _, rfl, z, 2147483399, rfl, rfl, (by show (0 : Int) < 2147483399; decide), _, _, rfl, rfl, _, 17, rfl, rfl, _, 2147483399, rfl, rfl, (by show (0 : Int) < 2147483399; decide), ?_⟩
      exact ⟨_, _, rfl, Int.emod_nonneg _ (by decide), Int.emod_lt_of_pos _ (by decide), rfl⟩
    · rintro σ H2 ⟨m, y, rfl, m0, m1, rfl⟩
      have hS2 : SqL K (upd H p (.lst (ns.map V.int))) a (ns.map V.int) := (same_new hp).seq hS
      refine ⟨.ref a, rfl, 63, rfl, a, _, rfl, hS2, fun p2 hp2 => ?_⟩
      rw [hcut]
      refine ⟨p2, _, rfl, .inl (SqL.of upd_same), fun l hl => ?_⟩
      refine ⟨_, rfl, (by show 5 ≤ sizeLine; decide), fun b hb => ?_⟩
      have sm : Same H (upd (upd (upd (upd H p (.lst (ns.map V.int))) p2 (.lst (ns.map V.int))) l (.lst (ns.map V.int))) b (.lst [.ref l, .int 0, .int 0, .int m, .int 0])) := (same_new hp).trans ((same_new hp2).trans ((same_new hl).trans (same_new hb)))
      exact q b l _ (((same_new hp).trans ((same_new hp2).trans (same_new hl))).free hb) sm ⟨ns, 0, 0, m, 0, upd_same, same_new hb _ _ upd_same, Int.le_refl _, by omega, m0, m1⟩
end
/-! ### calls of a def with a star parameter -/
section
variable {X : Cx}
theorem pe_callR {CX : CXT} {k : Nat} {f : Addr} {sp : Sp} {E : XK} {x : Str} {p pos : Pos} {e : Expr} {es : List Expr} {t : TA}
    (F : FnR X.prog X.w X.K X.mg X.base CX k f sp) (hr : Room k X.A) (hg : Gl X x) (hm : X.mg x = some (.ref f)) (hk : PySem.W.keepIn X.K (.ref f) = true) (hx : Passes CX X E) (ha : PA X (e :: es) t)
    (hdb : (x == ("__debug__" : Str)) = false := by decide) (he : starEach (e :: es) X.env = (false, eval e X.env) :: starEach es X.env := by rfl)
    (hpl : (backTo pos (starEach es X.env)).any (·.1) = false := by rfl) :
    PE X (.Call (.Name x p) (e :: es) [] pos) (fun σ H Q => t σ H fun vs H1 => sp vs H1 Q E) :=
  ⟨fun pins s σ H Q I h => wpAny_Call_Name_kw (ld_glob I hg hm (PySem.W.callWith_K (h₀ := X.base) I.ok.mod.kin hk
    (thn (ha.run pos pins s σ H _ I h) fun us s1 ⟨vs, H1, I1, r, q⟩ => ⟨I1.kIn, wpAny_call (run_fnR F hr hx I1 r q)⟩) he hpl) hdb)⟩
theorem pe_callR0 {CX : CXT} {k : Nat} {f : Addr} {sp : Sp} {E : XK} {x : Str} {p pos : Pos}
    (F : FnR X.prog X.w X.K X.mg X.base CX k f sp) (hr : Room k X.A) (hg : Gl X x) (hm : X.mg x = some (.ref f)) (hk : PySem.W.keepIn X.K (.ref f) = true) (hx : Passes CX X E)
    (hdb : (x == ("__debug__" : Str)) = false := by decide) : PE X (.Call (.Name x p) [] [] pos) (fun _ H Q => sp [] H Q E) :=
  ⟨fun pins s σ H Q I h => wpAny_Call_Name_kw (ld_glob I hg hm (PySem.W.callWith_K0 I.kIn hk (wpAny_call (run_fnR (us := []) F hr hx I .nil h))) hdb)⟩
end
/-! ### lists of ints that comprehensions make -/
def Pt (H : Hp) (D : Addr) (ns : List Int) (i : Nat) (H' : Hp) : Prop := Same H H' ∧ H' D = some (.lst ((ns.take i).map V.int))
theorem pt_step {H H' : Hp} {D : Addr} {ns : List Int} {i : Nat} {z : Int} (h : Pt H D ns i H') (hD : H D = none) (hz : ns[i]? = some z) : Pt H D ns (i + 1) (upd H' D (.lst ((ns.take i).map V.int ++ [.int z]))) := by
  refine ⟨fun a o e => (upd_ne (ne_of_none e hD)).trans (h.1 a o e), ?_⟩
  rw [upd_same, List.take_add_one, hz, List.map_append]
  rfl
theorem pt_size {ns : List Int} {i : Nat} (h : ns.length ≤ 1000) : ((ns.take i).map V.int).length < sizeLine := by
  rw [List.length_map, List.length_take]
  exact small1000 (by omega)
theorem pt_end {H H' : Hp} {D : Addr} {ns : List Int} {i : Nat} (h : Pt H D ns i H') (hi : ns.length ≤ i) : Same H H' ∧ H' D = some (.lst (ns.map V.int)) := by
  have := h.2
  rw [List.take_of_length_le hi] at this
  exact ⟨h.1, this⟩
/-! ### pairs -/
def PairAt (K : PySem.W.Frag) (H : Hp) (v : V) (x y : Int) : Prop := ∃ t : Addr, v = .ref t ∧ SqT K H t [.int x, .int y]
theorem PairAt.same {K : PySem.W.Frag} {H H' : Hp} {v : V} {x y : Int} (h : PairAt K H v x y) (s : Same H H') : PairAt K H' v x y := by
  obtain ⟨t, e, h⟩ := h
  exact ⟨t, e, Evl.ex_t (show Evl.Ex H H' from s) h⟩
inductive PairsAt (K : PySem.W.Frag) (H : Hp) : List V → List (Int × Int) → Prop
  | nil : PairsAt K H [] []
  | cons {v : V} {vs : List V} {x y : Int} {ps : List (Int × Int)} : PairAt K H v x y → PairsAt K H vs ps → PairsAt K H (v :: vs) ((x, y) :: ps)
theorem PairsAt.get {K : PySem.W.Frag} {H : Hp} : ∀ {vs : List V} {ps : List (Int × Int)}, PairsAt K H vs ps → ∀ {i : Nat} {v : V}, vs[i]? = some v → ∃ x y, ps[i]? = some (x, y) ∧ PairAt K H v x y := by
  intro vs ps h
  induction h with
  | nil =>
    intro i v h
    simp at h
  | cons p t ih =>
    intro i v h
    cases i with
    | zero =>
      cases h
      exact ⟨_, _, rfl, p⟩
    | succ i => exact ih (i := i) (by simpa using h)
theorem PairsAt.same {K : PySem.W.Frag} {H H' : Hp} (s : Same H H') : ∀ {vs : List V} {ps : List (Int × Int)}, PairsAt K H vs ps → PairsAt K H' vs ps := by
  intro vs ps h
  induction h with
  | nil => exact .nil
  | cons p t ih => exact .cons (p.same s) ih
theorem PairsAt.len {K : PySem.W.Frag} {H : Hp} : ∀ {vs : List V} {ps : List (Int × Int)}, PairsAt K H vs ps → vs.length = ps.length
  | _, _, .nil => rfl
  | _, _, .cons p t => congrArg Nat.succ t.len
def s1 (ps : List (Int × Int)) : Int := (ps.map (·.1)).sum
def s2 (ps : List (Int × Int)) : Int := (ps.map (·.2)).sum
/-- a new pair -/
def NewPair (H : Hp) (x y : Int) (Q : VK) : Prop := ∀ p H', H p = none → Same H H' → H' p = some (.tup [.int x, .int y]) → Q (.ref p) H'
/-! ### added -/
section
variable {base : Heap} {K : PySem.W.Frag} {mg : Str → Option Value} {P : Program} {w : World}
def spAdded (K : PySem.W.Frag) : Sp := fun vs H Q _ => ∃ ps : List (Int × Int), PairsAt K H vs ps ∧ ps.length ≤ 1000 ∧ NewPair H (s1 ps) (s2 ps) Q
def spAddedB (K : PySem.W.Frag) : Sp := fun vs H Q _ => ∃ (t : Addr) (xs : List V) (ps : List (Int × Int)), vs = [.ref t] ∧ H t = some (.tup xs) ∧ PairsAt K H xs ps ∧ ps.length ≤ 1000 ∧ NewPair H (s1 ps) (s2 ps) Q
theorem ok_added (T : Txt K mg) : FnR P w K mg base CX0 1 T.f_added (spAdded K) := by
  obtain ⟨o1, o2, v1, v2, v3, a1, v4, v5, sl1, e1, r1, r2⟩ := T.F_added.ex
  have r1' := r1
  rw [e1] at r1'
  refine FnR.imp (StX.fn_star (ps := []) (pv := "pairs") (sp := spAddedB K) (N := ["pairs", "a", "b"]) r1' r2 sc_added StX.cxUp_none ?_ ?_) ?_
  · intro us rest hu
    match us, rest, hu with
    | [], [], _ => rfl
    | [], _ :: _, _ => rfl
  · intro A outer s H vs Q E hr h
    obtain ⟨t, xs, ps, rfl, ht, hp, hn, q⟩ := h
    refine ⟨_, PSs.nox (pss_one (ps_ret (pe_tup (pa_cons (pe_callB (cr_sum rfl) (by rfl) T.n_sum (by decide +kernel) (pa_cons (pe_lc (own := [("a", 1), ("b", 2)]) (g := (gTup K 2 (gCons (gName 1) (gCons (gName 2) gNil)))) (tt := tYes) (by rfl) sc_added.nd (pi_tup (pv 0)) (blkOk_by (own := [("a", 1), ("b", 2)]) (N := ["pairs", "a", "b"]) (sc := defScope s_added) (by decide +kernel)) (fun _ _ _ _ _ => (pg_tup (by rfl) (pgs_cons (pg_name (i := 1) sc_added.nd rfl (Or.inl rfl)) (pgs_cons (pg_name (i := 2) sc_added.nd rfl (Or.inl rfl)) pgs_nil)))) (fun _ _ _ _ _ => pts_nil) (fun _ _ _ _ _ => (pv 1))) pa_nil)) (pa_cons (pe_callB (cr_sum rfl) (by rfl) T.n_sum (by decide +kernel) (pa_cons (pe_lc (own := [("a", 1), ("b", 2)]) (g := (gTup K 2 (gCons (gName 1) (gCons (gName 2) gNil)))) (tt := tYes) (by rfl) sc_added.nd (pi_tup (pv 0)) (blkOk_by (own := [("a", 1), ("b", 2)]) (N := ["pairs", "a", "b"]) (sc := defScope s_added) (by decide +kernel)) (fun _ _ _ _ _ => (pg_tup (by rfl) (pgs_cons (pg_name (i := 1) sc_added.nd rfl (Or.inl rfl)) (pgs_cons (pg_name (i := 2) sc_added.nd rfl (Or.inl rfl)) pgs_nil)))) (fun _ _ _ _ _ => pts_nil) (fun _ _ _ _ _ => (pv 2))) pa_nil)) pa_nil))))), ?_⟩
    have hl := hp.len
    refine ⟨_, rfl, t, rfl, ⟨_, SqT.of ht⟩, fun D hD => lc_tup (K := K) (a := t) (xs := xs) (Pt H D (ps.map (·.1))) ⟨same_new hD, upd_same⟩ (fun i H' _ h => SqT.of (h.1 _ _ ht)) (fun i x H' hx hP => ?_) (fun H1 hP => ?_)⟩
    · obtain ⟨c, e, hc, u, rfl, hu⟩ := hp.get hx
      refine ⟨u, _, rfl, Evl.ex_t (show Evl.Ex H H' from hP.1) hu, rfl, .int c, [.int e], rfl, .int e, [], rfl, rfl, rfl, ⟨_, rfl, _, hP.2, pt_size (by rw [List.length_map]; exact hn), pt_step hP hD ?_⟩⟩
      rw [List.getElem?_map, hc]
      rfl
    obtain ⟨e1, f1⟩ := pt_end hP (by rw [List.length_map]; omega)
    refine ⟨D, _, rfl, SqL.of f1, ?_⟩
    refine ⟨_, rfl, t, rfl, ⟨_, SqT.of (e1 _ _ ht)⟩, fun D2 hD2 => lc_tup (K := K) (a := t) (xs := xs) (Pt H1 D2 (ps.map (·.2))) ⟨same_new hD2, upd_same⟩ (fun i H' _ h => SqT.of (h.1 _ _ (e1 _ _ ht))) (fun i x H' hx hP => ?_) (fun H2 hP => ?_)⟩
    · obtain ⟨c, e, hc, u, rfl, hu⟩ := hp.get hx
      refine ⟨u, _, rfl, Evl.ex_t (show Evl.Ex H H' from e1.trans hP.1) hu, rfl, .int c, [.int e], rfl, .int e, [], rfl, rfl, rfl, ⟨_, rfl, _, hP.2, pt_size (by rw [List.length_map]; exact hn), pt_step hP hD2 ?_⟩⟩
      rw [List.getElem?_map, hc]
      rfl
    obtain ⟨e2, f2⟩ := pt_end hP (by rw [List.length_map]; omega)
    exact ⟨D2, _, rfl, SqL.of f2, by show 2 ≤ sizeLine; decide, fun p hp => q p _ ((e1.trans e2).free hp) ((e1.trans e2).trans (same_new hp)) upd_same⟩
  · rintro vs H Q E ⟨ps, hp, hl, q⟩
    refine ⟨[], vs, rfl, rfl, Nat.le_of_lt (small1000 (by rw [hp.len]; exact hl)), fun p hpn => ⟨p, vs, ps, rfl, upd_same, hp.same (same_new hpn), hl, fun p' H' hp' sm h' => ?_⟩⟩
    exact q p' H' ((same_new hpn).free hp') ((same_new hpn).trans sm) h'
end
/-! ### scaled -/
section
variable {base : Heap} {K : PySem.W.Frag} {mg : Str → Option Value} {P : Program} {w : World}
def spScaled (K : PySem.W.Frag) : Sp := fun vs H Q _ => ∃ (v : V) (x y n : Int), vs = [v, .int n] ∧ PairAt K H v x y ∧ x.natAbs < 2 ^ 9000 ∧ y.natAbs < 2 ^ 9000 ∧ n.natAbs < 2 ^ 9000 ∧ NewPair H (x * n) (y * n) Q
theorem ok_scaled (T : Txt K mg) : FnOk P w K mg base CX0 1 T.f_scaled T.d_scaled ["pair", "number"] (spScaled K) := by
  refine T.F_scaled.ok sc_scaled (fun vs H Q E h => ?_) (fun cdv A outer s H vs Q E hr h => ?_)
  · obtain ⟨v, x, y, n, rfl, _⟩ := h
    rfl
  · obtain ⟨v, x, y, n, rfl, ⟨t, rfl, ht⟩, x1, y1, n1, q⟩ := h
    refine ⟨_, (pss_cons (ps_asg (pv 0) (pg_tup (by rfl) (pgs_cons (pg_name (i := 2) sc_scaled.nd rfl (Or.inl rfl)) (pgs_cons (pg_name (i := 3) sc_scaled.nd rfl (Or.inl rfl)) pgs_nil))))
      (pss_one (ps_ret (pe_tup (pa_cons (pe_op op_mulW (pv 2) (pv 1)) (pa_cons (pe_op op_mulW (pv 3) (pv 1)) pa_nil)))))), ?_⟩
    refine ⟨_, rfl, t, _, rfl, ht, rfl, .int x, [.int y], rfl, .int y, [], rfl, rfl, ?_⟩
    exact ⟨_, rfl, _, rfl, x, n, rfl, rfl, wide_mul x1 n1 (by decide) (by decide) (by decide), _, rfl, _, rfl, y, n, rfl, rfl, wide_mul y1 n1 (by decide) (by decide) (by decide), by show 2 ≤ sizeLine; decide, fun p hp => q p _ hp (same_new hp) upd_same⟩
end
/-! ### bounds -/
def Bd (n : Nat) (xs : List Int) : Prop := ∀ x ∈ xs, x.natAbs < 2 ^ n
theorem bd_w {n m : Nat} {x : Int} (h : x.natAbs < 2 ^ n) (l : n ≤ m) : x.natAbs < 2 ^ m := Nat.lt_of_lt_of_le h (Nat.pow_le_pow_right (by decide) l)
theorem bd_a {n : Nat} {x y : Int} (h1 : x.natAbs < 2 ^ n) (h2 : y.natAbs < 2 ^ n) : (x + y).natAbs < 2 ^ (n + 1) := by
  rw [Nat.pow_succ]
  omega
/-! ### whole_root, floor_of -/
theorem bits_up {n : Int} (h : 0 ≤ n) : n < 2 ^ (Builtin.Int.intBits n) := by
  obtain ⟨m, rfl⟩ := Int.eq_ofNat_of_zero_le h
  have h1 : (m : Int).natAbs = m := rfl
  have h2 : m < 2 ^ (Builtin.Int.intBits (m : Int)) := by
    unfold Builtin.Int.intBits
    rw [h1]
    split
    · rename_i z
      have z' : m = 0 := by
        first
          | exact z
          | (have := z; simp at this; omega)
      subst z'
      decide
    · exact Nat.lt_log2_self
  have h3 : ((m : Nat) : Int) < ((2 ^ (Builtin.Int.intBits (m : Int)) : Nat) : Int) := by exact_mod_cast h2
  rw [Int.natCast_pow] at h3
  exact h3
theorem bits_le {n : Int} {k : Nat} (hk : 0 < k) (h : n.natAbs < 2 ^ k) : Builtin.Int.intBits n ≤ k := by
  have := PySem.Flt.log2_lt_of hk h
  unfold Builtin.Int.intBits
  split
  · omega
  · omega
theorem guess_up {n : Int} {k : Nat} (h : 0 ≤ n) (hk : Builtin.Int.intBits n ≤ 2 * k) : n < (1 * 2 ^ k + 1) * (1 * 2 ^ k + 1) := by
  have h1 := bits_up h
  have h2 : (2 : Int) ^ (Builtin.Int.intBits n) ≤ 2 ^ (2 * k) := by
    have : 2 ^ (Builtin.Int.intBits n) ≤ 2 ^ (2 * k) := Nat.pow_le_pow_right (by decide) hk
    exact_mod_cast this
  have h3 : (2 : Int) ^ (2 * k) = 2 ^ k * 2 ^ k := by
    rw [Nat.two_mul, Int.pow_add]
  have h4 : (0 : Int) ≤ 2 ^ k := by
    have : 0 ≤ (2 ^ k : Nat) := Nat.zero_le _
    exact_mod_cast this
  rw [h3] at h2
  generalize (2 : Int) ^ k = x at h2 h4 ⊢
  grind
section
variable {base : Heap} {K : PySem.W.Frag} {mg : Str → Option Value} {P : Program} {w : World}
def spWhole : Sp := fun vs H Q _ => ∃ n : Int, vs = [.int n] ∧ 0 ≤ n ∧ n.natAbs < 2 ^ 8000 ∧ ∀ g : Int, 0 ≤ g → g * g ≤ n → n < (g + 1) * (g + 1) → Q (.int g) H
def WRoot (n : Int) (H : Hp) (m : Nat) (σ : L2.St) (H' : Hp) : Prop := ∃ g : Int, σ = [some (.int n), some (.int g)] ∧ H' = H ∧ 0 ≤ g ∧ g.natAbs < 2 ^ 4002 ∧ n < (g + 1) * (g + 1) ∧ m = g.toNat
theorem ok_whole_root (T : Txt K mg) : FnOk P w K mg base CX0 1 T.f_whole_root T.d_whole_root ["number"] spWhole := by
  refine T.F_whole_root.ok sc_whole_root (fun vs H Q E h => ?_) (fun cdv A outer s H vs Q E hr h => ?_)
  · obtain ⟨n, rfl, _⟩ := h
    rfl
  · obtain ⟨n, rfl, n0, n1, q⟩ := h
    refine ⟨_, (pss_cons (ps_set (i := 1) sc_whole_root.nd rfl (Or.inl rfl) (pe_op op_shl pe_int (pe_op op_fdiv (pe_op op_add (pe_bits (pv 0)) pe_int) pe_int)))
      (pss_cons (ps_while PassesOwn.never (pt_cmpR op_gt (pe_op op_mulW (pv 1) (pv 1)) (pv 0) (nomark _)) (pss_one (ps_set (i := 1) sc_whole_root.nd rfl (Or.inl rfl) (pe_op op_fdiv (pe_op op_add (pv 1) (pe_op op_fdivW (pv 0) (pv 1))) pe_int))))
      (pss_one (ps_ret (pv 1))))), ?_⟩
    have hb := bits_le (by decide) n1
    have e1 : (((Builtin.Int.intBits n : Nat) : Int) + 1) / 2 = (((Builtin.Int.intBits n + 1) / 2 : Nat) : Int) := by omega
    have e2 : ((((Builtin.Int.intBits n : Nat) : Int) + 1) / 2).toNat = (Builtin.Int.intBits n + 1) / 2 := by rw [e1]; rfl
    refine ⟨_, rfl, n, rfl, _, 1, rfl, rfl, _, 2, rfl, rfl, ⟨by decide, by decide⟩, 1, _, rfl, rfl, ⟨by omega, by omega, by decide⟩, ?_⟩
    dsimp only
    rw [e2]
    refine ⟨WRoot n H, ⟨_, (1 * 2 ^ ((Builtin.Int.intBits n + 1) / 2)), rfl, rfl, ?_, ?_, guess_up n0 (by omega), rfl⟩, ?_⟩
    · have : 0 ≤ (2 ^ ((Builtin.Int.intBits n + 1) / 2) : Nat) := Nat.zero_le _
      have z : (0 : Int) ≤ 2 ^ ((Builtin.Int.intBits n + 1) / 2) := by exact_mod_cast this
      omega
    · rw [Int.one_mul, Int.natAbs_pow]
      exact Nat.pow_lt_pow_right (by decide) (by omega)
    · rintro m σ H' ⟨g, rfl, rfl, g0, g1, g2, rfl⟩
      refine ⟨_, rfl, _, rfl, g, g, rfl, rfl, wide_mul g1 g1 (by decide) (by decide) (by decide), _, rfl, _, n, rfl, rfl, _, rfl, ite2 (fun e => ?_) (fun e => ?_)⟩
      · have e' : n < g * g := of_decide_eq_true e
        have gp : 0 < g := by
          rcases Int.lt_or_le 0 g with z | z
          · exact z
          · have : g = 0 := by omega
            rw [this] at e'
            omega
        refine ⟨fun σ' H'' => ∃ m', m' < g.toNat ∧ WRoot n H' m' σ' H'', fun _ _ z => z, ?_⟩
        have d1 := newton_dn gp e'
        have d2 := newton_nn gp n0
        refine ⟨_, rfl, _, rfl, _, rfl, n, g, rfl, rfl, wide_div gp g1 (by decide) (by decide), g, _, rfl, rfl, _, 2, rfl, rfl, ⟨by decide, by decide⟩, ?_⟩
        exact ⟨_, by omega, (g + n / g) / 2, rfl, rfl, d2, Nat.lt_of_le_of_lt (by omega) g1, newton_up gp n0, rfl⟩
      · have e' : ¬ n < g * g := fun z => e (decide_eq_true z)
        exact ⟨_, rfl, q g g0 (by omega) g2⟩
def spFloor (K : PySem.W.Frag) : Sp := fun vs H Q _ => ∃ (t : Addr) (d a b : Int), vs = [.ref t, .int d] ∧ SqT K H t [.int a, .int b] ∧ 0 ≤ d ∧ d.natAbs < 2 ^ 64 ∧ b.natAbs < 2 ^ 1000 ∧
  ∀ g : Int, 0 ≤ g → g * g ≤ d * b * b → d * b * b < (g + 1) * (g + 1) → Q (.int (if b < 0 then a - g - 1 else a + g)) H
theorem ok_floor_of (T : Txt K mg) : FnOk P w K mg base CX0 2 T.f_floor_of T.d_floor_of ["pair", "root"] (spFloor K) := by
  refine T.F_floor_of.ok sc_floor_of (fun vs H Q E h => ?_) (fun cdv A outer s H vs Q E hr h => ?_)
  · obtain ⟨t, d, a, b, rfl, _⟩ := h
    rfl
  · obtain ⟨t, d, a, b, rfl, hT, d0, d1, b1, q⟩ := h
    refine ⟨_, (pss_cons (ps_asg (pv 0) (pg_tup (by rfl) (pgs_cons (pg_name (i := 3) sc_floor_of.nd rfl (Or.inl rfl)) (pgs_cons (pg_name (i := 4) sc_floor_of.nd rfl (Or.inl rfl)) pgs_nil))))
      (pss_cons (ps_set (i := 2) sc_floor_of.nd rfl (Or.inl rfl) (pe_call (ok_whole_root T) (hr.mono (by decide)) (by rfl) T.g_whole_root T.F_whole_root.kp T.b_whole_root .nil pass0 (pa_cons (pe_op op_mulW (pe_op op_mulW (pv 1) (pv 4)) (pv 4)) pa_nil)))
      (pss_cons (ps_if (pt_cmpR op_lt (pv 4) pe_int (nomark _)) (pss_one (ps_ret (pe_op op_sub (pe_op op_sub (pv 3) (pv 2)) pe_int))) pss_nil)
      (pss_one (ps_ret (pe_op op_add (pv 3) (pv 2))))))), ?_⟩
    have m1 : (d * b).natAbs < 2 ^ (64 + 1000) := wide_lt d1 b1
    have m2 : (d * b * b).natAbs < 2 ^ (64 + 1000 + 1000) := wide_lt m1 b1
    have nn : 0 ≤ d * b * b := by
      have := sq_nn b
      have z := Int.mul_nonneg d0 this
      rw [← Int.mul_assoc] at z
      exact z
    refine ⟨_, rfl, t, _, rfl, hT, rfl, .int a, [.int b], rfl, .int b, [], rfl, rfl, ?_⟩
    refine ⟨_, rfl, _, rfl, d, b, rfl, rfl, wide_mul d1 b1 (by decide) (by decide) (by decide), _, rfl, _, b, rfl, rfl, wide_mul m1 b1 (by decide) (by decide) (by decide), _, rfl, nn, Nat.lt_trans m2 (Nat.pow_lt_pow_right (by decide) (by decide)), fun g g0 g1 g2 => ?_⟩
    have Q1 := q g g0 g1 g2
    refine ⟨_, rfl, b, 0, rfl, rfl, _, rfl, ite2 (fun e => ?_) (fun e => ?_)⟩
    · rw [if_pos (of_decide_eq_true e)] at Q1
      exact ⟨_, rfl, _, rfl, a, g, rfl, rfl, _, 1, rfl, rfl, Q1⟩
    · rw [if_neg (fun z => e (decide_eq_true z))] at Q1
      exact ⟨_, rfl, _, rfl, a, g, rfl, rfl, Q1⟩
end
/-! ### what is never reached -/
section
variable {X : Cx}
theorem ps_dead {st : Stmt} : PS X st (fun _ _ _ => False) := ⟨fun _ _ _ _ _ _ h => h.elim⟩
end
/-! ### a generator's frame when it is woken: the heap below it counts as the heap of its call -/
def cutH (h : Heap) (n : Nat) : Heap := { h with objs := h.objs.extract 0 n }
theorem cut_low {h : Heap} {n b : Nat} (hb : b < n) : (cutH h n).get? b = h.get? b := by
  have e : (h.objs.extract 0 n)[b]? = h.objs[b]? := by
    rw [Array.getElem?_extract]
    by_cases z : b < h.objs.size
    · rw [if_pos (by omega), Nat.zero_add]
    · rw [if_neg (by omega)]
      simp only [Array.getElem?_eq_none (show h.objs.size ≤ b by omega)]
  unfold Heap.get? cutH
  rw [e]
theorem cut_size {h : Heap} {n : Nat} (hn : n ≤ h.objs.size) : (cutH h n).objs.size = n := by
  show (h.objs.extract 0 n).size = n
  rw [Array.size_extract]
  omega
theorem cut_at {h : Heap} {n b : Nat} {o : Obj} (hn : n ≤ h.objs.size) (e : (cutH h n).get? b = some o) : b < n ∧ h.get? b = some o := by
  have l := Heap.lt_size e
  rw [cut_size hn] at l
  exact ⟨l, (cut_low l).symm.trans e⟩
/-- a tuple of two whole numbers -/
def PairIn (h : Heap) (x : Addr) (p q : Int) : Prop := ∃ its : List Value, Vals [.int p, .int q] its ∧ IsTup h x its.toArray
/-- what a generator knows of the heap when it is woken: its own pairs, and of all that is younger than its frame that it stays -/
def wokenH (L : Nat) (h : Heap) (T : List (Addr × Int × Int)) : Hp := fun b =>
  match h.get? b with
  | none => none
  | some o => match T.find? (fun p => p.1 == b) with
    | some p => some (.frz o (.tup [.int p.2.1, .int p.2.2]))
    | none => if L < b then some (.ext fun h' => h'.get? b = some o) else none
structure GEnv (env : Env) : Prop where
  kind : env.scope.kind = .function
  glob : env.globals = mainGlobals
  blt : env.builtins = builtinsNs
  frame : env.frame = some env.locals
  cells : env.cells = []
  loc : ∀ x k, env.kindOf x = some k → k ≠ .cell ∧ k ≠ .free
def gcx (P : Program) (w : World) (K : PySem.W.Frag) (mg : Str → Option Value) (base : Heap) (N : List Str) (env : Env) (A : Around) (outer : List Env) (s : Shared) (T : List (Addr × Int × Int)) : Cx where
  prog := P
  w := w
  K := K
  mg := mg
  base := base
  A := A.deeper env
  N := N
  s_0 := { s with heap := cutH s.heap env.locals }
  H_0 := fun b => if b < env.locals then wokenH env.locals s.heap T b else none
  env := env
  outer := outer
  stack := env :: outer
  ex := []
  fn := fun _ => true
  calm := true
  pn := []
  xe := fun _ _ => False
/-- what the generator's locals are, as they stand in its frame -/
def LocIs (env : Env) (N : List Str) (h : Heap) (σ : L2.St) : Prop := σ.length = N.length ∧ ∃ m, h.Ns env.locals m ∧ ∀ (i : Nat) (x : Str) (v : V), N[i]? = some x → σ[i]? = some (some v) → Vis env.scope x → ∃ u, RelV v u ∧ env.kindOf x = some .local ∧ m x = some u
/-- what is wanted of the state in which it is woken -/
structure WakeOk (K : PySem.W.Frag) (mg : Str → Option Value) (base : Heap) (env : Env) (outer : List Env) (T : List (Addr × Int × Int)) (s : Shared) : Prop where
  bare : AllBare s.gens
  bs : ∀ b o, base.get? b = some o → s.heap.get? b = some o
  bz : base.objs.size ≤ env.locals
  funs : s.heap.FunFrames base outer
  low : ∀ b ∈ frs outer, b < env.locals
  pairs : ∀ p ∈ T, p.1 ∉ frs outer ∧ base.get? p.1 = none ∧ PairIn s.heap p.1 p.2.1 p.2.2
section
variable {P : Program} {w : World} {K : PySem.W.Frag} {mg : Str → Option Value} {base : Heap} {N : List Str} {env : Env} {A : Around} {outer : List Env} {s : Shared} {T : List (Addr × Int × Int)} {σ : L2.St}
theorem pair_inj {h : Heap} {x : Addr} {p q p' q' : Int} (a : PairIn h x p q) (b : PairIn h x p' q') : p = p' ∧ q = q' := by
  obtain ⟨its, r, o, ho, _, n, hd⟩ := a
  obtain ⟨its', r', o', ho', _, n', hd'⟩ := b
  rw [ho] at ho'
  cases ho'
  rw [hd] at hd'
  injection hd' with e _
  have e2 : its = its' := by simpa using e
  subst e2
  cases r with
  | cons r1 t1 => cases t1 with
    | cons r2 t2 =>
      cases t2
      cases r' with
      | cons r1' t1' => cases t1' with
        | cons r2' t2' =>
          obtain ⟨_, rfl⟩ := r1
          obtain ⟨_, rfl⟩ := r2
          obtain ⟨_, e1⟩ := r1'
          obtain ⟨_, e2⟩ := r2'
          cases e1
          cases e2
          exact ⟨rfl, rfl⟩
theorem woken_pair {L : Nat} {h : Heap} {p : Addr × Int × Int} (hp : p ∈ T) (hT : ∀ p ∈ T, PairIn h p.1 p.2.1 p.2.2) : ∃ o, h.get? p.1 = some o ∧ wokenH L h T p.1 = some (.frz o (.tup [.int p.2.1, .int p.2.2])) := by
  obtain ⟨its, _, o, ho, _⟩ := hT p hp
  refine ⟨o, ho, ?_⟩
  unfold wokenH
  rw [ho]
  dsimp only
  cases hf : T.find? (fun q => q.1 == p.1) with
  | none =>
    have := List.find?_eq_none.mp hf p hp
    simp at this
  | some q =>
    have hb : q.1 = p.1 := by simpa using List.find?_some hf
    have hq := hT q (List.mem_of_find?_eq_some hf)
    rw [hb] at hq
    obtain ⟨e1, e2⟩ := pair_inj hq (hT p hp)
    dsimp only
    rw [e1, e2]
theorem woken_ok (hT : ∀ p ∈ T, PairIn s.heap p.1 p.2.1 p.2.2) (L : Nat) : HOk P w (wokenH L s.heap T) s.heap := by
  intro b u e
  unfold wokenH at e
  cases ho : s.heap.get? b with
  | none => rw [ho] at e; cases e
  | some o =>
    rw [ho] at e
    dsimp only at e
    cases hf : T.find? (fun p => p.1 == b) with
    | some p =>
      rw [hf] at e
      cases e
      have hb : p.1 = b := by simpa using List.find?_some hf
      obtain ⟨its, r, it⟩ := hT p (List.mem_of_find?_eq_some hf)
      rw [hb] at it
      exact ⟨ho, by show 2 ≤ sizeLine; decide, its, r, it⟩
    | none =>
      rw [hf] at e
      dsimp only at e
      split at e
      · cases e
        exact ⟨ho, ⟨o, ho⟩, fun h1 h2 q k => k _ q⟩
      · cases e
theorem pair_noL {L : Nat} {h : Heap} {m : Str → Option Value} {x : Addr} {p q : Int} (hn : h.Ns L m) (hp : PairIn h x p q) : x ≠ L := by
  rintro rfl
  obtain ⟨o, es, ep, ho, hd, _⟩ := hn
  obtain ⟨its, _, o', ho', _, n, hd'⟩ := hp
  rw [ho] at ho'
  cases ho'
  rw [hd] at hd'
  cases hd'
/-- it is woken: its frame's invariant, over the heap as it stands -/
theorem awake (E : GEnv env) (M : Mod K mg base) (hd : A.handled = none) (fr : A.frames = some outer) (W : WakeOk K mg base env outer T s) (hl : LocIs env N s.heap σ) : Inv (gcx P w K mg base N env A outer s T) [] σ (wokenH env.locals s.heap T) s := by
  obtain ⟨len, m, hn, look⟩ := hl
  have lt : env.locals ≤ s.heap.objs.size := Nat.le_of_lt hn.lt
  have noc : ∀ x c, env.cells.lookup x = some c → False := fun x c e => by
    rw [E.cells] at e
    cases e
  have low : ∀ {b o}, (cutH s.heap env.locals).get? b = some o → b < env.locals ∧ s.heap.get? b = some o := fun e => cut_at lt e
  have atL : wokenH env.locals s.heap T env.locals = none := by
    unfold wokenH
    obtain ⟨o, es, ep, ho, hd', _⟩ := id hn
    rw [ho]
    dsimp only
    cases hf : T.find? (fun p => p.1 == env.locals) with
    | some p =>
      have hb : p.1 = env.locals := by simpa using List.find?_some hf
      exact absurd hb (pair_noL hn (W.pairs p (List.mem_of_find?_eq_some hf)).2.2)
    | none =>
      dsimp only
      rw [if_neg (Nat.lt_irrefl _)]
  have atF : ∀ b ∈ frs outer, wokenH env.locals s.heap T b = none := fun b hb => by
    unfold wokenH
    cases ho : s.heap.get? b with
    | none => rfl
    | some o =>
      dsimp only
      cases hf : T.find? (fun p => p.1 == b) with
      | some p =>
        have hb' : p.1 = b := by simpa using List.find?_some hf
        exact absurd (hb' ▸ hb) (W.pairs p (List.mem_of_find?_eq_some hf)).1
      | none =>
        dsimp only
        rw [if_neg (Nat.not_lt.mpr (Nat.le_of_lt (W.low b hb)))]
  have funs : (cutH s.heap env.locals).FunFrames base outer := by
    have all : ∀ l : List Env, (∀ b ∈ frs l, b < env.locals) → s.heap.FunFrames base l → (cutH s.heap env.locals).FunFrames base l := by
      intro l
      induction l with
      | nil => exact fun _ _ => trivial
      | cons e r ih =>
        rintro hlow ⟨hk, ⟨L, o, hf, hb, ho, hdat⟩, hr⟩
        have cons : frs (e :: r) = L :: frs r := by
          show List.filterMap _ _ = _
          rw [List.filterMap_cons, hf]
          rfl
        rw [cons] at hlow
        exact ⟨hk, ⟨L, o, hf, hb, (cut_low (hlow L List.mem_cons_self)).trans ho, hdat⟩, ih (fun b hb => hlow b (List.mem_cons_of_mem _ hb)) hr⟩
    exact all outer W.low W.funs
  have bsl : ∀ b o, base.get? b = some o → b < env.locals := fun b o e => Nat.lt_of_lt_of_le (Heap.lt_size e) W.bz
  have bsn : ∀ b o, base.get? b = some o → wokenH env.locals s.heap T b = none := fun b o e => by
    unfold wokenH
    rw [W.bs b o e]
    dsimp only
    cases hf : T.find? (fun p => p.1 == b) with
    | some p =>
      have hb : p.1 = b := by simpa using List.find?_some hf
      have z := (W.pairs p (List.mem_of_find?_eq_some hf)).2.1
      rw [hb, e] at z
      cases z
    | none =>
      dsimp only
      rw [if_neg (Nat.not_lt.mpr (Nat.le_of_lt (bsl b o e)))]
  have h0 : ∀ b, b < env.locals → (gcx P w K mg base N env A outer s T).H_0 b = wokenH env.locals s.heap T b := fun b hb => if_pos hb
  have h0s : ∀ {b u}, (gcx P w K mg base N env A outer s T).H_0 b = some u → wokenH env.locals s.heap T b = some u := fun {b u} e => by
    by_cases hb : b < env.locals
    · exact (h0 b hb).symm.trans e
    · rw [show (gcx P w K mg base N env A outer s T).H_0 b = none from if_neg hb] at e
      cases e
  have okX : (gcx P w K mg base N env A outer s T).Ok := by
    refine ⟨M, E.kind, E.glob, E.blt, Nat.le_of_eq (cut_size lt), fun x y c e => (noc x c e).elim, fun x hx => ?_, fun x c _ e => (noc x c e).elim, fun _ => hd, Around.frames_deeper fr, .inr ⟨rfl, E.frame⟩, fun b z => (nomatch z), fun b o e => ⟨(cut_low (bsl b o e)).trans (W.bs b o e), (h0 b (bsl b o e)).trans (bsn b o e)⟩, ?_, fun b _ _ z => (nomatch z), fun b z => (nomatch z), funs, fun b hb => (h0 b (W.low b hb)).trans (atF b hb)⟩
    · rcases hx with hx | hx
      · exact absurd rfl (E.loc x _ hx).1
      · exact absurd rfl (E.loc x _ hx).2
    · show base.objs.size ≤ (cutH s.heap env.locals).objs.size
      rw [cut_size lt]
      exact W.bz
  refine ⟨okX, rfl, W.bare, ⟨fun b o e _ _ _ => (low e).2, fun b o e _ _ _ => ⟨o.slots, (low e).2⟩, fun b o e z _ => (h0 b (low e).1).symm.trans z, fun b o e _ => ⟨o, (low e).2⟩, fun b xs e => h0s e, fun b o u e => h0s e, fun b ps e => ⟨#[], by rw [h0s e]; simp⟩⟩,
    ⟨m, hn, fun i x v e1 e2 e3 => ?_⟩, fun x c e => (noc x c e).elim, atL, fun x c e => (noc x c e).elim, fun p hp => by simp [gcx] at hp, woken_ok (fun p hp => (W.pairs p hp).2.2) _, len⟩
  obtain ⟨u, r, k, e⟩ := look i x v e1 e2 e3
  exact ⟨u, r, .inl ⟨k, e⟩⟩
/-- what a run between two yields leaves as it was -/
structure Stays (L : Addr) (fs : List Addr) (h h' : Heap) : Prop where
  keep : ∀ b o, h.get? b = some o → b ≠ L → b ∉ fs → h'.get? b = some o
  slot : ∀ b o, h.get? b = some o → b ≠ L → b ∈ fs → ∃ sl, h'.get? b = some { o with slots := sl }
theorem stays_of {pins : List (Addr × Obj)} {σ' : L2.St} {H' : Hp} {s' : Shared} (lt : env.locals ≤ s.heap.objs.size) (hT : ∀ p ∈ T, PairIn s.heap p.1 p.2.1 p.2.2) (I : Inv (gcx P w K mg base N env A outer s T) pins σ' H' s') (sm : Same (wokenH env.locals s.heap T) H') : Stays env.locals (frs outer) s.heap s'.heap := by
  have known : ∀ b o, s.heap.get? b = some o → b ∉ frs outer → b ≠ env.locals → (b < env.locals ∧ wokenH env.locals s.heap T b = none) ∨ s'.heap.get? b = some o := fun b o e _ ne => by
    cases hw : wokenH env.locals s.heap T b with
    | some u =>
      have z := I.hok b u (sm _ _ hw)
      unfold wokenH at hw
      rw [e] at hw
      dsimp only at hw
      cases hf : T.find? (fun p => p.1 == b) with
      | some p =>
        rw [hf] at hw
        cases hw
        exact .inr z.1
      | none =>
        rw [hf] at hw
        dsimp only at hw
        split at hw
        · cases hw
          exact .inr z.1
        · cases hw
    | none =>
      refine .inl ⟨?_, rfl⟩
      unfold wokenH at hw
      rw [e] at hw
      dsimp only at hw
      cases hf : T.find? (fun p => p.1 == b) with
      | some p => rw [hf] at hw; cases hw
      | none =>
        rw [hf] at hw
        dsimp only at hw
        split at hw
        · cases hw
        · rename_i q
          have q : ¬ env.locals < b := q
          have : (b : Nat) ≠ env.locals := ne
          exact Nat.lt_of_le_of_ne (Nat.not_lt.mp q) this
  refine ⟨fun b o e ne nf => ?_, fun b o e ne hf => ?_⟩
  · rcases known b o e nf ne with ⟨l, z⟩ | z
    · exact I.base.keep b o ((cut_low l).trans e) ((if_pos l).trans z) nf (fun q => nomatch q)
    · exact z
  · have hs := I.ok.funs.mem hf
    obtain ⟨_, o', ho', _⟩ := hs
    have l := (cut_at lt ho').1
    exact I.base.slot b o ((cut_low l).trans e) (I.ok.frf b hf) hf (fun q => nomatch q)
/-- a pair that was made in such a run stands where nothing stood -/
theorem made_new {pins : List (Addr × Obj)} {σ' : L2.St} {H1 H' : Hp} {s' : Shared} {x : Addr} {p q : Int} (lt : env.locals ≤ s.heap.objs.size) (I : Inv (gcx P w K mg base N env A outer s T) pins σ' H' s') (sm : Same (wokenH env.locals s.heap T) H1) (n : H1 x = none) (e : H' x = some (.tup [.int p, .int q])) : s.heap.get? x = none ∧ PairIn s'.heap x p q := by
  refine ⟨?_, (I.hok x _ e).2⟩
  cases ho : s.heap.get? x with
  | none => rfl
  | some o =>
    exfalso
    have hw : wokenH env.locals s.heap T x = none := by
      cases z : wokenH env.locals s.heap T x with
      | none => rfl
      | some u =>
        rw [sm _ _ z] at n
        cases n
    have nl : x ≠ env.locals := fun z => by
      rw [z] at e
      have z2 := I.free
      rw [show (gcx P w K mg base N env A outer s T).env.locals = env.locals from rfl, e] at z2
      cases z2
    have lx : x < env.locals := by
      have hw' := hw
      unfold wokenH at hw'
      rw [ho] at hw'
      dsimp only at hw'
      cases hf : T.find? (fun p => p.1 == x) with
      | some p => rw [hf] at hw'; cases hw'
      | none =>
        rw [hf] at hw'
        dsimp only at hw'
        split at hw'
        · cases hw'
        · rename_i q
          have q : ¬ env.locals < x := q
          have nl' : (x : Nat) ≠ env.locals := nl
          exact Nat.lt_of_le_of_ne (Nat.not_lt.mp q) nl'
    have z := I.base.free x o ((cut_low lx).trans ho) ((if_pos lx).trans hw) (fun q => nomatch q)
    rw [e] at z
    cases z
theorem WakeOk.new (W : WakeOk K mg base env outer T s) {x : Addr} (n : s.heap.get? x = none) : x ∉ frs outer ∧ base.get? x = none := by
  refine ⟨fun hx => ?_, ?_⟩
  · obtain ⟨_, o, ho, _⟩ := W.funs.mem hx
    rw [n] at ho
    cases ho
  · cases hb : base.get? x with
    | none => rfl
    | some o =>
      rw [W.bs x o hb] at n
      cases n
theorem after_run {pins : List (Addr × Obj)} {σ' : L2.St} {H' : Hp} {s' : Shared} {T' : List (Addr × Int × Int)} (E : GEnv env) (W : WakeOk K mg base env outer T s) (I : Inv (gcx P w K mg base N env A outer s T) pins σ' H' s')
    (hp : ∀ p ∈ T', p.1 ∉ frs outer ∧ base.get? p.1 = none ∧ PairIn s'.heap p.1 p.2.1 p.2.2) : WakeOk K mg base env outer T' s' ∧ LocIs env N s'.heap σ' := by
  refine ⟨⟨I.bare, I.bk, W.bz, I.funs, W.low, hp⟩, I.len, ?_⟩
  obtain ⟨m, hn, look⟩ := I.loc
  refine ⟨m, hn, fun i x v e1 e2 e3 => ?_⟩
  obtain ⟨u, r, z⟩ := look i x v e1 e2 e3
  refine ⟨u, r, ?_⟩
  rcases z with z | ⟨z, _⟩
  · exact z
  · rcases z with z | z
    · exact absurd rfl (E.loc x _ z).1
    · exact absurd rfl (E.loc x _ z).2
end
/-! ### the continued fraction of a root: its numbers, its fractions -/
/-- m, t, k ahead of the i-th turn -/
def cfS (r w : Int) : Nat → Int × Int × Int
  | 0 => (0, 1, w)
  | i + 1 => ((cfS r w i).2.1 * (cfS r w i).2.2 - (cfS r w i).1, (r - ((cfS r w i).2.1 * (cfS r w i).2.2 - (cfS r w i).1) * ((cfS r w i).2.1 * (cfS r w i).2.2 - (cfS r w i).1)) / (cfS r w i).2.1,
      (w + ((cfS r w i).2.1 * (cfS r w i).2.2 - (cfS r w i).1)) / ((r - ((cfS r w i).2.1 * (cfS r w i).2.2 - (cfS r w i).1) * ((cfS r w i).2.1 * (cfS r w i).2.2 - (cfS r w i).1)) / (cfS r w i).2.1))
/-- the last two fractions ahead of the i-th turn -/
def cfR (r w : Int) : Nat → (Int × Int) × (Int × Int)
  | 0 => ((1, 0), (0, 1))
  | i + 1 => (((cfR r w i).1.1 * (cfS r w i).2.2 + (cfR r w i).2.1, (cfR r w i).1.2 * (cfS r w i).2.2 + (cfR r w i).2.2), (cfR r w i).1)
/-- the i-th fraction -/
def cfF (r w : Int) (i : Nat) : Int × Int := (cfR r w (i + 1)).1
theorem cfR_two (r w : Int) (i : Nat) : cfR r w (i + 2) = (cfF r w (i + 1), cfF r w i) := rfl
def isW (r w : Int) : Prop := 0 ≤ w ∧ w * w < r ∧ r < (w + 1) * (w + 1)
/-- what holds of m, t from the first turn on -/
def cfGood (r w m t : Int) : Bool := decide (1 ≤ m ∧ m ≤ w ∧ 1 ≤ t ∧ w - m < t ∧ t ≤ w + m ∧ (r - m * m) % t = 0 ∧ 1 ≤ (r - m * m) / t ∧ t < (r - m * m) / t + 2 * m)
def cfNext (r w m t : Int) : Bool :=
  let m' := t * ((w + m) / t) - m
  cfGood r w m' ((r - m' * m') / t)
def cfAll : Bool := (List.range 98).all fun r0 => (List.range 10).all fun w => !decide ((w * w : Int) < (r0 + 2 : Int) ∧ (r0 + 2 : Int) < ((w : Int) + 1) * (w + 1)) ||
  (cfGood (r0 + 2) w w (r0 + 2 - w * w) && (List.range 10).all fun m => (List.range 20).all fun t => !cfGood (r0 + 2) w m t || cfNext (r0 + 2) w m t)
theorem cf_all : cfAll = true := by decide +kernel
theorem cf_root {r w : Int} (h2 : 2 ≤ r) (h99 : r ≤ 99) (hw : isW r w) : cfGood r w w (r - w * w) = true ∧ ∀ m t, cfGood r w m t = true → cfNext r w m t = true := by
  obtain ⟨w0, w1, w2⟩ := hw
  have w9 : w ≤ 9 := by
    rcases Int.lt_or_le 9 w with z | z
    · have := Int.mul_le_mul (show (10 : Int) ≤ w by omega) (show (10 : Int) ≤ w by omega) (by decide) (by omega)
      omega
    · exact z
  have A := cf_all
  unfold cfAll at A
  have A1 := List.all_eq_true.mp A (r - 2).toNat (List.mem_range.mpr (by omega))
  have A2 := List.all_eq_true.mp A1 w.toNat (List.mem_range.mpr (by omega))
  have er : (((r - 2).toNat : Nat) : Int) + 2 = r := by omega
  have ew : ((w.toNat : Nat) : Int) = w := by omega
  rw [er, ew] at A2
  rw [show decide (w * w < r ∧ r < (w + 1) * (w + 1)) = true from decide_eq_true ⟨w1, w2⟩, Bool.not_true, Bool.false_or, Bool.and_eq_true] at A2
  refine ⟨A2.1, fun m t g => ?_⟩
  obtain ⟨m1, m2, t1, t2, t3, _⟩ := of_decide_eq_true g
  have B1 := List.all_eq_true.mp A2.2 m.toNat (List.mem_range.mpr (by omega))
  have B2 := List.all_eq_true.mp B1 t.toNat (List.mem_range.mpr (by omega))
  have em : ((m.toNat : Nat) : Int) = m := by omega
  have et : ((t.toNat : Nat) : Int) = t := by omega
  rw [em, et, g, Bool.not_true, Bool.false_or] at B2
  exact B2
section
variable {r w : Int}
theorem cf_good (h2 : 2 ≤ r) (h99 : r ≤ 99) (hw : isW r w) : ∀ i, cfGood r w (cfS r w (i + 1)).1 (cfS r w (i + 1)).2.1 = true ∧ (cfS r w (i + 1)).2.2 = (w + (cfS r w (i + 1)).1) / (cfS r w (i + 1)).2.1
  | 0 => by
    refine ⟨?_, rfl⟩
    have g := (cf_root h2 h99 hw).1
    have e1 : (cfS r w 1).1 = w := by
      show 1 * w - 0 = w
      omega
    have e2 : (cfS r w 1).2.1 = r - w * w := by
      show (r - (1 * w - 0) * (1 * w - 0)) / 1 = _
      rw [Int.ediv_one, Int.one_mul, Int.sub_zero]
    rw [e1, e2]
    exact g
  | i + 1 => by
    refine ⟨?_, rfl⟩
    obtain ⟨g, e⟩ := cf_good h2 h99 hw i
    have n := (cf_root h2 h99 hw).2 _ _ g
    unfold cfNext at n
    rw [← e] at n
    exact n
/-- of every turn -/
theorem cf_num (h2 : 2 ≤ r) (h99 : r ≤ 99) (hw : isW r w) (i : Nat) : 0 ≤ (cfS r w i).1 ∧ (cfS r w i).1 ≤ 9 ∧ 1 ≤ (cfS r w i).2.1 ∧ (cfS r w i).2.1 ≤ 99 ∧ 1 ≤ (cfS r w i).2.2 ∧ (cfS r w i).2.2 ≤ 18 := by
  obtain ⟨w0, w1, w2⟩ := id hw
  have w9 : w ≤ 9 := by
    rcases Int.lt_or_le 9 w with z | z
    · have := Int.mul_le_mul (show (10 : Int) ≤ w by omega) (show (10 : Int) ≤ w by omega) (by decide) (by omega)
      omega
    · exact z
  have wp : 1 ≤ w := by
    rcases Int.lt_or_le w 1 with z | z
    · have : w = 0 := by omega
      subst this
      omega
    · exact z
  cases i with
  | zero => exact ⟨show (0 : Int) ≤ 0 by decide, show (0 : Int) ≤ 9 by decide, show (1 : Int) ≤ 1 by decide, show (1 : Int) ≤ 99 by decide, wp, show w ≤ 18 by omega⟩
  | succ i =>
    obtain ⟨g, e⟩ := cf_good h2 h99 hw i
    obtain ⟨m1, m2, t1, t2, t3, _⟩ := of_decide_eq_true g
    rw [e]
    generalize (cfS r w (i + 1)).1 = m at *
    generalize (cfS r w (i + 1)).2.1 = t at *
    have k1 : 1 ≤ (w + m) / t := by
      have := Int.ediv_le_ediv (show 0 < t by omega) t3
      rw [Int.ediv_self (by omega)] at this
      exact this
    have k2 : (w + m) / t ≤ w + m := Int.ediv_le_self _ (by omega)
    exact ⟨by omega, by omega, t1, by omega, k1, by omega⟩
/-- how great they become -/
theorem cf_bound (h2 : 2 ≤ r) (h99 : r ≤ 99) (hw : isW r w) : ∀ i, (0 ≤ (cfR r w i).1.1 ∧ 0 ≤ (cfR r w i).1.2 ∧ 0 ≤ (cfR r w i).2.1 ∧ 0 ≤ (cfR r w i).2.2) ∧ ((cfR r w i).1.1 < 2 ^ (5 * i + 1) ∧ (cfR r w i).1.2 < 2 ^ (5 * i + 1) ∧ (cfR r w i).2.1 < 2 ^ (5 * i + 1) ∧ (cfR r w i).2.2 < 2 ^ (5 * i + 1))
  | 0 => ⟨⟨show (0 : Int) ≤ 1 by decide, show (0 : Int) ≤ 0 by decide, show (0 : Int) ≤ 0 by decide, show (0 : Int) ≤ 1 by decide⟩, show (1 : Int) < 2 ^ 1 by decide, show (0 : Int) < 2 ^ 1 by decide, show (0 : Int) < 2 ^ 1 by decide, show (1 : Int) < 2 ^ 1 by decide⟩
  | i + 1 => by
    obtain ⟨⟨a, b, c, d⟩, a', b', c', d'⟩ := cf_bound h2 h99 hw i
    obtain ⟨_, _, _, _, k1, k2⟩ := cf_num h2 h99 hw i
    have e : (2 : Int) ^ (5 * (i + 1) + 1) = 2 ^ (5 * i + 1) * 32 := by
      rw [show 5 * (i + 1) + 1 = (5 * i + 1) + 5 by omega, Int.pow_add]
      rfl
    show (0 ≤ (cfR r w i).1.1 * (cfS r w i).2.2 + (cfR r w i).2.1 ∧ 0 ≤ (cfR r w i).1.2 * (cfS r w i).2.2 + (cfR r w i).2.2 ∧ 0 ≤ (cfR r w i).1.1 ∧ 0 ≤ (cfR r w i).1.2) ∧ ((cfR r w i).1.1 * (cfS r w i).2.2 + (cfR r w i).2.1 < _ ∧ (cfR r w i).1.2 * (cfS r w i).2.2 + (cfR r w i).2.2 < _ ∧ (cfR r w i).1.1 < _ ∧ (cfR r w i).1.2 < _)
    rw [e]
    generalize (2 : Int) ^ (5 * i + 1) = B at *
    generalize (cfS r w i).2.2 = k at *
    generalize (cfR r w i).1.1 = x at *
    generalize (cfR r w i).1.2 = y at *
    have u1 : x * k ≤ x * 18 := Int.mul_le_mul_of_nonneg_left k2 a
    have u2 : y * k ≤ y * 18 := Int.mul_le_mul_of_nonneg_left k2 b
    have l1 : 0 ≤ x * k := Int.mul_nonneg a (by omega)
    have l2 : 0 ≤ y * k := Int.mul_nonneg b (by omega)
    exact ⟨⟨by omega, by omega, a, b⟩, by omega, by omega, by omega, by omega⟩
end
/-! ### a generator that is walked within another one's turns: endless_fractions -/
/-- what whoever walks a generator may do while it sleeps -/
structure Between (base : Heap) (outer : List Env) (L : Addr) (s s' : Shared) : Prop where
  bare : AllBare s'.gens
  frame : ∀ o, s.heap.get? L = some o → s'.heap.get? L = some o
  pairs : ∀ x p q, PairIn s.heap x p q → PairIn s'.heap x p q
  bs : ∀ b o, base.get? b = some o → s'.heap.get? b = some o
  funs : s'.heap.FunFrames base outer
theorem Stays.refl {L : Addr} {fs : List Addr} {h : Heap} : Stays L fs h h := ⟨fun _ _ e _ _ => e, fun _ o e _ _ => ⟨o.slots, e⟩⟩
theorem Stays.trans {L : Addr} {fs : List Addr} {h h1 h2 : Heap} (a : Stays L fs h h1) (b : Stays L fs h1 h2) : Stays L fs h h2 := ⟨fun x o e n f => b.keep x o (a.keep x o e n f) n f, fun x o e n f => by
  obtain ⟨sl, e1⟩ := a.slot x o e n f
  obtain ⟨sl', e2⟩ := b.slot x _ e1 n f
  exact ⟨sl', e2⟩⟩
theorem Stays.pair {L : Addr} {fs : List Addr} {h h' : Heap} {x : Addr} {p q : Int} (a : Stays L fs h h') (n : x ≠ L) (e : PairIn h x p q) : PairIn h' x p q := by
  obtain ⟨its, r, o, ho, hc, m, hd⟩ := e
  by_cases f : x ∈ fs
  · obtain ⟨sl, e⟩ := a.slot x o ho n f
    exact ⟨its, r, _, e, hc, m, hd⟩
  · exact ⟨its, r, o, a.keep x o ho n f, hc, m, hd⟩
/-- the i-th of its items is handed out, n more may be asked for -/
def YPair (base : Heap) (outer : List Env) (L : Addr) (F : Nat → Int × Int) (N : Nat) : Protocol := fun n s₀ v s1 kap =>
  s1.os = s₀.os ∧ AllBare s1.gens ∧ Stays L (frs outer) s₀.heap s1.heap ∧ (∃ m, s1.heap.Ns L m) ∧ (∃ x, v = .ref x ∧ s₀.heap.get? x = none ∧ PairIn s1.heap x (F (N - n)).1 (F (N - n)).2) ∧ ∀ s', Between base outer L s1 s' → n = 0 ∨ kap (.send .none) s'
/-- it never ends -/
def RNever : GenEnd := fun _ _ _ _ => False
section
variable {base : Heap} {K : PySem.W.Frag} {mg : Str → Option Value} {P : Program} {w : World}
abbrev envE (L f : Addr) (cd : Value) : Env := envOfC "endless_fractions" (defScope s_endless_fractions) L f cd
theorem genv_e (L f : Addr) (cd : Value) : GEnv (envE L f cd) where
  kind := rfl
  glob := rfl
  blt := rfl
  frame := rfl
  cells := by kernel_rfl
  loc := fun x k e => (show ∀ y ∈ (defScope s_endless_fractions).names, y.2 ≠ .cell ∧ y.2 ≠ .free by decide +kernel) (x, k) (PySem.mem_of_lookup e)
def nthS (l : List Stmt) (i : Nat) : Stmt := l.getD i (.Pass ⟨0, 0, 0, 0⟩)
def wTest : Stmt → Expr
  | .While t _ _ _ => t
  | _ => .Name "" ⟨0, 0, 0, 0⟩
def wBody : Stmt → List Stmt
  | .While _ b _ _ => b
  | _ => []
def wPos : Stmt → Pos
  | .While _ _ _ p => p
  | _ => ⟨0, 0, 0, 0⟩
abbrev wE : Stmt := nthS (defBody s_endless_fractions) 3
abbrev tstE : Expr := wTest wE
abbrev bodE : List Stmt := wBody wE
theorem body_e : defBody s_endless_fractions = [nthS (defBody s_endless_fractions) 0, nthS (defBody s_endless_fractions) 1, nthS (defBody s_endless_fractions) 2, .While tstE bodE [] (wPos wE)] := rfl
def yExp : Stmt → Expr
  | .Expr (.Yield (some e) _) _ => e
  | _ => .Name "" ⟨0, 0, 0, 0⟩
def yPos : Stmt → Pos × Pos
  | .Expr (.Yield _ p) q => (p, q)
  | _ => (⟨0, 0, 0, 0⟩, ⟨0, 0, 0, 0⟩)
abbrev yE : Expr := yExp (nthS bodE 1)
theorem bod_e : bodE = [nthS bodE 0, .Expr (.Yield (some yE) (yPos (nthS bodE 1)).1) (yPos (nthS bodE 1)).2, nthS bodE 2, nthS bodE 3, nthS bodE 4] := rfl
abbrev nmE : List Str := ["root", "whole", "m", "t", "k", "last", "before"]
/-- the locals: root, whole, m, t, k, last, before -/
def sigE (r w m t k : Int) (lx bx : Addr) : L2.St := [some (.int r), some (.int w), some (.int m), some (.int t), some (.int k), some (.ref lx), some (.ref bx)]
theorem seg_cons_at {M : Model} {A : Around} {R : GenEnd} {Y : Protocol} {n : Nat} {s₀ s : Shared} {c : Code} {fs : List Frame} {env : Env} {KK : Flow → Sem PySem.Fin} {J : Value → Sem PySem.Fin} {g : Bool → Bool} {lv : List Value → List Value} {sts rest : List Stmt} {st : Stmt} (e : sts = st :: rest)
    (h : Seg M A R Y n s₀ c ((exec st env).wrap (fun f => match f with | .next => (execs rest env).wrap KK J g lv | f => KK f) J g lv) fs s) : Seg M A R Y n s₀ c ((execs sts env).wrap KK J g lv) fs s := by
  rw [e]
  exact seg_execs_cons h
theorem two5000 {x : Int} {i : Nat} (h0 : 0 ≤ x) (h : x < 2 ^ (5 * i + 1)) (hi : i ≤ 1000) : x.natAbs < 2 ^ 9000 := by
  have e : x.natAbs < 2 ^ (5 * i + 1) := by
    have : ((x.natAbs : Nat) : Int) < ((2 ^ (5 * i + 1) : Nat) : Int) := by
      rw [Int.natAbs_of_nonneg h0, Int.natCast_pow]
      exact h
    exact_mod_cast this
  exact Nat.lt_of_lt_of_le e (Nat.pow_le_pow_right (by decide) (by omega))
section
variable {A : Around} {outer : List Env} {L f : Addr} {cd : Value} {r v : Int} {N : Nat} {fs : List Frame}
abbrev SegE (P : Program) (w : World) (base : Heap) (A : Around) (outer : List Env) (L f : Addr) (cd : Value) (r v : Int) (N n : Nat) (fs : List Frame) (s₀ s : Shared) : Prop :=
  Seg (model P w) A RNever (YPair base outer L (cfF r v) N) n s₀ (.whileLoop tstE bodE [] (envE L f cd)) ((model P w).den (.whileLoop tstE bodE [] (envE L f cd))) fs s
/-- one turn: a fraction is made and handed out -/
theorem turn_one (T : Txt K mg) (M : Mod K mg base) (hr : Room 4 (A.deeper (envE L f cd))) (hd : A.handled = none) (fr : A.frames = some outer) (r2 : 2 ≤ r) (r99 : r ≤ 99) (hw : isW r v) (small : N ≤ 1000)
    (ov : A.over (.whileLoop tstE bodE [] (envE L f cd)) fs = A.deeper (envE L f cd)) (sp : splitAtGen fs = none) (gd : fs.any Frame.guarded = false) (n i : Nat) (hi : i + n = N)
    (next : ∀ (s₀ s : Shared) (lx bx : Addr), WakeOk K mg base (envE L f cd) outer [(lx, (cfR r v (i + 1)).1), (bx, (cfR r v (i + 1)).2)] s → LocIs (envE L f cd) nmE s.heap (sigE r v (cfS r v (i + 1)).1 (cfS r v (i + 1)).2.1 (cfS r v (i + 1)).2.2 lx bx) → s.os = s₀.os → Stays L (frs outer) s₀.heap s.heap → n = 0 ∨ SegE P w base A outer L f cd r v N n fs s₀ s)
    (s₀ s : Shared) (lx bx : Addr) (W : WakeOk K mg base (envE L f cd) outer [(lx, (cfR r v i).1), (bx, (cfR r v i).2)] s) (hl : LocIs (envE L f cd) nmE s.heap (sigE r v (cfS r v i).1 (cfS r v i).2.1 (cfS r v i).2.2 lx bx)) (os : s.os = s₀.os) (st : Stays L (frs outer) s₀.heap s.heap) :
    SegE P w base A outer L f cd r v N (n + 1) fs s₀ s := by
  have E := genv_e L f cd
  have hi1000 : i ≤ 1000 := by omega
  obtain ⟨⟨b1, b2, b3, b4⟩, c1, c2, c3, c4⟩ := cf_bound r2 r99 hw i
  obtain ⟨m1, m2, t1, t2, k1, k2⟩ := cf_num r2 r99 hw i
  obtain ⟨m1', m2', t1', t2', k1', k2'⟩ := cf_num r2 r99 hw (i + 1)
  obtain ⟨v0, v1, v2⟩ := id hw
  have v9 : v ≤ 9 := by
    rcases Int.lt_or_le 9 v with z | z
    · have := Int.mul_le_mul (show (10 : Int) ≤ v by omega) (show (10 : Int) ≤ v by omega) (by decide) (by omega)
      omega
    · exact z
  have I := awake (P := P) (w := w) (A := A) E M hd fr W hl
  have lt : L ≤ s.heap.objs.size := by
    obtain ⟨_, m, hn, _⟩ := hl
    exact Nat.le_of_lt hn.lt
  obtain ⟨ol, hol, wl⟩ := woken_pair (L := L) (p := (lx, (cfR r v i).1)) (List.mem_cons_self) (fun p hp => (W.pairs p hp).2.2)
  obtain ⟨ob, hob, wb⟩ := woken_pair (L := L) (p := (bx, (cfR r v i).2)) (List.mem_cons_of_mem _ List.mem_cons_self) (fun p hp => (W.pairs p hp).2.2)
  have lp := (W.pairs (lx, (cfR r v i).1) List.mem_cons_self).2.2
  have ln := (W.pairs (lx, (cfR r v i).1) List.mem_cons_self)
  generalize hT : [(lx, (cfR r v i).1), (bx, (cfR r v i).2)] = TT at *
  have hTT : ∀ p ∈ TT, PairIn s.heap p.1 p.2.1 p.2.2 := fun p hp => (W.pairs p hp).2.2
  refine seg_whileLoop ?_
  rw [ov]
  refine wpAny_mono ((show PT (gcx P w K mg base nmE (envE L f cd) A outer s TT) tstE _ from (pt_val pe_bl)).run [] s _ _ (fun b H' => b = true ∧ H' = wokenH L s.heap TT) I ⟨true, rfl, rfl, rfl⟩) ?_ fun _ _ z => z.elim
  rintro b s1 ⟨H1, I1, rfl, rfl⟩
  rw [if_pos rfl]
  refine seg_cons_at bod_e (seg_wrap ?_)
  rw [ov]
  refine wpAny_mono ((show PS (gcx P w K mg base nmE (envE L f cd) A outer s TT) (nthS bodE 0) _ from (ps_par (i := 5) (j := 6) (by rfl) sc_endless_fractions.nd rfl rfl (by decide) rfl rfl (pa_cons (pe_callR (ok_added T) (hr.mono (by decide)) (by rfl) T.g_added T.F_added.kp pass0 (pa_cons (pe_call (ok_scaled T) (hr.mono (by decide)) (by rfl) T.g_scaled T.F_scaled.kp T.b_scaled .nil pass0 (pa_cons (pv 5) (pa_cons (pv 4) pa_nil))) (pa_cons (pv 6) pa_nil))) (pa_cons (pv 5) pa_nil)) (by rfl))).run [] s1 _ _ { nx := fun σ' H' => ∃ x H1, σ' = sigE r v (cfS r v i).1 (cfS r v i).2.1 (cfS r v i).2.2 x lx ∧ Same (wokenH L s.heap TT) H1 ∧ H1 x = none ∧ Same (wokenH L s.heap TT) H' ∧ H' x = some (.tup [.int (cfF r v i).1, .int (cfF r v i).2]), rt := fun _ _ => False } I1 ?_) ?_ fun _ _ z => z.elim
  · refine ⟨_, rfl, _, rfl, .ref lx, (cfR r v i).1.1, (cfR r v i).1.2, (cfS r v i).2.2, rfl, ⟨lx, rfl, .inl (.inr ⟨ol, wl⟩)⟩, two5000 b1 c1 hi1000, two5000 b2 c2 hi1000, Nat.lt_of_le_of_lt (show (cfS r v i).2.2.natAbs ≤ 18 by omega) (Nat.lt_of_lt_of_le (show 18 < 2 ^ 5 by decide) (Nat.pow_le_pow_right (by decide) (by decide))), fun p1 G1 n1 e1 h1 => ?_⟩
    refine ⟨_, rfl, [((cfR r v i).1.1 * (cfS r v i).2.2, (cfR r v i).1.2 * (cfS r v i).2.2), (cfR r v i).2], .cons ⟨p1, rfl, SqT.of h1⟩ (.cons ⟨bx, rfl, .inl (.inr ⟨ob, e1 _ _ wb⟩)⟩ .nil), by simp, fun p2 G2 n2 e2 h2 => ?_⟩
    rw [show Gy.s1 [((cfR r v i).1.1 * (cfS r v i).2.2, (cfR r v i).1.2 * (cfS r v i).2.2), (cfR r v i).2] = (cfF r v i).1 by simp [Gy.s1, cfF, cfR], show Gy.s2 [((cfR r v i).1.1 * (cfS r v i).2.2, (cfR r v i).1.2 * (cfS r v i).2.2), (cfR r v i).2] = (cfF r v i).2 by simp [Gy.s2, cfF, cfR]] at h2
    exact ⟨_, rfl, _, _, rfl, p2, G1, rfl, e1, n2, e1.trans e2, h2⟩
  · intro fl s2 hs
    match fl, hs with
    | .ret _, hs => obtain ⟨_, _, _, _, _, q⟩ := hs; exact q.elim
    | .brk, hs => obtain ⟨_, _, _, q⟩ := hs; exact q.elim
    | .cont, hs => obtain ⟨_, _, _, q⟩ := hs; exact q.elim
    | .next, hs =>
      obtain ⟨σ2, H2, I2, x, G1, rfl, e1, nx, e2, hx⟩ := hs
      obtain ⟨fresh, made⟩ := made_new lt I2 e1 nx hx
      have st2 := st.trans (stays_of lt hTT I2 e2)
      dsimp only
      refine seg_execs_cons (seg_Expr_Yield sp rfl gd ?_)
      rw [ov]
      refine wpAny_mono ((show PE (gcx P w K mg base nmE (envE L f cd) A outer s TT) yE _ from (pv 5)).run [] s2 _ _ (fun y H' => y = .ref x ∧ H' = H2) I2 ⟨_, rfl, rfl, rfl⟩) ?_ fun _ _ z => z.elim
      rintro u s3 ⟨y, H3, I3, ry, rfl, rfl⟩
      obtain rfl : u = .ref x := ry
      have st3 := st.trans (stays_of lt hTT I3 e2)
      have made3 : PairIn s3.heap x (cfF r v i).1 (cfF r v i).2 := (I3.hok x _ hx).2
      have n0 : s₀.heap.get? x = none := by
        cases z : s₀.heap.get? x with
        | none => rfl
        | some o =>
          exfalso
          by_cases zL : x = L
          · obtain ⟨_, m, ⟨oL, _, _, hoL, _⟩, _⟩ := id hl
            rw [← zL] at hoL
            have hoL : s.heap.get? x = some oL := hoL
            rw [fresh] at hoL
            cases hoL
          · by_cases zf : x ∈ frs outer
            · obtain ⟨sl, e⟩ := st.slot x o z zL zf
              rw [fresh] at e
              cases e
            · have e := st.keep x o z zL zf
              rw [fresh] at e
              cases e
      intro kap hk
      refine ⟨I3.os.trans os, I3.bare, st3, (let ⟨m, hn, _⟩ := I3.loc; ⟨m, hn⟩), ⟨x, rfl, n0, by rw [show N - n = i by omega]; exact made3⟩, fun s4 B => ?_⟩
      rcases Nat.eq_zero_or_pos n with n0 | npos
      · exact .inl n0
      refine .inr (hk .none s4 ?_)
      obtain ⟨xf, xb⟩ := W.new fresh
      have lxL : lx ≠ L := by
        obtain ⟨_, m, hn, _⟩ := id hl
        exact pair_noL hn lp
      have lp3 : PairIn s3.heap lx (cfR r v i).1.1 (cfR r v i).1.2 := (stays_of lt hTT I3 e2).pair lxL lp
      obtain ⟨W3, hl3⟩ := after_run (T' := [(x, (cfR r v (i + 1)).1), (lx, (cfR r v (i + 1)).2)]) E W I3 (fun p hp => by
        rcases List.mem_cons.mp hp with rfl | hp
        · exact ⟨xf, xb, made3⟩
        · rw [List.mem_singleton.mp hp]
          exact ⟨ln.1, ln.2.1, lp3⟩)
      have W4 : WakeOk K mg base (envE L f cd) outer [(x, (cfR r v (i + 1)).1), (lx, (cfR r v (i + 1)).2)] s4 :=
        ⟨B.bare, B.bs, W3.bz, B.funs, W3.low, fun p hp => ⟨(W3.pairs p hp).1, (W3.pairs p hp).2.1, B.pairs _ _ _ (W3.pairs p hp).2.2⟩⟩
      have hl4 : LocIs (envE L f cd) nmE s4.heap (sigE r v (cfS r v i).1 (cfS r v i).2.1 (cfS r v i).2.2 x lx) := by
        obtain ⟨len, m, hn, look⟩ := hl3
        exact ⟨len, m, hn.at' fun o e => B.frame o e, look⟩
      have lt4 : L ≤ s4.heap.objs.size := by
        obtain ⟨_, m, hn, _⟩ := hl4
        exact Nat.le_of_lt hn.lt
      have I4 := awake (P := P) (w := w) (A := A) E M hd fr W4 hl4
      have h4T : ∀ p ∈ [(x, (cfR r v (i + 1)).1), (lx, (cfR r v (i + 1)).2)], PairIn s4.heap p.1 p.2.1 p.2.2 := fun p hp => (W4.pairs p hp).2.2
      generalize hT4 : [(x, (cfR r v (i + 1)).1), (lx, (cfR r v (i + 1)).2)] = T4 at *
      dsimp only
      refine seg_wrap ?_
      rw [ov]
      refine wpAny_mono ((show PSs (gcx P w K mg base nmE (envE L f cd) A outer s4 T4) [nthS bodE 2, nthS bodE 3, nthS bodE 4] _ from (pss_cons (ps_set (i := 2) sc_endless_fractions.nd rfl (Or.inl rfl) (pe_op op_sub (pe_op op_mul (pv 3) (pv 4)) (pv 2)))
      (pss_cons (ps_set (i := 3) sc_endless_fractions.nd rfl (Or.inl rfl) (pe_op op_fdiv (pe_op op_sub (pv 0) (pe_op op_mul (pv 2) (pv 2))) (pv 3)))
      (pss_one (ps_set (i := 4) sc_endless_fractions.nd rfl (Or.inl rfl) (pe_op op_fdiv (pe_op op_add (pv 1) (pv 2)) (pv 3))))))).run [] s4 _ _ { nx := fun σ' H' => σ' = sigE r v (cfS r v (i + 1)).1 (cfS r v (i + 1)).2.1 (cfS r v (i + 1)).2.2 x lx ∧ H' = wokenH L s4.heap T4, rt := fun _ _ => False } I4 ?_) ?_ fun _ _ z => z.elim
      · have f1 : 0 ≤ (cfS r v i).2.1 * (cfS r v i).2.2 - (cfS r v i).1 ∧ (cfS r v i).2.1 * (cfS r v i).2.2 - (cfS r v i).1 ≤ 9 := ⟨m1', m2'⟩
        have f2 : 1 ≤ (r - ((cfS r v i).2.1 * (cfS r v i).2.2 - (cfS r v i).1) * ((cfS r v i).2.1 * (cfS r v i).2.2 - (cfS r v i).1)) / (cfS r v i).2.1 ∧ (r - ((cfS r v i).2.1 * (cfS r v i).2.2 - (cfS r v i).1) * ((cfS r v i).2.1 * (cfS r v i).2.2 - (cfS r v i).1)) / (cfS r v i).2.1 ≤ 99 := ⟨t1', t2'⟩
        exact ⟨_, rfl, _, rfl, _, _, rfl, rfl, .inl ⟨by omega, by omega⟩, _, rfl, _, _, rfl, rfl, _, rfl, _, rfl, _, rfl, _, _, rfl, rfl, .inl ⟨by omega, by omega⟩, _, _, rfl, rfl, _, rfl, _, _, rfl, rfl, ⟨by omega, by omega⟩, _, rfl, _, rfl, _, _, rfl, rfl, _, rfl, _, _, rfl, rfl, ⟨by omega, by omega⟩, rfl, rfl⟩
      · intro fl s5 hs
        match fl, hs with
        | .ret _, hs => obtain ⟨_, _, _, _, _, q⟩ := hs; exact q.elim
        | .brk, hs => obtain ⟨_, _, _, q⟩ := hs; exact q.elim
        | .cont, hs => obtain ⟨_, _, _, q⟩ := hs; exact q.elim
        | .next, hs =>
          obtain ⟨σ5, H5, I5, rfl, rfl⟩ := hs
          have st5 := stays_of lt4 h4T I5 (fun _ _ e => e)
          obtain ⟨_, m4, hn4, _⟩ := id hl4
          obtain ⟨W5, hl5⟩ := after_run (T' := T4) E W4 I5 (fun p hp => ⟨(W4.pairs p hp).1, (W4.pairs p hp).2.1, st5.pair (pair_noL hn4 (h4T p hp)) (h4T p hp)⟩)
          rw [← hT4] at W5
          refine seg_again rfl ?_
          rcases next s4 s5 x lx W5 hl5 I5.os st5 with z | z
          · omega
          · exact z
theorem turn_e (T : Txt K mg) (M : Mod K mg base) (hr : Room 4 (A.deeper (envE L f cd))) (hd : A.handled = none) (fr : A.frames = some outer) (r2 : 2 ≤ r) (r99 : r ≤ 99) (hw : isW r v) (small : N ≤ 1000)
    (ov : A.over (.whileLoop tstE bodE [] (envE L f cd)) fs = A.deeper (envE L f cd)) (sp : splitAtGen fs = none) (gd : fs.any Frame.guarded = false) :
    ∀ (n i : Nat), i + n = N → ∀ (s₀ s : Shared) (lx bx : Addr), WakeOk K mg base (envE L f cd) outer [(lx, (cfR r v i).1), (bx, (cfR r v i).2)] s → LocIs (envE L f cd) nmE s.heap (sigE r v (cfS r v i).1 (cfS r v i).2.1 (cfS r v i).2.2 lx bx) → s.os = s₀.os → Stays L (frs outer) s₀.heap s.heap → SegE P w base A outer L f cd r v N (n + 1) fs s₀ s
  | 0, i, hi, s₀, s, lx, bx, W, hl, os, st => turn_one T M hr hd fr r2 r99 hw small ov sp gd 0 i hi (fun _ _ _ _ _ _ _ _ => .inl rfl) s₀ s lx bx W hl os st
  | n + 1, i, hi, s₀, s, lx, bx, W, hl, os, st => turn_one T M hr hd fr r2 r99 hw small ov sp gd (n + 1) i hi (fun s₀' s' lx' bx' W' hl' os' st' => .inr (turn_e T M hr hd fr r2 r99 hw small ov sp gd n (i + 1) (by omega) s₀' s' lx' bx' W' hl' os' st')) s₀ s lx bx W hl os st
theorem root_one {g v : Int} (hw : isW r v) (g0 : 0 ≤ g) (g1 : g * g ≤ r) (g2 : r < (g + 1) * (g + 1)) : g = v := by
  obtain ⟨v0, v1, v2⟩ := hw
  rcases Int.lt_trichotomy g v with z | z | z
  · have := Int.mul_le_mul (show g + 1 ≤ v by omega) (show g + 1 ≤ v by omega) (by omega) v0
    omega
  · exact z
  · have := Int.mul_le_mul (show v + 1 ≤ g by omega) (show v + 1 ≤ g by omega) (by omega) g0
    omega
/-- woken for the first time -/
theorem fresh_e (T : Txt K mg) (M : Mod K mg base) (hr : Room 4 (A.deeper (envE L f cd))) (hd : A.handled = none) (fr : A.frames = some outer) (r2 : 2 ≤ r) (r99 : r ≤ 99) (hw : isW r v) (small : N ≤ 1000)
    (s : Shared) (W : WakeOk K mg base (envE L f cd) outer [] s) (hl : LocIs (envE L f cd) nmE s.heap [some (.int r), none, none, none, none, none, none]) :
    Seg (model P w) A RNever (YPair base outer L (cfF r v) N) (N + 1) s (.func (defBody s_endless_fractions) (envE L f cd)) ((model P w).den (.func (defBody s_endless_fractions) (envE L f cd))) [] s := by
  have E := genv_e L f cd
  have I := awake (P := P) (w := w) (A := A) E M hd fr W hl
  have lt : L ≤ s.heap.objs.size := by
    obtain ⟨_, m, hn, _⟩ := hl
    exact Nat.le_of_lt hn.lt
  have hTT : ∀ p ∈ ([] : List (Addr × Int × Int)), PairIn s.heap p.1 p.2.1 p.2.2 := fun p hp => nomatch hp
  have dp : ∀ {fs : List Frame}, A.over (.func (defBody s_endless_fractions) (envE L f cd)) [] = A.deeper (envE L f cd) := GenW.over_func
  have noE : ∀ {X : Cx} {pins D fl s'}, SP X pins D fl s' → D.bk = (fun _ _ => False) → D.ct = (fun _ _ => False) → D.rt = (fun _ _ => False) → fl = .next ∧ ∃ σ' H', Inv X pins σ' H' s' ∧ D.nx σ' H' := fun {X pins D fl s'} h e1 e2 e3 => by
    match fl, h with
    | .ret _, h => obtain ⟨_, _, _, _, _, q⟩ := h; rw [e3] at q; exact q.elim
    | .brk, h => obtain ⟨_, _, _, q⟩ := h; rw [e1] at q; exact q.elim
    | .cont, h => obtain ⟨_, _, _, q⟩ := h; rw [e2] at q; exact q.elim
    | .next, h => exact ⟨rfl, h⟩
  refine seg_func (seg_cons_at body_e (seg_wrap ?_))
  rw [dp (fs := [])]
  refine wpAny_mono ((show PS (gcx P w K mg base nmE (envE L f cd) A outer s []) (nthS (defBody s_endless_fractions) 0) _ from (ps_set (i := 1) sc_endless_fractions.nd rfl (Or.inl rfl) (pe_call (ok_floor_of T) (hr.mono (by decide)) (by rfl) T.g_floor_of T.F_floor_of.kp T.b_floor_of .nil pass0 (pa_cons (pe_tup (pa_cons pe_int (pa_cons pe_int pa_nil))) (pa_cons (pv 0) pa_nil))))).run [] s _ _ { nx := fun σ' H' => σ' = [some (.int r), some (.int v), none, none, none, none, none] ∧ Same (wokenH L s.heap []) H', rt := fun _ _ => False } I ?_) ?_ fun _ _ z => z.elim
  · refine ⟨by show 2 ≤ sizeLine; decide, fun t nt => ⟨_, rfl, t, r, 0, 1, rfl, SqT.of upd_same, by omega, Nat.lt_of_le_of_lt (show r.natAbs ≤ 99 by omega) (by decide), by decide, fun g g0 g1 g2 => ⟨?_, same_new nt⟩⟩⟩
    rw [Int.mul_one, Int.mul_one] at g1 g2
    rw [root_one hw g0 g1 g2, if_neg (by decide), Int.zero_add]
    rfl
  intro fl s1 hs
  obtain ⟨rfl, σ1, H1, I1, rfl, sm1⟩ := noE hs rfl rfl rfl
  dsimp only
  refine seg_execs_cons (seg_wrap ?_)
  rw [dp (fs := [])]
  refine wpAny_mono ((show PS (gcx P w K mg base nmE (envE L f cd) A outer s []) (nthS (defBody s_endless_fractions) 1) _ from (ps_par3 (i := 2) (j := 3) (l := 4) (by rfl) sc_endless_fractions.nd rfl rfl rfl (by decide) (by decide) (by decide) rfl rfl rfl (pa_cons pe_int (pa_cons pe_int (pa_cons (pv 1) pa_nil))) (by rfl))).run [] s1 _ _ { nx := fun σ' H' => σ' = [some (.int r), some (.int v), some (.int 0), some (.int 1), some (.int v), none, none] ∧ H' = H1, rt := fun _ _ => False } I1 ⟨_, rfl, _, _, _, rfl, rfl, rfl⟩) ?_ fun _ _ z => z.elim
  intro fl s2 hs
  obtain ⟨rfl, σ2, H2, I2, rfl, rfl⟩ := noE hs rfl rfl rfl
  dsimp only
  refine seg_execs_cons (seg_wrap ?_)
  rw [dp (fs := [])]
  refine wpAny_mono ((show PS (gcx P w K mg base nmE (envE L f cd) A outer s []) (nthS (defBody s_endless_fractions) 2) _ from (ps_asg (pe_tup (pa_cons (pe_tup (pa_cons pe_int (pa_cons pe_int pa_nil))) (pa_cons (pe_tup (pa_cons pe_int (pa_cons pe_int pa_nil))) pa_nil))) (pg_tup (by rfl) (pgs_cons (pg_name (i := 5) sc_endless_fractions.nd rfl (Or.inl rfl)) (pgs_cons (pg_name (i := 6) sc_endless_fractions.nd rfl (Or.inl rfl)) pgs_nil))))).run [] s2 _ _ { nx := fun σ' H' => ∃ lx bx G, σ' = sigE r v 0 1 v lx bx ∧ Same (wokenH L s.heap []) H' ∧ H2 lx = none ∧ H' lx = some (.tup [.int 1, .int 0]) ∧ Same H2 G ∧ G bx = none ∧ H' bx = some (.tup [.int 0, .int 1]), rt := fun _ _ => False } I2 ?_) ?_ fun _ _ z => z.elim
  · refine ⟨by show 2 ≤ sizeLine; decide, fun lx n1 => ⟨by show 2 ≤ sizeLine; decide, fun bx n2 => ⟨by show 2 ≤ sizeLine; decide, fun t n3 => ?_⟩⟩⟩
    have d1 := same_new (o := .tup [.int 1, .int 0]) n1
    have d2 := same_new (o := .tup [.int 0, .int 1]) n2
    have d3 := same_new (o := .tup [.ref lx, .ref bx]) n3
    exact ⟨t, _, rfl, SqT.of upd_same, rfl, .ref lx, _, rfl, .ref bx, _, rfl, rfl, lx, bx, _, rfl, sm1.trans (d1.trans (d2.trans d3)), n1, (d2.trans d3) _ _ upd_same, d1, n2, d3 _ _ upd_same⟩
  intro fl s3 hs
  obtain ⟨rfl, σ3, H3, I3, lx, bx, G, rfl, sm3, n1, h1, sG, n2, h2⟩ := noE hs rfl rfl rfl
  obtain ⟨fr1, pr1⟩ := made_new lt I3 sm1 n1 h1
  obtain ⟨fr2, pr2⟩ := made_new lt I3 (sm1.trans sG) n2 h2
  obtain ⟨W3, hl3⟩ := after_run (T' := [(lx, (cfR r v 0).1), (bx, (cfR r v 0).2)]) E W I3 (fun p hp => by
    rcases List.mem_cons.mp hp with rfl | hp
    · exact ⟨(W.new fr1).1, (W.new fr1).2, pr1⟩
    · rw [List.mem_singleton.mp hp]
      exact ⟨(W.new fr2).1, (W.new fr2).2, pr2⟩)
  dsimp only
  refine seg_execs_cons (seg_While fun p => ?_)
  exact turn_e T M hr hd fr r2 r99 hw small ((GenW.over_loop rfl rfl).trans GenW.over_func) rfl rfl N 0 (Nat.zero_add _) s s3 lx bx W3 hl3 I3.os (stays_of lt hTT I3 sm3)
end
end
/-! ### a generator that walks zip(range(n), another generator) -/
/-- what an object of these kinds holds is changed by no turn -/
def Steady (o : Obj) : Prop := (∀ es ep, o.data ≠ .dict es ep) ∧ o.cls ≠ .type "zip" ∧ o.cls ≠ .type "tuple" ∧ o.cls ≠ .type "range_iterator"
/-- what one turn of the outer generator leaves as it was; L: its frame, fs: the frames below -/
structure Turn1 (L : Addr) (fs : List Addr) (h h' : Heap) : Prop where
  old : ∀ b o, b < L → b ∉ fs → h.get? b = some o → h'.get? b = some o
  oldF : ∀ b o, b ∈ fs → h.get? b = some o → ∃ sl, h'.get? b = some { o with slots := sl }
  same : ∀ b o, L < b → h.get? b = some o → Steady o → h'.get? b = some o
  pairs : ∀ x p q, PairIn h x p q → PairIn h' x p q
theorem Turn1.refl {L : Addr} {fs : List Addr} {h : Heap} : Turn1 L fs h h := ⟨fun _ _ _ _ e => e, fun _ o _ e => ⟨o.slots, e⟩, fun _ _ _ e _ => e, fun _ _ _ e => e⟩
theorem Turn1.trans {L : Addr} {fs : List Addr} {h h1 h2 : Heap} (a : Turn1 L fs h h1) (b : Turn1 L fs h1 h2) : Turn1 L fs h h2 :=
  ⟨fun x o l n e => b.old x o l n (a.old x o l n e), fun x o f e => by
    obtain ⟨sl, e1⟩ := a.oldF x o f e
    obtain ⟨sl', e2⟩ := b.oldF x _ f e1
    exact ⟨sl', e2⟩, fun x o l e st => b.same x o l (a.same x o l e st) st, fun x p q e => b.pairs x p q (a.pairs x p q e)⟩
/-- an object that a turn may change -/
def Loose (L : Addr) (h : Heap) (c : Addr) : Prop := L ≤ c ∧ (∃ o, h.get? c = some o ∧ ¬ Steady o) ∧ ∀ p q, ¬ PairIn h c p q
theorem Turn1.of {L : Addr} {fs : List Addr} {h h' : Heap} {C : List Addr} (hC : ∀ c ∈ C, Loose L h c) (low : ∀ b ∈ fs, b < L) (k : ∀ b o, b ∉ C → h.get? b = some o → h'.get? b = some o) : Turn1 L fs h h' := by
  have no : ∀ {b : Addr}, b < L → b ∉ C := fun {b} l hb => absurd (hC b hb).1 (Nat.not_le.mpr l)
  refine ⟨fun b o l _ e => k b o (no l) e, fun b o f e => ⟨o.slots, k b o (no (low b f)) e⟩, fun b o _ e st => k b o (fun hb => ?_) e, fun x p q e => ?_⟩
  · obtain ⟨_, ⟨o', e', n⟩, _⟩ := hC b hb
    rw [e] at e'
    cases e'
    exact n st
  · obtain ⟨its, r, o, ho, c⟩ := id e
    exact ⟨its, r, o, k x o (fun hx => (hC x hx).2.2 p q e) ho, c⟩
theorem Turn1.stays {L L2 : Addr} {fs fs2 : List Addr} {h h' : Heap} {m : Str → Option Value} (hf : fs2 = L :: fs) (hL : L < L2) (hn : h.Ns L2 m) (low : ∀ b ∈ fs, b < L) (st : Stays L2 fs2 h h') : Turn1 L fs h h' := by
  subst hf
  have ne : ∀ {b : Addr}, b ≤ L → b ≠ L2 := fun {b} l e => by
    rw [e] at l
    exact absurd (Nat.lt_of_lt_of_le hL l) (Nat.lt_irrefl _)
  refine ⟨fun b o l f e => st.keep b o e (ne (Nat.le_of_lt l)) (fun hb => ?_), fun b o f e => st.slot b o e (ne (Nat.le_of_lt (low b f))) (List.mem_cons_of_mem _ f), fun b o l e sd => st.keep b o e (fun z => ?_) (fun hb => ?_), fun x p q e => st.pair (pair_noL hn e) e⟩
  · rcases List.mem_cons.mp hb with z | z
    · rw [z] at l
      exact absurd l (Nat.lt_irrefl _)
    · exact f z
  · obtain ⟨o', es, ep, e', hd, _⟩ := hn
    rw [← z, e] at e'
    cases e'
    exact sd.1 es ep hd
  · rcases List.mem_cons.mp hb with z | z
    · rw [z] at l
      exact absurd l (Nat.lt_irrefl _)
    · exact absurd (Nat.lt_trans (low b z) l) (Nat.lt_irrefl _)
/-- what a sleeping generator does when it is woken, where n items may still be asked for -/
def GoOn (M : Model) (A : Around) (Y : Protocol) (gs : GenState) : Nat → Resume → Shared → Prop
  | 0 => fun _ _ => False
  | m + 1 => fun r s => gs.Goes M A RNever Y m r s
section
variable {P : Program} {w : World} {A : Around} {E : Value → Shared → Prop} {s : Shared}
/-- the next item of a generator that never ends, as another iterator asks for it -/
theorem nextOf_gen {a : Addr} {g n : Nat} {gs : GenState} {Y : Protocol} {Q : Value → Shared → Prop} (hl : s.heap.NoLimit) (room : A.depth < recursionLimit) (hg : s.heap.IsGen a g) (hgs : s.gens[g]? = some gs) (hgo : gs.Goes (model P w) A.in1 RNever Y n (.send .none) (s.setGen g .running))
    (hY : ∀ v s1 gs', gs'.bare = true → Y (n - 1) (s.setGen g .running) v s1 (GoOn (model P w) A.in1 Y gs' n) → Q v (s1.setGen g gs')) : wpAny (model P w) A (Builtin.SmallTypes.nextOf (.ref a)) Q E s := by
  have ty := hg.typeIs
  unfold Builtin.SmallTypes.nextOf
  refine wpAny_bind (wpAny_callSpecial?_slot (name := Str.ofString "__next__") ty slot_gen_next (wpAny_call_entry slot_gen_next ty entry_gen_next ?_ (args_gen_next _)))
  show wpAny (model P w) A.in1 (Builtin.Generator.genWake (.ref a) (.send .none)) _ _ s
  unfold Builtin.Generator.genWake
  refine wpAny_bind (wpAny_holding ?_)
  refine wpAny_genNumber hg (wpAny_bind ?_)
  refine wpAny_genState hgs ?_
  match gs, hgs, hgo with
  | .running, _, h => exact h.elim
  | .finished, _, h => exact h.elim
  | .fresh _, hgs, h | .suspended .., hgs, h =>
    refine wpAny_bind (wpAny_roomToWake hl room ?_)
    show wpAny _ A.in1 (.resume g (.send .none) [] _) _ _ s
    exact wpAny_resumeQ hgs h (fun _ _ z => z.elim) fun v s1 gs' hb hv => wpAny_pure ⟨v, rfl, wpAny_pure (hY v s1 gs' hb (by cases n <;> exact hv))⟩
end
section
variable {P : Program} {w : World} {A : Around} {E : Value → Shared → Prop} {s : Shared}
/-- a state but for its heap and its tokens -/
abbrev withHeap (s : Shared) (h : Heap) (t : Nat) : Shared := { s with heap := h, toks := t }
theorem get_ne {h : Heap} {a b : Addr} {o o' : Obj} (ha : h.get? a = some o) (hb : h.get? b = some o') (d : o.cls ≠ o'.cls) : a ≠ b := by
  rintro rfl
  rw [ha] at hb
  cases hb
  exact d rfl
theorem zipg_item {z TI TO i1 a2 : Addr} {g n : Nat} {gs : GenState} {Y : Protocol} {x left : Int} {c d : Value} {Q : Value → Shared → Prop}
    (hz : IsZip s.heap z TI TO .none) (hTI : IsPair s.heap TI (.ref i1) (.ref a2)) (hTO : IsPair s.heap TO c d) (hi : IsRangeIter s.heap i1 x left 1) (hleft : 0 < left) (room : A.depth < recursionLimit) (hg : s.heap.IsGen a2 g) (hgs : s.gens[g]? = some gs) (ne : TI ≠ TO)
    (lim : ∀ h3 : Heap, (∀ b o, b ≠ z → b ≠ TO → b ≠ i1 → s.heap.get? b = some o → h3.get? b = some o) → h3.NoLimit)
    (go : ∀ (h3 : Heap) (t3 : Nat), (∀ b o, b ≠ z → b ≠ TO → b ≠ i1 → s.heap.get? b = some o → h3.get? b = some o) → gs.Goes (model P w) A.in1 RNever Y n (.send .none) ((withHeap s h3 t3).setGen g .running))
    (fin : ∀ (h3 : Heap) (t3 : Nat) (v : Value) (sb : Shared) (gs' : GenState), (∀ b o, b ≠ z → b ≠ TO → b ≠ i1 → s.heap.get? b = some o → h3.get? b = some o) → IsZip h3 z TI TO .ellipsis → IsRangeIter h3 i1 (x + 1) (left - 1) 1 → IsPair h3 TO (.int x s.toks) d → gs'.bare = true →
      Y (n - 1) ((withHeap s h3 t3).setGen g .running) v sb (GoOn (model P w) A.in1 Y gs' n) →
      IsZip sb.heap z TI TO .ellipsis ∧ IsPair sb.heap TO (.int x s.toks) d ∧
      ∀ (h8 : Heap) (T : Addr), T = sb.heap.objs.size → IsZip h8 z TI TO (rawInt T) → IsPair h8 TO (.int x s.toks) v → IsPair h8 T (.int x s.toks) v → (∀ b o, b ≠ z → b ≠ TO → sb.heap.get? b = some o → h8.get? b = some o) → Q (.ref T) { sb.setGen g gs' with heap := h8 }) :
    wpAny (model P w) A (Builtin.«zip.__next__» ⟨[.ref z], []⟩) (fun f s' => ∃ v, f = .done (.ret v) ∧ Q v s') E s := by
  have zTI : TI ≠ z := get_ne hTI hz (by simp)
  have zTO : TO ≠ z := get_ne hTO hz (by simp)
  have zi : i1 ≠ z := get_ne hi hz (by simp)
  have TOi : TO ≠ i1 := get_ne hTO hi (by simp)
  have za : a2 ≠ z ∧ a2 ≠ TO ∧ a2 ≠ i1 := by
    obtain ⟨o, nm, qn, ho, hc, hd, _⟩ := hg
    exact ⟨get_ne ho hz (by rw [hc]; simp), get_ne ho hTO (by rw [hc]; simp), get_ne ho hi (by rw [hc]; simp)⟩
  show wpAny _ _ (field (.ref z) 2 >>= _) _ _ _
  refine wpAny_bind (wpAny_field hz rfl (x := .bool false) rfl ?_)
  show wpAny _ _ (field (.ref z) 3 >>= _) _ _ _
  refine wpAny_bind (wpAny_field hz rfl (x := .ref TI) rfl (wpAny_bind (wpAny_seqItems hTI rfl ?_)))
  show wpAny (model P w) A (Builtin.SmallTypes.ownedTupleIsFree (.ref z) >>= _) _ _ _
  unfold Builtin.SmallTypes.ownedTupleIsFree
  refine wpAny_bind (wpAny_bind (wpAny_field hz rfl (x := .none) rfl (wpAny_pure ?_)))
  simp only [if_true]
  refine wpAny_bind (wpAny_rule (wpAny_bind (wpAny_field hz rfl (x := .ref TO) rfl (wpAny_bind (wpAny_setField_rec hz (by simp) fun h1 z1 k1 => ?_)))))
  replace z1 : IsZip h1 z TI TO .ellipsis := z1
  have u1 : ∀ b o, b ≠ z → s.heap.get? b = some o → h1.get? b = some o := fun b o n e => k1.extBut b o n e
  refine wpAny_bind ?_
  simp only [List.forIn_nil, List.forIn_cons, List.zipIdx_nil, List.zipIdx_cons]
  refine wpAny_bind (wpAny_bind (wpAny_onRaise ?_))
  show wpAny _ _ (Builtin.SmallTypes.nextOf (.ref i1) >>= _) _ _ { s with heap := h1 }
  refine wpAny_bind ?_
  unfold Builtin.SmallTypes.nextOf
  refine wpAny_bind (CpRep.range_item (s := { s with heap := h1 }) (u1 _ _ zi hi) hleft fun h2 i2 k2 => wpAny_pure (wpAny_pure ?_))
  have u2 : ∀ b o, b ≠ i1 → h1.get? b = some o → h2.get? b = some o := fun b o n e => k2.extBut b o n e
  have TO2 : IsPair h2 TO c d := u2 _ _ TOi (u1 _ _ zTO hTO)
  refine wpAny_bind (wpAny_seqItems TO2 rfl (wpAny_bind (wpAny_updateSeq_pair TO2 fun h3 TO3 k3 => wpAny_bind (wpAny_letGo (wpAny_pure ?_)))))
  replace TO3 : IsPair h3 TO (.int x s.toks) d := TO3
  have u3 : ∀ b o, b ≠ TO → h2.get? b = some o → h3.get? b = some o := fun b o n e => k3.extBut b o n e
  have all3 : ∀ b o, b ≠ z → b ≠ TO → b ≠ i1 → s.heap.get? b = some o → h3.get? b = some o := fun b o n1 n2 n3 e => u3 b o n2 (u2 b o n3 (u1 b o n1 e))
  have z3 : IsZip h3 z TI TO .ellipsis := u3 _ _ zTO.symm (u2 _ _ zi.symm z1)
  have i3 : IsRangeIter h3 i1 (x + 1) (left - 1) 1 := u3 _ _ TOi.symm i2
  refine wpAny_bind (wpAny_bind (wpAny_onRaise ?_))
  show wpAny _ _ (Builtin.SmallTypes.nextOf (.ref a2) >>= _) _ _ (withHeap s h3 (s.toks + 1))
  have hg3 : h3.IsGen a2 g := by
    obtain ⟨o, nm, qn, ho, r⟩ := hg
    exact ⟨o, nm, qn, all3 _ _ za.1 za.2.1 za.2.2 ho, r⟩
  refine wpAny_bind (nextOf_gen (s := withHeap s h3 (s.toks + 1)) (lim h3 all3) room hg3 hgs (go h3 _ all3) fun v sb gs' hb hv => wpAny_pure ?_)
  obtain ⟨z4, TO4, out⟩ := fin h3 _ v sb gs' all3 z3 i3 TO3 hb hv
  refine wpAny_bind (wpAny_seqItems (s := sb.setGen g gs') TO4 rfl (wpAny_bind (wpAny_updateSeq_pair (s := sb.setGen g gs') TO4 fun h5 TO5 k5 => wpAny_bind (wpAny_letGo (wpAny_pure (wpAny_pure ?_))))))
  replace TO5 : IsPair h5 TO (.int x s.toks) v := TO5
  replace k5 : Heap.SameBut TO sb.heap h5 := k5
  have sz5 : h5.objs.size = sb.heap.objs.size := k5.1
  have z5 : IsZip h5 z TI TO .ellipsis := k5.extBut _ _ zTO.symm z4
  refine wpAny_bind (wpAny_seqItems (s := { sb.setGen g gs' with heap := h5 }) TO5 rfl (wpAny_bind (wpAny_newTuple ?_)))
  have zl : z < h5.objs.size := Heap.lt_size z5
  have TOl : TO < h5.objs.size := Heap.lt_size TO5
  show wpAny _ _ (Builtin.SmallTypes.ownedTupleHandOut (.ref z) (.ref h5.objs.size) >>= _) _ _ { sb.setGen g gs' with heap := h5.push { cls := .type "tuple", data := .seq #[.int x s.toks, v] } }
  unfold Builtin.SmallTypes.ownedTupleHandOut
  have z6 : IsZip (h5.push { cls := .type "tuple", data := .seq #[.int x s.toks, v] }) z TI TO .ellipsis := Heap.get?_push_of_some _ z5
  refine wpAny_bind (wpAny_bind (wpAny_setField_rec (s := { sb.setGen g gs' with heap := _ }) z6 (by simp) fun h7 z7 k7 => ?_))
  replace z7 : IsZip h7 z TI TO (rawInt h5.objs.size) := z7
  refine wpAny_setField_rec (s := { sb.setGen g gs' with heap := h7 }) z7 (by simp) fun h8 z8 k8 => ?_
  replace z8 : IsZip h8 z TI TO (rawInt h5.objs.size) := z8
  have u8 : ∀ b o, b ≠ z → (h5.push { cls := .type "tuple", data := .seq #[.int x s.toks, v] }).get? b = some o → h8.get? b = some o := fun b o n e => k8.extBut _ _ n (k7.extBut _ _ n e)
  refine wpAny_pure ⟨_, rfl, ?_⟩
  show Q (.ref h5.objs.size) _
  refine out h8 h5.objs.size sz5 z8 (u8 _ _ zTO (Heap.get?_push_of_some _ TO5)) (u8 _ _ (Nat.ne_of_gt zl) (Heap.get?_push_size _ rfl)) fun b o n1 n2 e => u8 _ _ n1 (Heap.get?_push_of_some _ (k5.extBut _ _ n2 e))
end
section
variable {P : Program} {w : World} {A : Around} {E : Value → Shared → Prop} {s : Shared}
theorem zipg_end {z TI TO i1 a2 : Addr} {x left : Int} {c d : Value} {Q : PySem.Fin → Shared → Prop} (hh : A.handled = none)
    (hz : IsZip s.heap z TI TO .none) (hTI : IsPair s.heap TI (.ref i1) (.ref a2)) (hTO : IsPair s.heap TO c d) (hi : IsRangeIter s.heap i1 x left 1) (hleft : left ≤ 0)
    (hE : ∀ (h' : Heap) (e : Addr), (∀ b o, b ≠ z → b ≠ TO → b ≠ i1 → s.heap.get? b = some o → h'.get? b = some o) → (∃ o, h'.get? e = some o ∧ o.cls = .type "StopIteration") → E (.ref e) { s with heap := h' }) :
    wpAny (model P w) A (Builtin.«zip.__next__» ⟨[.ref z], []⟩) Q E s := by
  have zi : i1 ≠ z := get_ne hi hz (by simp)
  show wpAny _ _ (field (.ref z) 2 >>= _) _ _ _
  refine wpAny_bind (wpAny_field hz rfl (x := .bool false) rfl ?_)
  show wpAny _ _ (field (.ref z) 3 >>= _) _ _ _
  refine wpAny_bind (wpAny_field hz rfl (x := .ref TI) rfl (wpAny_bind (wpAny_seqItems hTI rfl ?_)))
  show wpAny (model P w) A (Builtin.SmallTypes.ownedTupleIsFree (.ref z) >>= _) _ _ _
  unfold Builtin.SmallTypes.ownedTupleIsFree
  refine wpAny_bind (wpAny_bind (wpAny_field hz rfl (x := .none) rfl (wpAny_pure ?_)))
  simp only [if_true]
  refine wpAny_bind (wpAny_rule (wpAny_bind (wpAny_field hz rfl (x := .ref TO) rfl (wpAny_bind (wpAny_setField_rec hz (by simp) fun h1 z1 k1 => ?_)))))
  replace z1 : IsZip h1 z TI TO .ellipsis := z1
  have u1 : ∀ b o, b ≠ z → s.heap.get? b = some o → h1.get? b = some o := fun b o n e => k1.extBut b o n e
  refine wpAny_bind ?_
  simp only [List.forIn_nil, List.forIn_cons, List.zipIdx_nil, List.zipIdx_cons]
  refine wpAny_bind (wpAny_bind (wpAny_onRaise ?_))
  show wpAny _ _ (Builtin.SmallTypes.nextOf (.ref i1) >>= _) _ _ { s with heap := h1 }
  refine wpAny_bind ?_
  unfold Builtin.SmallTypes.nextOf
  refine wpAny_bind (CpRep.range_end (s := { s with heap := h1 }) hh (u1 _ _ zi hi) hleft fun e h2 st k2 => ?_)
  obtain ⟨ea, oe, vs, rfl, he, hc, _⟩ := st
  have z2 : IsZip h2 z TI TO .ellipsis := k2 _ _ zi.symm z1
  have ne : ea ≠ z := get_ne he z2 (by rw [hc]; simp)
  refine wpAny_setField_rec (s := { s with heap := h2 }) z2 (by simp) fun h3 _ k3 => ?_
  exact hE h3 ea (fun b o n1 _ n3 e => k3.extBut b o n1 (k2 b o n3 (u1 b o n1 e))) ⟨oe, k3.extBut _ _ ne he, hc⟩
theorem next_zipg_end {z TI TO i1 a2 : Addr} {x left : Int} {c d : Value} {Q : Option Value → Shared → Prop} (hh : A.handled = none)
    (hz : IsZip s.heap z TI TO .none) (hTI : IsPair s.heap TI (.ref i1) (.ref a2)) (hTO : IsPair s.heap TO c d) (hi : IsRangeIter s.heap i1 x left 1) (hleft : left ≤ 0)
    (hQ : ∀ (h' : Heap), (∀ b o, b ≠ z → b ≠ TO → b ≠ i1 → s.heap.get? b = some o → h'.get? b = some o) → Q none { s with heap := h' }) : wpAny (model P w) A (pyNext (.ref z)) Q E s := by
  have ty : s.TypeIs (.ref z) "zip" := ⟨_, hz, rfl⟩
  unfold pyNext
  refine wpAny_bind (wpAny_attempt (wpAny_callSpecial?_slot (name := Str.ofString "__next__") ty F.slot_zip_next (wpAny_call_entry F.slot_zip_next ty F.entry_zip_next (zipg_end hh hz hTI hTO hi hleft fun h' e k st => ?_) (F.args_zip_next_1 _))))
  obtain ⟨o, ho, hc⟩ := st
  exact wpAny_bind (wpAny_isInstance (T := "StopIteration") (b := true) ⟨o, ho, hc⟩ isSubtype_stop (wpAny_pure (hQ _ k)))
theorem next_zipg {z : Addr} {TI TO : Addr} {Q : Value → Shared → Prop} (hz : IsZip s.heap z TI TO .none) (h : wpAny (model P w) A.in1 (Builtin.«zip.__next__» ⟨[.ref z], []⟩) (fun f s' => ∃ v, f = .done (.ret v) ∧ Q v s') (fun _ _ => False) s) :
    wpAny (model P w) A (pyNext (.ref z)) (fun r s' => ∃ v, r = some v ∧ Q v s') E s := by
  have ty : s.TypeIs (.ref z) "zip" := ⟨_, hz, rfl⟩
  unfold pyNext
  refine wpAny_bind (wpAny_attempt (wpAny_callSpecial?_slot (name := Str.ofString "__next__") ty F.slot_zip_next (wpAny_call_entry F.slot_zip_next ty F.entry_zip_next (wpAny_mono h (fun f s' z => ?_) fun _ _ z => z.elim) (F.args_zip_next_1 _))))
  obtain ⟨v, rfl, q⟩ := z
  exact ⟨v, rfl, wpAny_pure ⟨v, rfl, q⟩⟩
end
/-! ### the loop of fractions -/
def fTarget : Stmt → Expr
  | .For t _ _ _ _ => t
  | _ => .Name "" ⟨0, 0, 0, 0⟩
def fIter : Stmt → Expr
  | .For _ i _ _ _ => i
  | _ => .Name "" ⟨0, 0, 0, 0⟩
def fBody : Stmt → List Stmt
  | .For _ _ b _ _ => b
  | _ => []
def fPos : Stmt → Pos
  | .For _ _ _ _ p => p
  | _ => ⟨0, 0, 0, 0⟩
abbrev envF (L f : Addr) (cd : Value) : Env := envOfC "fractions" (defScope s_fractions) L f cd
abbrev wF : Stmt := nthS (defBody s_fractions) 1
abbrev tgF : Expr := fTarget wF
abbrev itF : Expr := fIter wF
abbrev bodF : List Stmt := fBody wF
abbrev yF : Expr := yExp (nthS bodF 0)
abbrev nmF : List Str := ["root", "count", "number", "fraction"]
theorem body_f : defBody s_fractions = [nthS (defBody s_fractions) 0, .For tgF itF bodF [] (fPos wF)] := rfl
theorem bod_f : bodF = [.Expr (.Yield (some yF) (yPos (nthS bodF 0)).1) (yPos (nthS bodF 0)).2] := rfl
theorem tg_f : ∃ p1 p2 k p, tgF = .Tuple [.Name "number" p1, .Name "fraction" p2] k p := ⟨_, _, _, _, rfl⟩
theorem y_f : ∃ p, yF = .Name "fraction" p := ⟨_, rfl⟩
theorem genv_f (L f : Addr) (cd : Value) : GEnv (envF L f cd) where
  kind := rfl
  glob := rfl
  blt := rfl
  frame := rfl
  cells := by kernel_rfl
  loc := fun x k e => (show ∀ y ∈ (defScope s_fractions).names, y.2 ≠ .cell ∧ y.2 ≠ .free by decide +kernel) (x, k) (PySem.mem_of_lookup e)
theorem no_pair_cls {h : Heap} {c : Addr} {o : Obj} (e : h.get? c = some o) (d : o.cls ≠ .type "tuple") : ∀ p q, ¬ PairIn h c p q := fun p q z => by
  obtain ⟨_, _, o', e', hc, _⟩ := z
  rw [e] at e'
  cases e'
  exact d hc
theorem no_pair_two {h : Heap} {c : Addr} {a b : Value} (e : IsPair h c a b) (d : ∀ k t, b ≠ .int k t) : ∀ p q, ¬ PairIn h c p q := fun p q z => by
  obtain ⟨its, r, o', e', hc, n, hd⟩ := z
  have e : h.get? c = _ := e
  rw [e] at e'
  cases e'
  injection hd with e1 _
  have e2 : its = [a, b] := by simpa using (congrArg Array.toList e1).symm
  subst e2
  cases r with
  | cons _ t => cases t with
    | cons r2 _ =>
      obtain ⟨t, z⟩ := r2
      exact d _ _ z
theorem get_neD {h : Heap} {a b : Addr} {o : Obj} {m : Str → Option Value} (ha : h.get? a = some o) (hb : h.Ns b m) (d : ∀ es ep, o.data ≠ .dict es ep) : a ≠ b := by
  rintro rfl
  obtain ⟨o', es, ep, e, hd, _⟩ := hb
  rw [ha] at e
  cases e
  exact d es ep hd
/-- the addresses of the loop's things, apart -/
structure LoopC (base : Heap) (outer : List Env) (L z TI TO i1 a2 L2 : Addr) : Prop where
  tito : TI ≠ TO
  lz : L < z
  lTI : L < TI
  lTO : L < TO
  li : L < i1
  la : L < a2
  l2 : L < L2
  low : ∀ b ∈ frs outer, b < L
  bz : base.objs.size ≤ L
/-- ahead of the i-th turn -/
structure LoopSt (P : Program) (w : World) (base : Heap) (outer : List Env) (L f : Addr) (cd : Value) (A2 : Around) (r v : Int) (N cnt : Nat) (z TI TO i1 a2 : Addr) (g2 : Nat) (L2 : Addr) (i : Nat) (s : Shared) : Prop where
  bare : AllBare s.gens
  bs : ∀ b o, base.get? b = some o → s.heap.get? b = some o
  funs : s.heap.FunFrames base outer
  zip : IsZip s.heap z TI TO .none
  ti : IsPair s.heap TI (.ref i1) (.ref a2)
  to : ∃ c d, IsPair s.heap TO c d ∧ ∀ k t, d ≠ .int k t
  it : IsRangeIter s.heap i1 i ((cnt : Int) - i) 1
  gen : s.heap.IsGen a2 g2
  ns : ∃ m, s.heap.Ns L m
  ns2 : ∃ m, s.heap.Ns L2 m
  sleep : ∃ gs, s.gens[g2]? = some gs ∧ gs.bare = true ∧ ∀ s', Between base (envF L f cd :: outer) L2 s s' → gs.Goes (model P w) A2 RNever (YPair base (envF L f cd :: outer) L2 (cfF r v) N) (N + 1 - i) (.send .none) s'
/-- what whoever walks the outer generator may do while it sleeps -/
structure Between1 (base : Heap) (outer : List Env) (L : Addr) (g1 : Nat) (s s' : Shared) : Prop where
  bare : AllBare s'.gens
  gens : ∀ g, g ≠ g1 → g < s.gens.size → s'.gens[g]? = s.gens[g]?
  keep : ∀ b o, L ≤ b → s.heap.get? b = some o → (∀ xs n, o.cls = .type "list" → o.data ≠ .seq xs n) → s'.heap.get? b = some o
  pairs : ∀ x p q, PairIn s.heap x p q → PairIn s'.heap x p q
  bs : ∀ b o, base.get? b = some o → s'.heap.get? b = some o
  funs : s'.heap.FunFrames base outer
def YOuter (base : Heap) (outer : List Env) (L : Addr) (g1 : Nat) (F : Nat → Int × Int) (cnt : Nat) : Protocol := fun n s₀ v s1 kap =>
  0 < n ∧ s1.os = s₀.os ∧ AllBare s1.gens ∧ (∀ b o, base.get? b = some o → s1.heap.get? b = some o) ∧ s1.heap.FunFrames base outer ∧ Turn1 L (frs outer) s₀.heap s1.heap ∧ (∃ x, v = .ref x ∧ s₀.heap.get? x = none ∧ PairIn s1.heap x (F (cnt - n)).1 (F (cnt - n)).2) ∧ ∀ s', Between1 base outer L g1 s1 s' → kap (.send .none) s'
def FOuter (base : Heap) (outer : List Env) (L : Addr) (n : Nat) (s₀ s1 : Shared) : Prop :=
  n = 1 ∧ s1.os = s₀.os ∧ AllBare s1.gens ∧ (∀ b o, base.get? b = some o → s1.heap.get? b = some o) ∧ s1.heap.FunFrames base outer ∧ Turn1 L (frs outer) s₀.heap s1.heap
def ROuter (base : Heap) (outer : List Env) (L : Addr) : GenEnd := fun n s₀ r s1 => ((r = .ok (.ret .none) ∨ r = .ok .next) ∧ FOuter base outer L n s₀ s1) ∨ ∃ e, r = .error e ∧ (fun (_ : Value) (_ : Shared) => False) e s1
section
variable {base : Heap} {P : Program} {w : World} {outer : List Env} {L f : Addr} {cd : Value} {A1 A2 : Around} {r v : Int} {N cnt : Nat} {z TI TO i1 a2 L2 : Addr} {g1 g2 i : Nat} {s s' : Shared}
/-- frames that are older than L stand where all that is older stands -/
theorem funs_old {h h' : Heap} (low : ∀ b ∈ frs outer, b < L) (k : ∀ b o, b ∈ frs outer → h.get? b = some o → ∃ sl, h'.get? b = some { o with slots := sl }) (hl : h.FunFrames base outer) : h'.FunFrames base outer := by
  have all : ∀ l : List Env, (∀ b ∈ frs l, b ∈ frs outer) → h.FunFrames base l → h'.FunFrames base l := by
    intro l
    induction l with
    | nil => exact fun _ _ => trivial
    | cons e q ih =>
      rintro sub ⟨hk, ⟨M, o, hf, hb, ho, hd⟩, hr⟩
      have cons : frs (e :: q) = M :: frs q := by
        show List.filterMap _ _ = _
        rw [List.filterMap_cons, hf]
        rfl
      rw [cons] at sub
      obtain ⟨sl, e1⟩ := k M o (sub M List.mem_cons_self) ho
      exact ⟨hk, ⟨M, _, hf, hb, e1, hd⟩, ih (fun b hb => sub b (List.mem_cons_of_mem _ hb)) hr⟩
  exact all outer (fun _ h => h) hl
theorem LoopSt.wake (C : LoopC base outer L z TI TO i1 a2 L2) (S : LoopSt P w base outer L f cd A2 r v N cnt z TI TO i1 a2 g2 L2 i s) (ne : g2 ≠ g1) (B : Between1 base outer L g1 s s') : LoopSt P w base outer L f cd A2 r v N cnt z TI TO i1 a2 g2 L2 i s' := by
  obtain ⟨c, d, hTO, hd⟩ := S.to
  obtain ⟨m, hn⟩ := S.ns
  obtain ⟨m2, hn2⟩ := S.ns2
  obtain ⟨gs, hgs, hb, go⟩ := S.sleep
  have dict : ∀ {b : Addr} {m : Str → Option Value}, L ≤ b → s.heap.Ns b m → ∀ o, s.heap.get? b = some o → s'.heap.get? b = some o := fun {b m} l h o e => by
    refine B.keep b o l e fun xs n _ q => ?_
    obtain ⟨o', es, ep, e', hd', _⟩ := h
    rw [e] at e'
    cases e'
    rw [q] at hd'
    cases hd'
  refine ⟨B.bare, B.bs, B.funs, B.keep _ _ (Nat.le_of_lt C.lz) S.zip (fun xs n q => by simp at q), B.keep _ _ (Nat.le_of_lt C.lTI) S.ti (fun xs n q => by simp at q), ⟨c, d, B.keep _ _ (Nat.le_of_lt C.lTO) hTO (fun xs n q => by simp at q), hd⟩, B.keep _ _ (Nat.le_of_lt C.li) S.it (fun xs n q => by simp at q), ?_, ⟨m, hn.at' (dict (Nat.le_refl _) hn)⟩, ⟨m2, hn2.at' (dict (Nat.le_of_lt C.l2) hn2)⟩, gs, ?_, hb, fun s2 b2 => go s2 ?_⟩
  · obtain ⟨o, nm, qn, ho, hc, hr⟩ := S.gen
    exact ⟨o, nm, qn, B.keep _ _ (Nat.le_of_lt C.la) ho (fun xs n q => by rw [hc] at q; simp at q), hc, hr⟩
  · rw [B.gens g2 ne (Array.getElem?_eq_some_iff.mp hgs).1]
    exact hgs
  · exact ⟨b2.bare, fun o e => b2.frame o (dict (Nat.le_of_lt C.l2) hn2 o e), fun x p q e => b2.pairs x p q (B.pairs x p q e), b2.bs, b2.funs⟩
end
/-! ### a turn of the outer generator -/
theorem seg_execs_then {M : Model} {A : Around} {R : GenEnd} {Y : Protocol} {n : Nat} {s₀ s : Shared} {c : Code} {fs : List Frame} {env : Env} {KK : PySem.Fin → Sem PySem.Fin} {J : Value → Sem PySem.Fin} {g : Bool → Bool} {lv : List Value → List Value} {sts : List Stmt} {k : Flow → Sem PySem.Fin}
    (h : Seg M A R Y n s₀ c ((execs sts env).wrap (fun f => (k f).wrap KK J g lv) J g lv) fs s) : Seg M A R Y n s₀ c ((execs sts env >>= k).wrap KK J g lv) fs s := by
  rw [Sem.bind_eq_wrap', Sem.wrap_wrap]
  exact h
section
variable {base : Heap} {K : PySem.W.Frag} {mg : Str → Option Value} {P : Program} {w : World} {outer : List Env} {L f : Addr} {cd : Value} {A1 : Around} {r v : Int} {N cnt : Nat} {z TI TO i1 a2 L2 : Addr} {g1 g2 : Nat} {fs : List Frame}
abbrev around2 (A1 : Around) (L f : Addr) (cd : Value) : Around := (A1.deeper (envF L f cd)).in1.in1
abbrev SegF (P : Program) (w : World) (base : Heap) (A1 : Around) (outer : List Env) (L f : Addr) (cd : Value) (g1 : Nat) (r v : Int) (cnt n : Nat) (z : Addr) (fs : List Frame) (s₀ s : Shared) : Prop :=
  Seg (model P w) A1 (ROuter base outer L) (YOuter base outer L g1 (cfF r v) cnt) n s₀ (.forLoop tgF (.ref z) bodF [] (envF L f cd)) ((model P w).den (.forLoop tgF (.ref z) bodF [] (envF L f cd))) fs s
/-- the generator's end comes -/
theorem turn_last (C : LoopC base outer L z TI TO i1 a2 L2) (hd : A1.handled = none)
    (ov : A1.over (.forLoop tgF (.ref z) bodF [] (envF L f cd)) fs = A1.deeper (envF L f cd))
    (last : ∀ (s₀ s : Shared), s.os = s₀.os → AllBare s.gens → (∀ b o, base.get? b = some o → s.heap.get? b = some o) → s.heap.FunFrames base outer → Turn1 L (frs outer) s₀.heap s.heap →
      Seg (model P w) A1 (ROuter base outer L) (YOuter base outer L g1 (cfF r v) cnt) 1 s₀ (.block [] (envF L f cd)) ((model P w).den (.block [] (envF L f cd))) fs s)
    (s₀ s : Shared) (S : LoopSt P w base outer L f cd (around2 A1 L f cd) r v N cnt z TI TO i1 a2 g2 L2 cnt s) (os : s.os = s₀.os) (t : Turn1 L (frs outer) s₀.heap s.heap) : SegF P w base A1 outer L f cd g1 r v cnt 1 z fs s₀ s := by
  obtain ⟨c, d, hTO, hd2⟩ := S.to
  have hC : ∀ b ∈ [z, TO, i1], Loose L s.heap b := fun b hb => by
    have e : b = z ∨ b = TO ∨ b = i1 := by simpa using hb
    rcases e with rfl | rfl | rfl
    · exact ⟨Nat.le_of_lt C.lz, ⟨_, S.zip, fun st => st.2.1 rfl⟩, no_pair_cls S.zip (by simp)⟩
    · exact ⟨Nat.le_of_lt C.lTO, ⟨_, hTO, fun st => st.2.2.1 rfl⟩, no_pair_two hTO hd2⟩
    · exact ⟨Nat.le_of_lt C.li, ⟨_, S.it, fun st => st.2.2.2 rfl⟩, no_pair_cls S.it (by simp)⟩
  show Seg _ A1 _ _ 1 s₀ _ ((forTurn tgF (.ref z) bodF [] (envF L f cd)).onRaise (fun x => do noteFrame x (envF L f cd); theTreesLotGoes x)) fs s
  rw [Sem.onRaise_eq_wrap]
  unfold forTurn
  refine seg_bind_wrap (wpAny_standAt (seg_bind_wrap ?_))
  rw [ov]
  refine wpAny_onRaise (next_zipg_end hd S.zip S.ti hTO S.it (by omega) fun h' k => ?_)
  have t' : Turn1 L (frs outer) s.heap h' := Turn1.of hC C.low fun b o hb e => k b o (fun q => hb (by simp [q])) (fun q => hb (by simp [q])) (fun q => hb (by simp [q])) e
  have lb : ∀ b o, base.get? b = some o → h'.get? b = some o := fun b o e => by
    have l : b < L := Nat.lt_of_lt_of_le (Heap.lt_size e) C.bz
    exact k b o (Nat.ne_of_lt (Nat.lt_trans l C.lz)) (Nat.ne_of_lt (Nat.lt_trans l C.lTO)) (Nat.ne_of_lt (Nat.lt_trans l C.li)) (S.bs b o e)
  exact seg_again rfl (last s₀ { s with heap := h' } os S.bare lb (funs_old C.low t'.oldF S.funs) (t.trans t'))
theorem frames_more {h : Heap} {m : Str → Option Value} (hb : base.objs.size ≤ L) (hn : h.Ns L m) (hf : h.FunFrames base outer) : h.FunFrames base (envF L f cd :: outer) := by
  obtain ⟨o, es, ep, ho, hd, _⟩ := hn
  exact ⟨by show ScopeKind.function ≠ _; simp, ⟨L, o, rfl, Heap.get?_none_of_le hb, ho, fun vs q => by rw [hd] at q; cases q⟩, hf⟩
/-- behind the zip's next -/
structure MidSt (P : Program) (w : World) (base : Heap) (outer : List Env) (L f : Addr) (cd : Value) (A2 : Around) (r v : Int) (N cnt : Nat) (z TI TO i1 a2 : Addr) (g2 : Nat) (L2 : Addr) (i : Nat) (s₀ : Shared) (T x : Addr) (tk : Tok) (s : Shared) : Prop where
  os : s.os = s₀.os
  turn : Turn1 L (frs outer) s₀.heap s.heap
  new : s₀.heap.get? x = none
  pair : PairIn s.heap x (cfF r v i).1 (cfF r v i).2
  young : L < T
  tup : IsPair s.heap T (.int i tk) (.ref x)
  bare : AllBare s.gens
  bs : ∀ b o, base.get? b = some o → s.heap.get? b = some o
  funs : s.heap.FunFrames base outer
  zip : IsZip s.heap z TI TO (rawInt T)
  ti : IsPair s.heap TI (.ref i1) (.ref a2)
  to : IsPair s.heap TO (.int i tk) (.ref x)
  it : IsRangeIter s.heap i1 (i + 1) ((cnt : Int) - i - 1) 1
  gen : s.heap.IsGen a2 g2
  ns : ∃ m, s.heap.Ns L m
  ns2 : ∃ m, s.heap.Ns L2 m
  sleep : ∃ gs, s.gens[g2]? = some gs ∧ gs.bare = true ∧ ∀ s', Between base (envF L f cd :: outer) L2 s s' → gs.Goes (model P w) A2 RNever (YPair base (envF L f cd :: outer) L2 (cfF r v) N) (N - i) (.send .none) s'
theorem next_mid (M : Mod K mg base) (C : LoopC base outer L z TI TO i1 a2 L2) (dep : A1.depth + 1 < recursionLimit) (i : Nat) (hi : i < cnt) (hN : cnt ≤ N)
    (s₀ s : Shared) (S : LoopSt P w base outer L f cd (around2 A1 L f cd) r v N cnt z TI TO i1 a2 g2 L2 i s) (os : s.os = s₀.os) (t : Turn1 L (frs outer) s₀.heap s.heap) (th : ∀ b, s.heap.get? b = none → s₀.heap.get? b = none) {E : Value → Shared → Prop} :
    wpAny (model P w) (A1.deeper (envF L f cd)) (pyNext (.ref z)) (fun u s4 => ∃ T x tk, u = some (.ref T) ∧ MidSt P w base outer L f cd (around2 A1 L f cd) r v N cnt z TI TO i1 a2 g2 L2 i s₀ T x tk s4) E s := by
  obtain ⟨c, d, hTO, hd2⟩ := S.to
  obtain ⟨m1, hn1⟩ := S.ns
  obtain ⟨m2, hn2⟩ := S.ns2
  obtain ⟨gs, hgs, hbare, go⟩ := S.sleep
  have bl : ∀ {b : Addr} {o : Obj}, base.get? b = some o → b < L := fun {b o} e => Nat.lt_of_lt_of_le (Heap.lt_size e) C.bz
  have nz : ∀ {b : Addr}, b ≤ L → b ≠ z ∧ b ≠ TO ∧ b ≠ i1 ∧ b ≠ L2 := fun {b} l => ⟨Nat.ne_of_lt (Nat.lt_of_le_of_lt l C.lz), Nat.ne_of_lt (Nat.lt_of_le_of_lt l C.lTO), Nat.ne_of_lt (Nat.lt_of_le_of_lt l C.li), Nat.ne_of_lt (Nat.lt_of_le_of_lt l C.l2)⟩
  have hC : ∀ b ∈ [z, TO, i1], Loose L s.heap b := fun b hb => by
    have e : b = z ∨ b = TO ∨ b = i1 := by simpa using hb
    rcases e with rfl | rfl | rfl
    · exact ⟨Nat.le_of_lt C.lz, ⟨_, S.zip, fun st => st.2.1 rfl⟩, no_pair_cls S.zip (by simp)⟩
    · exact ⟨Nat.le_of_lt C.lTO, ⟨_, hTO, fun st => st.2.2.1 rfl⟩, no_pair_two hTO hd2⟩
    · exact ⟨Nat.le_of_lt C.li, ⟨_, S.it, fun st => st.2.2.2 rfl⟩, no_pair_cls S.it (by simp)⟩
  have zL2 : z ≠ L2 := get_neD S.zip hn2 (by simp)
  have TOL2 : TO ≠ L2 := get_neD hTO hn2 (by simp)
  have iL2 : i1 ≠ L2 := get_neD S.it hn2 (by simp)
  have TIL2 : TI ≠ L2 := get_neD S.ti hn2 (by simp)
  have TIz : TI ≠ z := get_ne S.ti S.zip (by simp)
  have TIi : TI ≠ i1 := get_ne S.ti S.it (by simp)
  have iz : i1 ≠ z := get_ne S.it S.zip (by simp)
  have iTO : i1 ≠ TO := get_ne S.it hTO (by simp)
  have cons : frs (envF L f cd :: outer) = L :: frs outer := rfl
  have nf : ∀ {b : Addr}, L < b → b ∉ frs (envF L f cd :: outer) := fun {b} l hb => by
    rw [cons] at hb
    rcases List.mem_cons.mp hb with q | q
    · rw [q] at l
      exact absurd l (Nat.lt_irrefl _)
    · exact absurd (Nat.lt_trans (C.low b q) l) (Nat.lt_irrefl _)
  have kt : ∀ {h3 : Heap}, (∀ b o, b ≠ z → b ≠ TO → b ≠ i1 → s.heap.get? b = some o → h3.get? b = some o) → Turn1 L (frs outer) s.heap h3 := fun {h3} k => Turn1.of hC C.low fun b o hb e => k b o (fun q => hb (by simp [q])) (fun q => hb (by simp [q])) (fun q => hb (by simp [q])) e
  refine GenW.wpAny_gsz (n := g2 + 1) (Array.getElem?_eq_some_iff.mp hgs).1 (wpAny_mono (next_zipg (E := fun _ _ => False) (Q := fun u s4 => g2 + 1 ≤ s4.gens.size → ∃ T x tk, u = .ref T ∧ MidSt P w base outer L f cd (around2 A1 L f cd) r v N cnt z TI TO i1 a2 g2 L2 i s₀ T x tk s4) S.zip ?_) (fun u s4 h sz => ?_) fun _ _ z => z.elim)
  rotate_left
  · obtain ⟨y, rfl, q⟩ := h
    obtain ⟨T, x, tk, rfl, m⟩ := q sz
    exact ⟨T, x, tk, rfl, m⟩
  refine zipg_item (n := N + 1 - i) (Y := YPair base (envF L f cd :: outer) L2 (cfF r v) N) S.zip S.ti hTO S.it (by omega) (by show A1.depth + 1 < _; exact dep) S.gen hgs C.tito (fun h3 k => M.nolimit.keeps fun b o e => ?_) (fun h3 t3 k => go _ ⟨allBare_setGen (s := withHeap s h3 t3) S.bare rfl, fun o e => k L2 o zL2.symm TOL2.symm iL2.symm e, (kt k).pairs, fun b o e => ?_, ?_⟩) (fun h3 t3 u sb gs' k z3 i3 TO3 hb hv => ?_)
  · obtain ⟨q1, q2, q3, _⟩ := nz (Nat.le_of_lt (bl e))
    exact k b o q1 q2 q3 (S.bs b o e)
  · obtain ⟨q1, q2, q3, _⟩ := nz (Nat.le_of_lt (bl e))
    exact k b o q1 q2 q3 (S.bs b o e)
  · obtain ⟨q1, q2, q3, _⟩ := nz (Nat.le_refl L)
    exact frames_more C.bz (hn1.at' fun o e => k L o q1 q2 q3 e) (funs_old C.low (kt k).oldF S.funs)
  · obtain ⟨os2, bare2, st2, hn2b, ⟨x, rfl, xn, xp⟩, nxt⟩ := hv
    have st2 : Stays L2 (frs (envF L f cd :: outer)) h3 sb.heap := st2
    have zb := st2.keep z _ z3 zL2 (nf C.lz)
    have TOb := st2.keep TO _ TO3 TOL2 (nf C.lTO)
    refine ⟨zb, TOb, fun h8 T hT z8 TO8 T8 k8 sz => ?_⟩
    refine ⟨T, x, s.toks, rfl, ?_⟩
    have hn23 : h3.Ns L2 m2 := hn2.at' fun o e => k L2 o zL2.symm TOL2.symm iL2.symm e
    have C8 : ∀ b ∈ [z, TO], Loose L sb.heap b := fun b hb => by
      have e : b = z ∨ b = TO := by simpa using hb
      rcases e with rfl | rfl
      · exact ⟨Nat.le_of_lt C.lz, ⟨_, zb, fun st => st.2.1 rfl⟩, no_pair_cls zb (by simp)⟩
      · exact ⟨Nat.le_of_lt C.lTO, ⟨_, TOb, fun st => st.2.2.1 rfl⟩, no_pair_two TOb hd2⟩
    have t8 : Turn1 L (frs outer) sb.heap h8 := Turn1.of C8 C.low fun b o hb e => k8 b o (fun q => hb (by simp [q])) (fun q => hb (by simp [q])) e
    have tb : Turn1 L (frs outer) h3 sb.heap := Turn1.stays cons C.l2 hn23 C.low st2
    have tAll : Turn1 L (frs outer) s.heap h8 := (kt k).trans (tb.trans t8)
    have old : ∀ b o, L < b → b ≠ z → b ≠ TO → b ≠ i1 → b ≠ L2 → s.heap.get? b = some o → h8.get? b = some o := fun b o l n1 n2 n3 n4 e => k8 b o n1 n2 (st2.keep b o (k b o n1 n2 n3 e) n4 (nf l))
    have hnL : ∃ m, h8.Ns L m := by
      obtain ⟨q1, q2, q3, q4⟩ := nz (Nat.le_refl L)
      obtain ⟨o, es, ep, ho, hd, rr⟩ := hn1
      obtain ⟨sl, e⟩ := st2.slot L o (k L o q1 q2 q3 ho) q4 (by rw [cons]; exact List.mem_cons_self)
      exact ⟨m1, _, es, ep, k8 L _ q1 q2 e, hd, rr⟩
    have hn28 : ∀ o, sb.heap.get? L2 = some o → h8.get? L2 = some o := fun o e => k8 L2 o zL2.symm TOL2.symm e
    have gsz : g2 < sb.gens.size := by
      have q : (sb.setGen g2 gs').gens.size = sb.gens.size := GenW.setGen_size _ _ _
      have sz' : g2 + 1 ≤ (sb.setGen g2 gs').gens.size := sz
      omega
    have xs : s.heap.get? x = none := by
      have xn : h3.get? x = none := xn
      cases q : s.heap.get? x with
      | none => rfl
      | some o =>
        exfalso
        by_cases n1 : x = z
        · have z3 : h3.get? z = _ := z3
          rw [← n1, xn] at z3
          cases z3
        · by_cases n2 : x = TO
          · have TO3 : h3.get? TO = _ := TO3
            rw [← n2, xn] at TO3
            cases TO3
          · by_cases n3 : x = i1
            · have i3 : h3.get? i1 = _ := i3
              rw [← n3, xn] at i3
              cases i3
            · rw [k x o n1 n2 n3 q] at xn
              cases xn
    refine ⟨os2.trans os, t.trans tAll, th x xs, t8.pairs _ _ _ (by rw [show i = N - (N + 1 - i - 1) by omega]; exact xp), Nat.lt_of_lt_of_le (Nat.lt_trans C.lz (Heap.lt_size zb)) (Nat.le_of_eq hT.symm), T8, allBare_setGen (s := sb) bare2 hb, fun b o e => ?_, funs_old C.low tAll.oldF S.funs, z8, old TI _ C.lTI TIz C.tito TIi TIL2 S.ti, TO8, ?_, ?_, hnL, ?_, gs', setGen_at gsz, hb, fun s' B => ?_⟩
    · obtain ⟨q1, q2, q3, q4⟩ := nz (Nat.le_of_lt (bl e))
      have hs := k b o q1 q2 q3 (S.bs b o e)
      have nfb : b ∉ frs (envF L f cd :: outer) := fun hb' => by
        rw [cons] at hb'
        rcases List.mem_cons.mp hb' with q | q
        · have := bl e
          rw [q] at this
          exact absurd this (Nat.lt_irrefl _)
        · have := (S.funs.mem q).1
          rw [e] at this
          cases this
      exact k8 b o q1 q2 (st2.keep b o hs q4 nfb)
    · exact k8 i1 _ iz iTO (st2.keep i1 _ i3 iL2 (nf C.li))
    · obtain ⟨o, nm, qn, ho, hc, hd, hs⟩ := S.gen
      exact ⟨o, nm, qn, old a2 o C.la (get_ne ho S.zip (by rw [hc]; simp)) (get_ne ho hTO (by rw [hc]; simp)) (get_ne ho S.it (by rw [hc]; simp)) (get_neD ho hn2 (by rw [hd]; simp)) ho, hc, hd, hs⟩
    · obtain ⟨m, hm⟩ := hn2b
      exact ⟨m, hm.at' hn28⟩
    · rw [show N + 1 - i = (N - i) + 1 by omega] at nxt
      rcases nxt s' ⟨B.bare, fun o e => B.frame o (hn28 o e), fun y p q e => B.pairs y p q (t8.pairs y p q e), B.bs, B.funs⟩ with q | q
      · omega
      · exact q
theorem letgo_at {P : Program} {w : World} {A : Around} {E : Value → Shared → Prop} {s : Shared} {tg : Expr} {elts : List Expr} {k pp} {z TI TO T : Addr} {Q : Unit → Shared → Prop} (e : tg = .Tuple elts k pp) (hz : IsZip s.heap z TI TO (rawInt T))
    (hQ : ∀ h', IsZip h' z TI TO .none → Heap.SameBut z s.heap h' → Q () { s with heap := h' }) : wpAny (model P w) A (letOwnedTupleGo tg (.ref z) (.ref T)) Q E s := by
  subst e
  exact wpAny_letOwnedTupleGo_zip hz hQ
theorem assign_at {P : Program} {w : World} {A : Around} {E : Value → Shared → Prop} {s : Shared} {tg : Expr} {a b : Str} {p1 p2 : Pos} {k pp} {T : Addr} {va vb : Value} {env : Env} {Q : Unit → Shared → Prop} (e : tg = .Tuple [.Name a p1, .Name b p2] k pp) (hh : A.handled = none) (ht : s.heap.IsTuple T #[va, vb])
    (h : ∀ h', Heap.ExtBut s.heap.objs.size s.heap h' → wpAny (model P w) A (do holding [vb] (assign (.Name a p1) env va); holding [] (assign (.Name b p2) env vb); pure ()) Q E { s with heap := h' }) : wpAny (model P w) A (assign tg env (.ref T)) Q E s := by
  subst e
  exact wpAny_assign_Tuple hh ht rfl rfl h
/-- a turn that hands out an item -/
theorem turn_item (M : Mod K mg base) (C : LoopC base outer L z TI TO i1 a2 L2) (hd : A1.handled = none) (dep : A1.depth + 1 < recursionLimit) (hN : cnt ≤ N)
    (ov : A1.over (.forLoop tgF (.ref z) bodF [] (envF L f cd)) fs = A1.deeper (envF L f cd)) (sp : splitAtGen fs = none) (gd : fs.any Frame.guarded = false) (ne : g2 ≠ g1) (i j : Nat) (hij : i + (j + 1) = cnt)
    (next : ∀ s : Shared, LoopSt P w base outer L f cd (around2 A1 L f cd) r v N cnt z TI TO i1 a2 g2 L2 (i + 1) s → SegF P w base A1 outer L f cd g1 r v cnt (j + 1) z fs s s)
    (s₀ s : Shared) (S : LoopSt P w base outer L f cd (around2 A1 L f cd) r v N cnt z TI TO i1 a2 g2 L2 i s) (os : s.os = s₀.os) (t : Turn1 L (frs outer) s₀.heap s.heap) (th : ∀ b, s.heap.get? b = none → s₀.heap.get? b = none) : SegF P w base A1 outer L f cd g1 r v cnt (j + 1 + 1) z fs s₀ s := by
  show Seg _ A1 _ _ (j + 1 + 1) s₀ _ ((forTurn tgF (.ref z) bodF [] (envF L f cd)).onRaise (fun x => do noteFrame x (envF L f cd); theTreesLotGoes x)) fs s
  rw [Sem.onRaise_eq_wrap]
  unfold forTurn
  refine seg_bind_wrap (wpAny_standAt (seg_bind_wrap ?_))
  rw [ov]
  refine wpAny_onRaise (wpAny_mono (next_mid M C dep i (by omega) hN s₀ s S os t th (E := fun _ _ => False)) ?_ fun _ _ q => q.elim)
  rintro u s4 ⟨T, x, tk, rfl, S4⟩
  have nz : ∀ {b : Addr}, b ≤ L → b ≠ z ∧ b ≠ TO ∧ b ≠ i1 ∧ b ≠ L2 := fun {b} l => ⟨Nat.ne_of_lt (Nat.lt_of_le_of_lt l C.lz), Nat.ne_of_lt (Nat.lt_of_le_of_lt l C.lTO), Nat.ne_of_lt (Nat.lt_of_le_of_lt l C.li), Nat.ne_of_lt (Nat.lt_of_le_of_lt l C.l2)⟩
  obtain ⟨p1, p2, kk, pp, etg⟩ := tg_f
  obtain ⟨py, ey⟩ := y_f
  obtain ⟨m4, hn4⟩ := S4.ns
  obtain ⟨m42, hn42⟩ := S4.ns2
  have zL2 : z ≠ L2 := get_neD S4.zip hn42 (by simp)
  have TOz : TO ≠ z := get_ne S4.to S4.zip (by simp)
  have TIz : TI ≠ z := get_ne S4.ti S4.zip (by simp)
  have iz : i1 ≠ z := get_ne S4.it S4.zip (by simp)
  have Tz : T ≠ z := get_ne S4.tup S4.zip (by simp)
  dsimp only
  refine seg_bind_wrap (letgo_at etg S4.zip fun h5 z5 k5 => seg_bind_wrap ?_)
  rw [ov]
  have u5 : ∀ b o, b ≠ z → s4.heap.get? b = some o → h5.get? b = some o := fun b o n e => k5.extBut b o n e
  refine assign_at etg (s := { s4 with heap := h5 }) hd ⟨_, u5 _ _ Tz S4.tup, rfl, _, rfl⟩ fun h6 k6 => ?_
  have u6 : ∀ b o, h5.get? b = some o → h6.get? b = some o := fun b o e => k6 b o (Nat.ne_of_lt (Heap.lt_size e)) e
  have hn6 : h6.Ns L m4 := hn4.at' fun o e => u6 _ _ (u5 _ _ (nz (Nat.le_refl _)).1 e)
  refine wpAny_bind (wpAny_holding (wpAny_assign_Name (wpAny_storeName_local (env := envF L f cd) (s := { s4 with heap := h6 }) (show (defScope s_fractions).names.lookup (Str.ofString "number") = some NameKind.local by decide +kernel) hn6 (fun h7 hn7 k7 => ?_))))
  refine wpAny_bind (wpAny_holding (wpAny_assign_Name (wpAny_storeName_local (env := envF L f cd) (show (defScope s_fractions).names.lookup (Str.ofString "fraction") = some NameKind.local by decide +kernel) hn7 (fun h8 hn8 k8 => wpAny_pure ?_))))
  have k7 : Heap.SameBut L h6 h7 := k7
  have k8 : Heap.SameBut L h7 h8 := k8
  refine seg_execs_then (seg_cons_at bod_f (seg_Expr_Yield sp rfl gd ?_))
  rw [ov, ey]
  refine wpAny_Name (wpAny_loadName_local (env := envF L f cd) (v := .ref x) rfl (show (defScope s_fractions).names.lookup (Str.ofString "fraction") = some NameKind.local by decide +kernel) hn8 (if_pos rfl) ?_)
  intro kap hk
  have u8 : ∀ b o, b ≠ z → b ≠ L → s4.heap.get? b = some o → h8.get? b = some o := fun b o n1 n2 e => k8.extBut b o n2 (k7.extBut b o n2 (u6 b o (u5 b o n1 e)))
  have C8 : ∀ b ∈ [z, L], Loose L s4.heap b := fun b hb => by
    have e : b = z ∨ b = L := by simpa using hb
    rcases e with rfl | rfl
    · exact ⟨Nat.le_of_lt C.lz, ⟨_, S4.zip, fun st => st.2.1 rfl⟩, no_pair_cls S4.zip (by simp)⟩
    · obtain ⟨o, es, ep, ho, hdd, _⟩ := id hn4
      exact ⟨Nat.le_refl _, ⟨o, ho, fun st => st.1 es ep hdd⟩, fun p q hp => pair_noL hn4 hp rfl⟩
  have t8 : Turn1 L (frs outer) s4.heap h8 := Turn1.of C8 C.low fun b o hb e => u8 b o (fun q => hb (by simp [q])) (fun q => hb (by simp [q])) e
  have bs8 : ∀ b o, base.get? b = some o → h8.get? b = some o := fun b o e => by
    have l : b < L := Nat.lt_of_lt_of_le (Heap.lt_size e) C.bz
    exact u8 b o (nz (Nat.le_of_lt l)).1 (Nat.ne_of_lt l) (S4.bs b o e)
  have up8 : ∀ b o, L < b → b ≠ z → s4.heap.get? b = some o → h8.get? b = some o := fun b o l n e => u8 b o n (Nat.ne_of_gt l) e
  have fu8 : h8.FunFrames base outer := funs_old C.low t8.oldF S4.funs
  have L2k : ∀ o, s4.heap.get? L2 = some o → h8.get? L2 = some o := fun o e => up8 L2 o C.l2 zL2.symm e
  have St8 : ∀ sy : Shared, sy.heap = h8 → sy.gens = s4.gens → LoopSt P w base outer L f cd (around2 A1 L f cd) r v N cnt z TI TO i1 a2 g2 L2 (i + 1) sy := fun sy e1 e2 => by
    obtain ⟨gs, hgs, hb, go⟩ := S4.sleep
    refine ⟨by rw [e2]; exact S4.bare, by rw [e1]; exact bs8, by rw [e1]; exact fu8, ?_, by rw [e1]; exact up8 _ _ C.lTI TIz S4.ti, ⟨_, _, by rw [e1]; exact up8 _ _ C.lTO TOz S4.to, fun k t q => by cases q⟩, ?_, ?_, ⟨_, by rw [e1]; exact hn8⟩, ⟨m42, by rw [e1]; exact hn42.at' L2k⟩, gs, by rw [e2]; exact hgs, hb, fun s' B => ?_⟩
    · rw [e1]
      exact k8.extBut _ _ (Nat.ne_of_gt C.lz) (k7.extBut _ _ (Nat.ne_of_gt C.lz) (u6 _ _ z5))
    · rw [e1, show (((i + 1 : Nat) : Int)) = (i : Int) + 1 by omega, show (cnt : Int) - ((i : Int) + 1) = (cnt : Int) - i - 1 by omega]
      exact up8 _ _ C.li iz S4.it
    · obtain ⟨o, nm, qn, ho, hc, hr⟩ := S4.gen
      rw [e1]
      exact ⟨o, nm, qn, up8 _ _ C.la (get_ne ho S4.zip (by rw [hc]; simp)) ho, hc, hr⟩
    · rw [show N + 1 - (i + 1) = N - i by omega]
      exact go s' ⟨B.bare, fun o e => B.frame o (by rw [e1]; exact L2k o e), fun y p q e => B.pairs y p q (by rw [e1]; exact t8.pairs y p q e), B.bs, B.funs⟩
  refine ⟨Nat.succ_pos j, S4.os, S4.bare, bs8, fu8, S4.turn.trans t8, ⟨x, rfl, S4.new, by rw [show cnt - (j + 1) = i by omega]; exact t8.pairs _ _ _ S4.pair⟩, fun s9 B => hk .none s9 ?_⟩
  dsimp only
  refine seg_execs_nil ?_
  exact seg_again rfl (next s9 (LoopSt.wake C (St8 { s4 with heap := h8, toks := s4.toks + 1 + 1 } rfl rfl) ne B))
/-- all its turns -/
theorem loop_f (M : Mod K mg base) (C : LoopC base outer L z TI TO i1 a2 L2) (hd : A1.handled = none) (dep : A1.depth + 1 < recursionLimit) (hN : cnt ≤ N)
    (ov : A1.over (.forLoop tgF (.ref z) bodF [] (envF L f cd)) fs = A1.deeper (envF L f cd)) (sp : splitAtGen fs = none) (gd : fs.any Frame.guarded = false) (ne : g2 ≠ g1)
    (last : ∀ (s₀ s : Shared), s.os = s₀.os → AllBare s.gens → (∀ b o, base.get? b = some o → s.heap.get? b = some o) → s.heap.FunFrames base outer → Turn1 L (frs outer) s₀.heap s.heap →
      Seg (model P w) A1 (ROuter base outer L) (YOuter base outer L g1 (cfF r v) cnt) 1 s₀ (.block [] (envF L f cd)) ((model P w).den (.block [] (envF L f cd))) fs s) :
    ∀ (j i : Nat), i + j = cnt → ∀ (s₀ s : Shared), LoopSt P w base outer L f cd (around2 A1 L f cd) r v N cnt z TI TO i1 a2 g2 L2 i s → s.os = s₀.os → Turn1 L (frs outer) s₀.heap s.heap → (∀ b, s.heap.get? b = none → s₀.heap.get? b = none) → SegF P w base A1 outer L f cd g1 r v cnt (j + 1) z fs s₀ s
  | 0, i, hi, s₀, s, S, os, t, _ => turn_last C hd ov last s₀ s (by have e : i = cnt := by omega
                                                                    rw [← e]
                                                                    rw [← e] at S
                                                                    exact S) os t
  | j + 1, i, hi, s₀, s, S, os, t, th => turn_item M C hd dep hN ov sp gd ne i j hi (fun s' S' => loop_f M C hd dep hN ov sp gd ne last j (i + 1) (by omega) s' s' S' rfl Turn1.refl (fun _ e => e)) s₀ s S os t th
end
/-! ### generators and zips are made -/
theorem gen_made {P : Program} {w : World} {K : PySem.W.Frag} {A : Around} {s : Shared} {x qual : Str} {st : Stmt} {f : Addr} {fd : FuncData} {N ps : List Str} {us : List Value} {vs : List V} {R : Result → Shared → Prop} (F : Fun K x qual st f fd) (S : GScope N ps (defScope st)) (nc : ∀ y ∈ (defScope st).names, y.2 ≠ .cell ∧ y.2 ≠ .free)
    (room : A.depth < recursionLimit) (KX : K.In s.heap) (lim : s.heap.NoLimit) (hb : Binds K fd ps []) (rv : Vals vs us) (hl : vs.length = ps.length)
    (h : ∀ (cd : Value) (a : Addr) (h' : Heap) (tk : Nat), s.heap.objs.size < a → h'.IsGen a s.gens.size → (∀ b o, s.heap.get? b = some o → h'.get? b = some o) → LocIs (envOfC qual (defScope st) s.heap.objs.size f cd) N h' (L2.start N vs) →
      R (.ok (.ret (.ref a))) { s with gens := s.gens.push (.fresh (.func (defBody st) (envOfC qual (defScope st) s.heap.objs.size f cd))), heap := h', toks := tk }) : codeAny (model P w) A (.call (.ref f) ⟨us, []⟩) R s := by
  obtain ⟨oc, od, kV, doc, pm, an, cdv, ct, osl, rfl, lk, hcd⟩ := F.ex
  have hul : us.length = ps.length := rv.length.symm.trans hl
  have locs : ∀ y ∈ ps, (defScope st).names.lookup y = some .local := fun y hy => by
    rcases S.par y hy with q | q
    · exact q
    · exact absurd rfl (nc _ (PySem.mem_of_lookup q)).1
  refine codeAny_call_generator room (KX _ _ lk) rfl S.co S.gen rfl (PySem.W.codeRec_of KX hcd) ?_
  have b := hb s us KX (by rw [List.append_nil]; exact hul)
  rw [List.append_nil] at b
  refine b _ _ _ _ (wpAny_newFunctionEnv_cells S.kind (fun ⟨n, u⟩ hy => .inl (locs n (List.of_mem_zip hy).1)) fun env he s1 y => ?_)
  subst he
  obtain ⟨h1, tk, rfl, hk⟩ := y.done
  have ns := y.toInCall.ns
  refine ⟨lim.keeps y.toInCall.keep, h cdv _ _ _ ns.lt ⟨_, _, _, Heap.get?_push_size _ rfl, rfl, rfl, rfl⟩ (fun b o e => Heap.get?_push_of_some _ (y.toInCall.keep b o e)) ⟨?_, _, ns.push _, fun i n v e1 e2 _ => ?_⟩⟩
  · have hpl : ps.length ≤ N.length := by
      have := congrArg List.length S.pre
      rw [List.length_take] at this
      omega
    unfold L2.start
    rw [List.length_append, List.length_map, List.length_replicate]
    omega
  · have hi : i < vs.length := by
      rcases Nat.lt_or_ge i vs.length with z | z
      · exact z
      · unfold L2.start at e2
        rw [List.getElem?_append_right (by simpa using z), List.getElem?_replicate] at e2
        split at e2 <;> cases e2
    have ha : vs[i]? = some v := by
      unfold L2.start at e2
      rw [List.getElem?_append_left (by simpa using hi), List.getElem?_map] at e2
      cases e : vs[i]? with
      | none => rw [e] at e2; cases e2
      | some a => rw [e] at e2; cases e2; rfl
    obtain ⟨u, hu, ru⟩ := rv.get ha
    have hp : ps[i]? = some n := by
      rw [← S.pre, List.getElem?_take_of_lt (by omega)]
      exact e1
    have nd : ps.Nodup := by
      rw [← S.pre]
      exact S.nd.sublist (List.take_sublist _ _)
    have kn := locs n (List.mem_of_getElem? hp)
    exact ⟨u, ru, kn, bindL_get nd hp hu kn⟩
section
variable {P : Program} {w : World} {A : Around} {E : Value → Shared → Prop} {s : Shared}
theorem meets_zip_rg (ra a2 : Addr) (g : Nat) (n : Int) (t u v : Tok) (small : Builtin.Range.small 0 n 1 = true) :
    Meets (Builtin.«zip.__new__» ⟨[.type "zip", .ref ra, .ref a2], []⟩) (fun _ R s => IsRange s.heap ra 0 n 1 t u v ∧ s.heap.IsGen a2 g ∧
      R (.ok (.ret (.ref (s.heap.objs.size + 3)))) { s with heap := (((s.heap.push { cls := .type "range_iterator", data := .fields #[rawInt 0, rawInt (Builtin.Range.rangeSize 0 n 1), rawInt 1] }).push { cls := .type "tuple", data := .seq #[.ref s.heap.objs.size, .ref a2] }).push { cls := .type "tuple", data := .seq #[.none, .none] }).push { cls := .type "zip", data := .fields #[.none, .bool false, .bool false, .ref (s.heap.objs.size + 1), .ref (s.heap.objs.size + 2)] } }) :=
  .of_wp fun prog w A R s h => by
    obtain ⟨hp, gn, d, tk, os⟩ := s
    obtain ⟨h1, h2, h⟩ := h
    have hsub := sub_zip
    have e1 : IsRange (Shared.heap ⟨hp, gn, d, tk, os⟩) ra 0 n 1 t u v := h1
    have e2 : Heap.IsGen (Shared.heap ⟨hp.push { cls := .type "range_iterator", data := .fields #[rawInt 0, rawInt (Builtin.Range.rangeSize 0 n 1), rawInt 1] }, gn, d, tk, os⟩) a2 g := Heap.IsGen.push h2 _
    wp_walk using wpAny_pyIter_range e1 small, wpAny_pyIter_gen e2
    refine ⟨_, rfl, ?_⟩
    simp only [Heap.size_push] at h ⊢
    exact h
theorem call_zip_rg {ra a2 : Addr} {g : Nat} {n : Nat} {t u v : Tok} {Q : Value → Shared → Prop} (h1 : IsRange s.heap ra 0 n 1 t u v) (h2 : s.heap.IsGen a2 g) (hn : n < 2 ^ 62)
    (h : ∀ h' : Heap, IsRangeIter h' s.heap.objs.size 0 n 1 → IsPair h' (s.heap.objs.size + 1) (.ref s.heap.objs.size) (.ref a2) → IsPair h' (s.heap.objs.size + 2) .none .none → IsZip h' (s.heap.objs.size + 3) (s.heap.objs.size + 1) (s.heap.objs.size + 2) .none →
      (∀ c o, s.heap.get? c = some o → h'.get? c = some o) → Q (.ref (s.heap.objs.size + 3)) { s with heap := h' }) :
    wpAny (model P w) A (call (.type "zip") [.ref ra, .ref a2]) Q E s := by
  have small : Builtin.Range.small 0 n 1 = true := small_one (by decide) (by decide) (by omega) (by omega)
  refine callType_new F.called_zip (by decide) (F.typeCall_zip_2 _ _) (F.newCall_zip_2 _ _) (fun obj => F.args_object_init_3 obj _ _) F.entry_zip_new (meets_zip_rg ra a2 g n t u v small) ⟨h1, h2, ?_⟩
  have e : Builtin.Range.rangeSize 0 (n : Int) 1 = n := by
    rw [rangeSize_one]
    split <;> omega
  have p1 : ∀ (h : Heap) (o : Obj) (m : Nat), h.objs.size = m → Obj.isFreed o = false → (h.push o).get? m = some o := fun h o m e f => by
    subst e
    exact Heap.get?_push_size _ f
  rw [e]
  refine ⟨⟨_, p1 _ _ _ (by simp only [Heap.size_push]) rfl, rfl⟩, h _ ?_ ?_ ?_ (p1 _ _ _ (by simp only [Heap.size_push]) rfl) fun c o q => Heap.get?_push_of_some _ (Heap.get?_push_of_some _ (Heap.get?_push_of_some _ (Heap.get?_push_of_some _ q)))⟩
  · exact Heap.get?_push_of_some _ (Heap.get?_push_of_some _ (Heap.get?_push_of_some _ (p1 _ _ _ rfl rfl)))
  · exact Heap.get?_push_of_some _ (Heap.get?_push_of_some _ (p1 _ _ _ (by simp only [Heap.size_push]) rfl))
  · exact Heap.get?_push_of_some _ (p1 _ _ _ (by simp only [Heap.size_push]) rfl)
end
/-! ### the first turn of the outer generator -/
theorem seg_for {M : Model} {A : Around} {R : GenEnd} {Y : Protocol} {n : Nat} {s₀ s : Shared} {c : Code} {fs : List Frame} {env : Env} {KK : Flow → Sem PySem.Fin} {J : Value → Sem PySem.Fin} {g : Bool → Bool} {lv : List Value → List Value} {target iter : Expr} {body : List Stmt} {pos : Pos}
    (hs : ∀ x, foldedSetIterable iter env x = pure x)
    (h : wpAny M (A.over c fs) (eval iter env) (fun x s1 => wpAny M (A.over c fs) (pyIter x) (fun it s2 => ∀ p, Seg M A R Y n s₀ (.forLoop target it body [] env) (M.den (.forLoop target it body [] env))
      (.ret (fun r => ((match r with | .ok f => (Sem.pure f : Sem Flow) | .error e => Sem.raise e).onRaise (cameBack env)).wrap KK J g lv) none (g false) (lv []) c p [] :: fs) s2) (fun x s' => Seg M A R Y n s₀ c (J x) fs s') s1) (fun x s' => Seg M A R Y n s₀ c (J x) fs s') s) :
    Seg M A R Y n s₀ c ((exec (.For target iter body [] pos) env).wrap KK J g lv) fs s := by
  show Seg M A R Y n s₀ c (.at pos fun _ => (eval iter env >>= fun v => foldedSetIterable iter env v >>= fun x => standAt iter.pos >>= fun _ => holding [x] (pyIter x) >>= fun it => runOwn (.forLoop target it body [] env) env).wrap KK J g lv) fs s
  refine seg_at (seg_bind_wrap (wpAny_mono h (fun x s1 h1 => ?_) fun _ _ q => q))
  rw [hs x]
  refine seg_bind_wrap (wpAny_pure (seg_bind_wrap (wpAny_standAt (seg_bind_wrap (wpAny_holding (wpAny_mono h1 (fun it s2 h2 => ?_) fun _ _ q => q))))))
  exact seg_call h2
section
variable {base : Heap} {K : PySem.W.Frag} {mg : Str → Option Value} {P : Program} {w : World} {outer : List Env} {L f : Addr} {cd : Value} {A1 : Around} {r v : Int} {N cnt : Nat} {g1 : Nat}
theorem Turn1.plain {L : Addr} {fs : List Addr} {h h' : Heap} {m : Str → Option Value} (hn : h.Ns L m) (low : ∀ b ∈ fs, b < L) (st : Stays L fs h h') : Turn1 L fs h h' :=
  ⟨fun b o l n e => st.keep b o e (Nat.ne_of_lt l) n, fun b o n e => st.slot b o e (Nat.ne_of_lt (low b n)) n, fun b o l e _ => st.keep b o e (Nat.ne_of_gt l) (fun q => absurd (Nat.lt_trans (low b q) l) (Nat.lt_irrefl _)), fun x p q e => st.pair (pair_noL hn e) e⟩
def cArgs : Expr → List Expr
  | .Call _ a _ _ => a
  | _ => []
def cPos : Expr → Pos × Pos
  | .Call (.Name _ p) _ _ q => (p, q)
  | _ => (⟨0, 0, 0, 0⟩, ⟨0, 0, 0, 0⟩)
abbrev rgF : Expr := (cArgs itF).getD 0 (.Name "" ⟨0, 0, 0, 0⟩)
abbrev efF : Expr := (cArgs itF).getD 1 (.Name "" ⟨0, 0, 0, 0⟩)
abbrev cnF : Expr := (cArgs rgF).getD 0 (.Name "" ⟨0, 0, 0, 0⟩)
abbrev rtF : Expr := (cArgs efF).getD 0 (.Name "" ⟨0, 0, 0, 0⟩)
theorem it_f : itF = .Call (.Name "zip" (cPos itF).1) [rgF, efF] [] (cPos itF).2 := rfl
theorem rg_f : rgF = .Call (.Name "range" (cPos rgF).1) [cnF] [] (cPos rgF).2 := rfl
theorem ef_f : efF = .Call (.Name "endless_fractions" (cPos efF).1) [rtF] [] (cPos efF).2 := rfl
/-- the zip is made: all that stood stays -/
theorem zip_made (T : Txt K mg) (M : Mod K mg base) {s : Shared} {TT : List (Addr × Int × Int)} {pins : List (Addr × Obj)} {H : Hp} {s1 : Shared} (hd : A1.depth + 1 < recursionLimit) (hc : cnt ≤ 1000)
    (I : Inv (gcx P w K mg base nmF (envF L f cd) A1 outer s TT) pins [some (.int r), some (.int cnt), none, none] H s1)
    {Q : Value → Shared → Prop} {E : Value → Shared → Prop}
    (q : ∀ (s2 : Shared) (i1 a2 L2 : Addr) (cd2 : Value), s1.heap.objs.size ≤ L2 → L2 < a2 → a2 < i1 → s2.os = s1.os → s2.gens = s1.gens.push (.fresh (.func (defBody s_endless_fractions) (envE L2 T.f_endless_fractions cd2))) → (∀ b o, s1.heap.get? b = some o → s2.heap.get? b = some o) → s2.heap.IsGen a2 s1.gens.size →
      LocIs (envE L2 T.f_endless_fractions cd2) nmE s2.heap [some (.int r), none, none, none, none, none, none] → IsRangeIter s2.heap i1 0 cnt 1 → IsPair s2.heap (i1 + 1) (.ref i1) (.ref a2) → IsPair s2.heap (i1 + 2) .none .none → IsZip s2.heap (i1 + 3) (i1 + 1) (i1 + 2) .none → Q (.ref (i1 + 3)) s2) :
    wpAny (model P w) (A1.deeper (envF L f cd)) (eval itF (envF L f cd)) Q E s1 := by
  rw [it_f]
  refine wpAny_Call_Name_kw (ld_blt I (by rfl) T.n_zip PyProof.Rows.boot_zip ?_ (by decide) (by decide))
  have hst : starEach [rgF, efF] (envF L f cd) = [(false, eval rgF (envF L f cd)), (false, eval efF (envF L f cd))] := by rfl
  refine PyProof.Rows.callWith_type1 ?_ hst rfl
  rw [hst]
  show wpAny _ _ (spliced [(false, eval rgF (envF L f cd)), (false, eval efF (envF L f cd))]) _ _ _
  refine Calls.spliced_cons ?_
  rw [rg_f]
  refine wpAny_Call_Name_kw (ld_blt I (by rfl) T.n_range PyProof.Rows.boot_range ?_ (by decide) (by decide))
  have hst1 : starEach [cnF] (envF L f cd) = [(false, eval cnF (envF L f cd))] := by rfl
  refine PyProof.Rows.callWith_type1 ?_ hst1 rfl
  rw [hst1]
  show wpAny _ _ (spliced [(false, eval cnF (envF L f cd))]) _ _ _
  obtain ⟨pc, ec⟩ : ∃ p, cnF = .Name "count" p := ⟨_, rfl⟩
  obtain ⟨pr, er⟩ : ∃ p, rtF = .Name "root" p := ⟨_, rfl⟩
  have G := genv_f L f cd
  obtain ⟨m, hn, look⟩ := I.loc
  have lk : ∀ (j : Nat) (x : Str) (v : V), nmF[j]? = some x → ([some (.int r), some (.int cnt), none, none] : L2.St)[j]? = some (some v) → (defScope s_fractions).names.lookup x = some .local → ∃ u, RelV v u ∧ m x = some u := fun j x v e1 e2 e3 => by
    obtain ⟨u, ru, z⟩ := look j x v e1 e2 (.inl e3)
    refine ⟨u, ru, ?_⟩
    rcases z with z | ⟨z, _⟩
    · exact z.2
    · rcases z with z | z
      · exact absurd rfl (G.loc x _ z).1
      · exact absurd rfl (G.loc x _ z).2
  have kc : (defScope s_fractions).names.lookup (Str.ofString "count") = some NameKind.local := by decide +kernel
  have kr : (defScope s_fractions).names.lookup (Str.ofString "root") = some NameKind.local := by decide +kernel
  obtain ⟨uc, rc, mc⟩ := lk 1 _ _ rfl rfl kc
  obtain ⟨ur, rr, mr⟩ := lk 0 _ _ rfl rfl kr
  obtain ⟨tu, rfl⟩ := rc
  have hn : s1.heap.Ns L m := hn
  refine Calls.spliced_cons ?_
  rw [ec]
  refine wpAny_Name (wpAny_loadName_local (env := envF L f cd) rfl kc hn mc (Calls.spliced_nil (call_range_1 ?_)))
  have I3 : Inv (gcx P w K mg base nmF (envF L f cd) A1 outer s TT) pins [some (.int r), some (.int cnt), none, none] H { s1 with heap := s1.heap.push { cls := .type "range", data := .fields #[.int 0 s1.toks, .int cnt tu, .int 1 (s1.toks + 1)] }, toks := s1.toks + 1 + 1 } := I.kept fun b o e => Heap.get?_push_of_some _ e
  have k3 : ∀ b o, s1.heap.get? b = some o → (s1.heap.push { cls := .type "range", data := .fields #[.int 0 s1.toks, .int cnt tu, .int 1 (s1.toks + 1)] }).get? b = some o := fun b o e => Heap.get?_push_of_some _ e
  have r3 : IsRange (s1.heap.push { cls := .type "range", data := .fields #[.int 0 s1.toks, .int cnt tu, .int 1 (s1.toks + 1)] }) s1.heap.objs.size 0 cnt 1 s1.toks tu (s1.toks + 1) := Heap.get?_push_size _ rfl
  have z3 : (s1.heap.push { cls := .type "range", data := .fields #[.int 0 s1.toks, .int cnt tu, .int 1 (s1.toks + 1)] }).objs.size = s1.heap.objs.size + 1 := Heap.size_push ..
  have hn3 := hn.keeps k3
  generalize s1.heap.push { cls := .type "range", data := .fields #[.int 0 s1.toks, .int cnt tu, .int 1 (s1.toks + 1)] } = h3 at I3 k3 r3 z3 hn3 ⊢
  refine Calls.spliced_cons ?_
  rw [ef_f]
  have hst2 : starEach [rtF] (envF L f cd) = (false, eval rtF (envF L f cd)) :: starEach [] (envF L f cd) := by rfl
  refine wpAny_Call_Name_kw (ld_glob I3 (by rfl) T.g_endless_fractions (PySem.W.callWith_K (h₀ := base) M.kin T.F_endless_fractions.kp ?_ hst2 rfl) (by decide))
  rw [hst2]
  show wpAny _ _ (spliced [(false, eval rtF (envF L f cd))]) _ _ _
  refine Calls.spliced_cons ?_
  rw [er]
  refine wpAny_Name (wpAny_loadName_local (env := envF L f cd) rfl kr hn3 mr (Calls.spliced_nil ⟨I3.kIn, ?_⟩))
  refine wpAny_call (gen_made (vs := [.int r]) T.F_endless_fractions sc_endless_fractions (by decide +kernel) (by show A1.depth + 1 < _; exact hd) I3.kIn I3.nolimit T.b_endless_fractions (.cons rr .nil) rfl fun cd2 a2 h4 t4 la ga k4 hl4 => ?_)
  refine Calls.spliced_nil ?_
  have la : h3.objs.size < a2 := la
  have lt4 : a2 < h4.objs.size := by
    obtain ⟨o, _, _, ho, _⟩ := ga
    exact Heap.lt_size ho
  refine call_zip_rg (s := { s1 with gens := _, heap := h4, toks := t4 }) (k4 _ _ r3) ga (by omega) fun h5 it TI TO zz k5 => ?_
  refine q { s1 with gens := _, heap := h5, toks := t4 } h4.objs.size a2 h3.objs.size cd2 (by omega) la lt4 rfl rfl (fun b o e => k5 b o (k4 b o (k3 b o e))) ?_ ?_ it TI TO zz
  · obtain ⟨o, nm, qn, ho, rest⟩ := ga
    exact ⟨o, nm, qn, k5 _ _ ho, rest⟩
  · obtain ⟨len, m', hm', lk'⟩ := hl4
    exact ⟨len, m', hm'.keeps k5, lk'⟩
theorem stays_there {m : Str → Option Value} {fs : List Addr} {h h' : Heap} (hn : h'.Ns L m) (st : Stays L fs h h') (b : Addr) (e : h'.get? b = none) : h.get? b = none := by
  cases q : h.get? b with
  | none => rfl
  | some o =>
    exfalso
    by_cases z : b = L
    · obtain ⟨o', _, _, ho, _⟩ := hn
      rw [← z, e] at ho
      cases ho
    · by_cases f : b ∈ fs
      · obtain ⟨sl, z2⟩ := st.slot b o q z f
        rw [e] at z2
        cases z2
      · rw [st.keep b o q z f] at e
        cases e
/-- woken for the first time: it tests, makes its zip, and walks it -/
theorem fresh_f (T : Txt K mg) (M : Mod K mg base) (hr : Room 7 (A1.deeper (envF L f cd))) (hd : A1.handled = none) (dep : A1.depth + 1 < recursionLimit) (fr : A1.frames = some outer) (r2 : 2 ≤ r) (r99 : r ≤ 99) (hw : isW r v) (small : cnt ≤ 1000)
    (s : Shared) (W : WakeOk K mg base (envF L f cd) outer [] s) (hl : LocIs (envF L f cd) nmF s.heap [some (.int r), some (.int cnt), none, none]) (hg : g1 < s.gens.size) :
    Seg (model P w) A1 (ROuter base outer L) (YOuter base outer L g1 (cfF r v) cnt) (cnt + 1) s (.func (defBody s_fractions) (envF L f cd)) ((model P w).den (.func (defBody s_fractions) (envF L f cd))) [] s := by
  have E := genv_f L f cd
  have I := awake (P := P) (w := w) (A := A1) E M hd fr W hl
  obtain ⟨_, m0, hn0, _⟩ := id hl
  have hn0 : s.heap.Ns L m0 := hn0
  have lt : L ≤ s.heap.objs.size := Nat.le_of_lt hn0.lt
  have hTT : ∀ p ∈ ([] : List (Addr × Int × Int)), PairIn s.heap p.1 p.2.1 p.2.2 := fun p hp => nomatch hp
  refine seg_func (seg_cons_at body_f (seg_wrap ?_))
  rw [GenW.over_func]
  refine wpAny_mono (GenW.wpAny_gsz (n := g1 + 1) hg (wpAny_mono ((show PS (gcx P w K mg base nmF (envF L f cd) A1 outer s []) (nthS (defBody s_fractions) 0) _ from (ps_if (pt_cmpR op_lt (pv 1) pe_int (nomark _)) (pss_one ps_dead) pss_nil)).run [] s _ _ { nx := fun σ' H' => σ' = [some (.int r), some (.int cnt), none, none] ∧ H' = wokenH L s.heap [], rt := fun _ _ => False } I ?_) (Q' := fun fl s1 => g1 + 1 ≤ s1.gens.size → fl = .next ∧ g1 + 1 ≤ s1.gens.size ∧ Inv (gcx P w K mg base nmF (envF L f cd) A1 outer s []) [] [some (.int r), some (.int cnt), none, none] (wokenH L s.heap []) s1) (fun fl s1 hs sz => ?_) fun _ _ z => z.elim)) ?_ fun _ _ z => z
  · exact ⟨_, rfl, _, _, rfl, rfl, _, rfl, ite2 (fun e => absurd (of_decide_eq_true e) (by omega)) (fun _ => ⟨rfl, rfl⟩)⟩
  · match fl, hs with
    | .ret _, h => obtain ⟨_, _, _, _, _, q⟩ := h; exact q.elim
    | .brk, h => obtain ⟨_, _, _, q⟩ := h; exact q.elim
    | .cont, h => obtain ⟨_, _, _, q⟩ := h; exact q.elim
    | .next, h =>
      obtain ⟨σ1, H1, I1, rfl, rfl⟩ := h
      exact ⟨rfl, sz, I1⟩
  rintro fl s1 ⟨rfl, gz, I1⟩
  have st1 := stays_of lt hTT I1 (fun _ _ e => e)
  obtain ⟨W1, hl1⟩ := after_run (T' := []) E W I1 (fun p hp => nomatch hp)
  obtain ⟨_, m1, hn1, _⟩ := id hl1
  have hn1 : s1.heap.Ns L m1 := hn1
  dsimp only
  refine seg_execs_cons (seg_for (by intro _; rfl) ?_)
  rw [GenW.over_func]
  refine zip_made T M dep small I1 fun s2 i1 a2 L2 cd2 l2 la li os2 g2 k2 ga hl2 it TI TO zz => wpAny_pyIter_zip zz fun p => ?_
  have lL : L < L2 := Nat.lt_of_lt_of_le hn1.lt l2
  have ll : L < i1 := Nat.lt_trans lL (Nat.lt_trans la li)
  have C : LoopC base outer L (i1 + 3) (i1 + 1) (i1 + 2) i1 a2 L2 := ⟨Nat.ne_of_lt (Nat.lt_succ_self _), Nat.lt_of_lt_of_le ll (Nat.le_add_right _ _), Nat.lt_of_lt_of_le ll (Nat.le_add_right _ _), Nat.lt_of_lt_of_le ll (Nat.le_add_right _ _), ll, Nat.lt_trans lL la, lL, W.low, W.bz⟩
  have gs : s2.gens[s1.gens.size]? = some (.fresh (.func (defBody s_endless_fractions) (envE L2 T.f_endless_fractions cd2))) := by
    rw [g2]
    exact Array.getElem?_push_size ..
  have bare2 : AllBare s2.gens := by
    rw [g2]
    exact AllBare.push W1.bare rfl
  have fu2 : s2.heap.FunFrames base outer := funs_old W.low (fun b o _ e => ⟨o.slots, k2 b o e⟩) W1.funs
  have S : LoopSt P w base outer L f cd (around2 A1 L f cd) r v cnt cnt (i1 + 3) (i1 + 1) (i1 + 2) i1 a2 s1.gens.size L2 0 s2 := by
    refine ⟨bare2, fun b o e => k2 b o (W1.bs b o e), fu2, zz, TI, ⟨_, _, TO, fun k t q => by cases q⟩, by simpa using it, ga, ⟨m1, hn1.keeps k2⟩, (let ⟨_, m, h, _⟩ := hl2; ⟨m, h⟩), _, gs, rfl, fun s' B => ⟨rfl, ?_⟩⟩
    refine fresh_e (A := around2 A1 L f cd) (outer := envF L f cd :: outer) T M ?_ hd (Around.frames_deeper fr) r2 r99 hw small s' ⟨B.bare, B.bs, ?_, B.funs, fun b hb => ?_, fun p hp => nomatch hp⟩ ?_
    · exact (show Room 6 (A1.deeper (envF L f cd)).in1 from Room.in1 hr).in1.deeper _
    · exact Nat.le_trans W.bz (Nat.le_of_lt lL)
    · have cons : frs (envF L f cd :: outer) = L :: frs outer := rfl
      rw [cons] at hb
      rcases List.mem_cons.mp hb with q | q
      · rw [q]
        exact lL
      · exact Nat.lt_trans (W.low b q) lL
    · obtain ⟨len, m, hm, look⟩ := hl2
      exact ⟨len, m, hm.at' fun o e => B.frame o e, look⟩
  refine loop_f M C hd dep (Nat.le_refl _) ((GenW.over_loop rfl rfl).trans GenW.over_func) rfl rfl (by omega) ?_ cnt 0 (Nat.zero_add _) s s2 S (os2.trans I1.os) ?_ ?_
  · intro s₀ s' os b bs fu t
    show Seg _ _ _ _ 1 s₀ _ (.pure (.done .next)) _ s'
    exact seg_leaf (.ok .next) (seg_end (.ok (.ret .none)) (.inl ⟨.inl rfl, rfl, os, b, bs, fu, t⟩))
  · refine (Turn1.plain hn0 W.low st1).trans ⟨fun b o _ _ e => k2 b o e, fun b o _ e => ⟨o.slots, k2 b o e⟩, fun b o _ e _ => k2 b o e, fun x p q e => ?_⟩
    obtain ⟨its, rv, o, ho, hrest⟩ := e
    exact ⟨its, rv, o, k2 x o ho, hrest⟩
  · intro b e
    refine stays_there hn1 st1 b ?_
    cases q : s1.heap.get? b with
    | none => rfl
    | some o =>
      rw [k2 b o q] at e
      cases e
end
/-! ### list(fractions(root, count)) -/
/-- what a walk through the generator leaves as it was, all in all -/
structure Turn0 (L : Addr) (fs : List Addr) (h h' : Heap) : Prop where
  old : ∀ b o, b < L → b ∉ fs → h.get? b = some o → h'.get? b = some o
  oldF : ∀ b o, b ∈ fs → h.get? b = some o → ∃ sl, h'.get? b = some { o with slots := sl }
  pairs : ∀ x p q, PairIn h x p q → PairIn h' x p q
theorem Turn1.less {L : Addr} {fs : List Addr} {h h' : Heap} (t : Turn1 L fs h h') : Turn0 L fs h h' := ⟨t.old, t.oldF, t.pairs⟩
theorem Turn0.trans {L : Addr} {fs : List Addr} {h h1 h2 : Heap} (a : Turn0 L fs h h1) (b : Turn0 L fs h1 h2) : Turn0 L fs h h2 :=
  ⟨fun x o l n e => b.old x o l n (a.old x o l n e), fun x o f e => by
    obtain ⟨sl, e1⟩ := a.oldF x o f e
    obtain ⟨sl', e2⟩ := b.oldF x _ f e1
    exact ⟨sl', e2⟩, fun x p q e => b.pairs x p q (a.pairs x p q e)⟩
section
variable {base : Heap} {K : PySem.W.Frag} {mg : Str → Option Value} {P : Program} {w : World} {outer : List Env} {L : Addr} {r v : Int} {cnt : Nat} {g1 : Nat}
/-- pairs, one after the other, are those of F -/
def PairsOf (h : Heap) (F : Nat → Int × Int) (xs : List Addr) : Prop := ∀ i x, xs[i]? = some x → PairIn h x (F i).1 (F i).2
theorem PairsOf.more {h h' : Heap} {F : Nat → Int × Int} {xs : List Addr} (p : PairsOf h F xs) (k : ∀ x p q, PairIn h x p q → PairIn h' x p q) : PairsOf h' F xs := fun i x e => k _ _ _ (p i x e)
theorem PairsOf.snoc {h : Heap} {F : Nat → Int × Int} {xs : List Addr} {x : Addr} (p : PairsOf h F xs) (e : PairIn h x (F xs.length).1 (F xs.length).2) : PairsOf h F (xs ++ [x]) := fun i y q => by
  rw [List.getElem?_append] at q
  split at q
  · exact p i y q
  · rename_i z
    have : i - xs.length = 0 := by
      cases k : i - xs.length with
      | zero => rfl
      | succ k' => rw [k] at q; cases q
    rw [this] at q
    cases q
    rw [show i = xs.length by omega]
    exact e
/-- the list at S while it is filled -/
abbrev lstR (xs : List Addr) (c : Nat) : Obj := lstObj (xs.map Value.ref).toArray c
/-- the generator at a is drained into the list at S -/
theorem drain_f (M : Mod K mg base) {A : Around} {S a : Addr} {res : Value} {R : Result → Shared → Prop} (hh : A.handled = none) (dep : A.depth < recursionLimit) (low : ∀ b ∈ frs outer, b < L) (bz : base.objs.size ≤ L) (lS : L < S) (la : L < a) (small : cnt ≤ 1000) {h0 : Heap} {os0 : OsState}
    (fin : ∀ s' xs c, s'.heap.get? S = some (lstR xs c) → xs.length = cnt → PairsOf s'.heap (cfF r v) xs → (∀ x ∈ xs, x < L → h0.get? x = none) → s'.os = os0 → AllBare s'.gens → Turn0 L (frs outer) h0 s'.heap → R (.ok (.ret res)) s') :
    ∀ (j i : Nat), i + j = cnt → ∀ (s : Shared) (xs : List Addr) (c : Nat), xs.length = i → s.heap.get? S = some (lstR xs c) → PairsOf s.heap (cfF r v) xs → (∀ x ∈ xs, x < L → h0.get? x = none) → s.os = os0 → Turn0 L (frs outer) h0 s.heap → s.heap.IsGen a g1 → (∀ b o, base.get? b = some o → s.heap.get? b = some o) → s.heap.FunFrames base outer →
      (∃ gs, s.gens[g1]? = some gs ∧ gs.Goes (model P w) A.in1.in1 (ROuter base outer L) (YOuter base outer L g1 (cfF r v) cnt) (j + 1) (.send .none) (s.setGen g1 .running)) →
      codeAny (model P w) A (.builtin "list.extend.loop" ⟨[.ref S, .ref a, res], []⟩) R s := by
  have steady : ∀ xs c, Steady (lstR xs c) := fun xs c => ⟨fun es ep q => (by cases q), by simp [lstR, lstObj], by simp [lstR, lstObj], by simp [lstR, lstObj]⟩
  have gen : ∀ {h h' : Heap}, Turn1 L (frs outer) h h' → h.IsGen a g1 → h'.IsGen a g1 := fun {h h'} t1 hg => by
    obtain ⟨o, nm, qn, ho, hc, hd, hs⟩ := hg
    exact ⟨o, nm, qn, t1.same a o la ho ⟨fun es ep q => (by rw [hd] at q; cases q), by rw [hc]; simp, by rw [hc]; simp, by rw [hc]; simp⟩, hc, hd, hs⟩
  intro j
  induction j with
  | zero =>
    intro i hi s xs c hx hS hp nw os t hg bs fu ⟨gs, hgs, go⟩
    refine codeAny_builtin F.entry_extend_loop ?_
    rw [Around.under_plainId F.plain_extend_loop _]
    show wpAny _ A.in1 (pyNext (.ref a) >>= _) _ _ s
    refine wpAny_bind (next_genG (A := A.in1) hh (M.nolimit.keeps bs) dep hg hgs go (fun u s1 gs' hb hv => ?_) (fun s1 hp1 h' hk => ?_) fun e s1 he => he.elim)
    · exact absurd hv.1 (Nat.lt_irrefl _)
    · obtain ⟨_, os1, b1, _, _, t1⟩ := hp1
      have t1 : Turn1 L (frs outer) s.heap s1.heap := t1
      have tk : Turn1 L (frs outer) s1.heap h' := ⟨fun b o _ _ e => hk b o e, fun b o _ e => ⟨o.slots, hk b o e⟩, fun b o _ e _ => hk b o e, fun x p q e => by
        obtain ⟨its, rv, o, ho, hrest⟩ := e
        exact ⟨its, rv, o, hk x o ho, hrest⟩⟩
      have t2 := t1.trans tk
      exact wpAny_pure (fin _ xs c (t2.same S _ lS hS (steady xs c)) (by omega) (hp.more t2.pairs) nw (os1.trans os) (allBare_setGen (s := s1) b1 rfl) (t.trans t2.less))
  | succ j ih =>
    intro i hi s xs c hx hS hp nw os t hg bs fu ⟨gs, hgs, go⟩
    have hgl : g1 < s.gens.size := (Array.getElem?_eq_some_iff.mp hgs).1
    refine codeAny_builtin F.entry_extend_loop ?_
    rw [Around.under_plainId F.plain_extend_loop _]
    show wpAny _ A.in1 (pyNext (.ref a) >>= _) _ _ s
    refine wpAny_bind (GenW.wpAny_gsz (n := g1 + 1) hgl (next_genG (A := A.in1) hh (M.nolimit.keeps bs) dep hg hgs go (fun u s1 gs' hb hv => ?_) (fun s1 hp1 h' hk => ?_) fun e s1 he => he.elim))
    · intro hsz
      obtain ⟨_, os1, b1, bs1, fu1, t1, ⟨x, rfl, xn, xp⟩, nxt⟩ := hv
      have t1 : Turn1 L (frs outer) s.heap s1.heap := t1
      have hS1 : s1.heap.get? S = some (lstR xs c) := t1.same S _ lS hS (steady xs c)
      show wpAny _ A.in1 (updateSeq S (·.push (.ref x)) >>= _) _ _ _
      refine wpAny_bind (wpAny_updateSeq hS1 rfl (wpAny_pure ⟨plainId_quiet F.plain_extend_loop _, ?_⟩) ?_ ?_)
      · have oth : ∀ b o, b ≠ S → s1.heap.get? b = some o → (s1.heap.update S (Obj.mapSeq (·.push (.ref x)))).get? b = some o := fun b o n e => (Heap.get?_update_other _ _ (Ne.symm n)).trans e
        have nS : ∀ {b : Addr}, b ≤ L → b ≠ S := fun {b} l e => by
          rw [e] at l
          exact absurd (Nat.lt_of_lt_of_le lS l) (Nat.lt_irrefl _)
        have pS : ∀ y p q, PairIn s1.heap y p q → y ≠ S := fun y p q e z => by
          rw [z] at e
          exact no_pair_cls hS1 (by simp [lstR, lstObj]) p q e
        have prs : ∀ y p q, PairIn s1.heap y p q → PairIn (s1.heap.update S (Obj.mapSeq (·.push (.ref x)))) y p q := fun y p q e => by
          have n := pS y p q e
          obtain ⟨its, rv, o, ho, hrest⟩ := e
          exact ⟨its, rv, o, oth y o n ho, hrest⟩
        have gsz : g1 < s1.gens.size := by
          have q : (s1.setGen g1 gs').gens.size = s1.gens.size := GenW.setGen_size _ _ _
          have hsz' : g1 + 1 ≤ (s1.setGen g1 gs').gens.size := hsz
          omega
        have bsl : ∀ b o, base.get? b = some o → b ≤ L := fun b o e => Nat.le_of_lt (Nat.lt_of_lt_of_le (Heap.lt_size e) bz)
        have fu2 : (s1.heap.update S (Obj.mapSeq (·.push (.ref x)))).FunFrames base outer := funs_old low (fun b o hb e => ⟨o.slots, oth b o (nS (Nat.le_of_lt (low b hb))) e⟩) fu1
        have bs2 : ∀ b o, base.get? b = some o → (s1.heap.update S (Obj.mapSeq (·.push (.ref x)))).get? b = some o := fun b o e => oth b o (nS (bsl b o e)) (bs1 b o e)
        have tS : Turn0 L (frs outer) h0 (s1.heap.update S (Obj.mapSeq (·.push (.ref x)))) := by
          have t2 := t.trans t1.less
          refine ⟨fun b o l n e => oth b o (nS (Nat.le_of_lt l)) (t2.old b o l n e), fun b o hb e => ?_, fun y p q e => prs y p q (t2.pairs y p q e)⟩
          obtain ⟨sl, z⟩ := t2.oldF b o hb e
          exact ⟨sl, oth b _ (nS (Nat.le_of_lt (low b hb))) z⟩
        obtain ⟨c', hS2⟩ : ∃ c', (s1.heap.update S (Obj.mapSeq (·.push (.ref x)))).get? S = some (lstR (xs ++ [x]) c') := by
          have e1 := Heap.get?_update_self (Obj.mapSeq (·.push (.ref x))) hS1 rfl
          have e2 : ∃ c', Obj.mapSeq (·.push (.ref x)) (lstR xs c) = lstR (xs ++ [x]) c' := by
            have e3 : ((xs.map Value.ref).toArray.push (.ref x)) = ((xs ++ [x]).map Value.ref).toArray := by simp
            unfold lstR lstObj
            rw [← e3]
            exact ⟨_, rfl⟩
          obtain ⟨c', e2⟩ := e2
          exact ⟨c', by rw [e1, e2]⟩
        refine ih (i + 1) (by omega) { s1.setGen g1 gs' with heap := s1.heap.update S (Obj.mapSeq (·.push (.ref x))) } (xs ++ [x]) c' (by rw [List.length_append, hx]; rfl) hS2 ?_ (fun y hy ly => ?_) (os1.trans os) tS ?_ bs2 fu2 ⟨gs', setGen_at gsz, ?_⟩
        · refine ((hp.more t1.pairs).more prs).snoc (prs _ _ _ ?_)
          rw [hx, show i = cnt - (j + 1 + 1 - 1) by omega]
          exact xp
        · rcases List.mem_append.mp hy with q | q
          · exact nw y q ly
          · rw [List.mem_singleton.mp q] at ly ⊢
            cases e : h0.get? x with
            | none => rfl
            | some o =>
              exfalso
              have xn : s.heap.get? x = none := xn
              by_cases f : x ∈ frs outer
              · obtain ⟨sl, z⟩ := t.oldF x o f e
                rw [xn] at z
                cases z
              · have z := t.old x o ly f e
                rw [xn] at z
                cases z
        · obtain ⟨o, nm, qn, ho, hc, hd, hs⟩ := gen t1 hg
          exact ⟨o, nm, qn, oth a o (fun z => by rw [z, hS1] at ho; cases ho; simp [lstR, lstObj] at hc) ho, hc, hd, hs⟩
        · refine nxt _ ⟨allBare_setGen (s := s1.setGen g1 gs') (allBare_setGen (s := s1) b1 hb) rfl, fun g n l => ?_, fun b o l e hne => oth b o (fun z => ?_) e, prs, bs2, fu2⟩
          · show ((s1.gens.setIfInBounds g1 gs').setIfInBounds g1 .running)[g]? = s1.gens[g]?
            rw [Array.getElem?_setIfInBounds_ne (Ne.symm n), Array.getElem?_setIfInBounds_ne (Ne.symm n)]
          · rw [z, hS1] at e
            cases e
            exact hne _ _ rfl rfl
      · show (xs.map Value.ref).toArray.size ≤ sizeLine
        rw [List.size_toArray, List.length_map]
        exact Nat.le_of_lt (small1000 (by omega))
      · show ((xs.map Value.ref).toArray.push (.ref x)).size ≤ sizeLine + 1
        rw [Array.size_push, List.size_toArray, List.length_map]
        have := small1000 (show xs.length ≤ 1000 by omega)
        omega
    · intro hsz
      have := hp1.1
      omega
end
section
variable {base : Heap} {K : PySem.W.Frag} {mg : Str → Option Value} {P : Program} {w : World} {outer : List Env} {L f : Addr} {cd : Value} {r v : Int} {cnt : Nat} {g1 : Nat} {A : Around} {E : Value → Shared → Prop} {s : Shared}
theorem Turn0.kept {L : Addr} {fs : List Addr} {h h' : Heap} (k : ∀ b o, h.get? b = some o → h'.get? b = some o) : Turn0 L fs h h' := ⟨fun b o _ _ e => k b o e, fun b o _ e => ⟨o.slots, k b o e⟩, fun x p q e => by
  obtain ⟨its, rv, o, ho, hrest⟩ := e
  exact ⟨its, rv, o, k x o ho, hrest⟩⟩
/-- list(g) of such a generator -/
theorem call_list_f (T : Txt K mg) (M : Mod K mg base) (hr : Room 11 A) (fr : A.frames = some outer) {a : Addr} (r2 : 2 ≤ r) (r99 : r ≤ 99) (hw : isW r v) (small : cnt ≤ 1000) (la : L < a) (hg : s.heap.IsGen a g1) (hgs : s.gens[g1]? = some (.fresh (.func (defBody s_fractions) (envF L f cd))))
    (W : WakeOk K mg base (envF L f cd) outer [] s) (hl : LocIs (envF L f cd) nmF s.heap [some (.int r), some (.int cnt), none, none]) {Q : Value → Shared → Prop}
    (q : ∀ S xs c s', S = s.heap.objs.size → s'.heap.get? S = some (lstR xs c) → xs.length = cnt → PairsOf s'.heap (cfF r v) xs → (∀ x ∈ xs, x < L → s.heap.get? x = none) → s'.os = s.os → AllBare s'.gens → Turn0 L (frs outer) s.heap s'.heap → Q (.ref S) s') :
    wpAny (model P w) A (call (.type "list") [.ref a]) Q E s := by
  obtain ⟨_, mL, hnL, _⟩ := id hl
  have hnL : s.heap.Ns L mL := hnL
  have al : a < s.heap.objs.size := by
    obtain ⟨o, _, _, ho, _⟩ := hg
    exact Heap.lt_size ho
  refine callType_codes (Q₁ := fun obj s1 => obj = .ref s.heap.objs.size ∧ s1 = { s with heap := s.heap.push { cls := .type "list", data := .seq #[] } }) F.called_list (F.typeCall_list_1 _) F.entry_list_init (code_list_new _ ⟨rfl, rfl⟩) fun obj s1 h1 => ?_
  obtain ⟨rfl, rfl⟩ := h1
  have hS : (s.heap.push { cls := .type "list", data := .seq #[] }).get? s.heap.objs.size = some { cls := .type "list", data := .seq #[] } := Heap.get?_push_size _ rfl
  have k1 : ∀ b o, s.heap.get? b = some o → (s.heap.push { cls := .type "list", data := .seq #[] }).get? b = some o := fun b o e => Heap.get?_push_of_some _ e
  refine ⟨⟨_, hS, rfl⟩, F.args_list_init_2 _ _, ?_⟩
  generalize hSS : s.heap.objs.size = S at hS
  have ne : ∀ {b : Addr} {o : Obj}, s.heap.get? b = some o → b ≠ S := fun {b o} e => by
    rw [← hSS]
    exact Nat.ne_of_lt (Heap.lt_size e)
  have up : ∀ {h : Heap} (g : Obj → Obj), (∀ b o, s.heap.get? b = some o → h.get? b = some o) → ∀ b o, s.heap.get? b = some o → (h.update S g).get? b = some o := fun {h} g k b o e => (Heap.get?_update_other _ _ (Ne.symm (ne e))).trans (k b o e)
  have ty : ∀ {h : Heap}, (∀ b o, s.heap.get? b = some o → h.get? b = some o) → h.IsGen a g1 := fun {h} k => hg.keeps k
  generalize s.heap.push { cls := .type "list", data := .seq #[] } = h1 at hS k1
  show wpAny (model P w) A.in1.in1 (do let old ← Builtin.List.listItems (.ref S); Builtin.List.listUpdate (.ref S) (fun _ => #[]); letGo old.toList.reverse; Builtin.List.listExtendWith (.ref S) (.ref a) .none) _ _ { s with heap := h1 }
  refine wpAny_bind ?_
  unfold Builtin.List.listItems
  refine wpAny_bind (wpAny_seqItems (s := { s with heap := h1 }) hS rfl (wpAny_pure ?_))
  show wpAny (model P w) A.in1.in1 (updateSeq S (fun _ => #[]) >>= fun _ => letGo (#[] : Array Value).toList.reverse >>= fun _ => Builtin.List.listExtendWith (.ref S) (.ref a) .none) _ _ { s with heap := h1 }
  refine wpAny_bind (wpAny_updateSeq (s := { s with heap := h1 }) hS rfl ?_)
  have S2 := Heap.get?_update_self (Obj.mapSeq (fun _ => (#[] : Array Value))) hS rfl
  have k2 := up (Obj.mapSeq (fun _ => (#[] : Array Value))) k1
  generalize h1.update S (Obj.mapSeq (fun _ => (#[] : Array Value))) = h2 at S2 k2
  refine wpAny_bind (wpAny_letGo ?_)
  unfold Builtin.List.listExtendWith
  refine wpAny_bind (wpAny_typeOf (Heap.IsGen.typeIs (s := { s with heap := h2 }) (ty k2)) ?_)
  have aS : S ≠ a := fun e => by
    rw [← hSS] at e
    rw [e] at al
    exact Nat.lt_irrefl _ al
  simp only [show Builtin.List.listSameRef (.ref S) (.ref a) = false by simp [Builtin.List.listSameRef, aS], show (Value.type "generator" == Value.type "list") = false by decide, show (Value.type "generator" == Value.type "tuple") = false by decide, Bool.or_false, Bool.false_eq_true, if_false]
  refine wpAny_bind (wpAny_pyIter_gen (s := { s with heap := h2 }) (ty k2) (wpAny_bind (wpAny_holding ?_)))
  unfold Builtin.List.listLengthHint
  refine wpAny_bind (wpAny_specialOf (Heap.IsGen.typeIs (s := { s with heap := h2 }) (ty k2)) F.gen_no_len ?_)
  show wpAny (model P w) A.in1.in1 (specialOf (Value.ref a) (Str.ofString "__length_hint__") >>= _) _ _ _
  refine wpAny_bind (wpAny_specialOf (Heap.IsGen.typeIs (s := { s with heap := h2 }) (ty k2)) F.gen_no_hint (wpAny_pure ?_))
  show wpAny (model P w) A.in1.in1 (rule "list.extend.makes-room" >>= fun _ => Builtin.List.listTouch (.ref S) >>= fun _ => again (.builtin "list.extend.loop" ⟨[.ref S, .ref a, .none], []⟩)) _ _ _
  refine wpAny_bind (wpAny_rule (wpAny_bind ?_))
  show wpAny (model P w) A.in1.in1 (updateSeq S (·.push .none) >>= fun _ => updateSeq S (·.pop)) _ _ { s with heap := h2 }
  refine wpAny_bind (wpAny_updateSeq (s := { s with heap := h2 }) S2 rfl ?_)
  have S3 := Heap.get?_update_self (Obj.mapSeq (·.push Value.none)) S2 rfl
  have k3 := up (Obj.mapSeq (·.push Value.none)) k2
  refine wpAny_updateSeq (s := { s with heap := h2.update S (Obj.mapSeq (·.push Value.none)) }) (hz := by seq_fits) S3 rfl ?_
  have S4 := Heap.get?_update_self (Obj.mapSeq (·.pop)) S3 rfl
  have k4 := up (Obj.mapSeq (·.pop)) k3
  obtain ⟨c4, S4⟩ : ∃ c, ((h2.update S (Obj.mapSeq (·.push Value.none))).update S (Obj.mapSeq (·.pop))).get? S = some (lstR [] c) := ⟨_, S4⟩
  generalize (h2.update S (Obj.mapSeq (·.push Value.none))).update S (Obj.mapSeq (·.pop)) = h4 at S4 k4
  refine wpAny_pure ⟨plainId_quiet F.plain_extend_loop _, ?_⟩
  have lS : L < S := by
    rw [← hSS]
    exact hnL.lt
  have fu4 : h4.FunFrames base outer := funs_old W.low (fun b o _ e => ⟨o.slots, k4 b o e⟩) W.funs
  have bare4 : AllBare (({ s with heap := h4 } : Shared).setGen g1 .running).gens := allBare_setGen (s := { s with heap := h4 }) W.bare rfl
  refine drain_f (A := A.in1) (h0 := h4) (os0 := s.os) M hr.hd (by have := hr.dp; show A.depth < _; omega) W.low W.bz lS la small (fun s' xs c q1 q2 q3 q4 q5 q6 q7 => ⟨rfl, q S xs c s' hSS.symm q1 q2 q3 (fun x hx lx => ?_) q5 q6 ((Turn0.kept k4).trans q7)⟩) cnt 0 (Nat.zero_add _) { s with heap := h4 } [] c4 rfl S4 (fun i x e => by simp at e) (fun x hx => nomatch hx) rfl (Turn0.kept fun _ _ e => e) (ty k4) (fun b o e => k4 b o (W.bs b o e)) fu4 ⟨_, hgs, rfl, ?_⟩
  · cases e : s.heap.get? x with
    | none => rfl
    | some o =>
      have z := q4 x hx lx
      rw [k4 x o e] at z
      cases z
  · refine fresh_f (A1 := A.in1.in1.in1) (outer := outer) T M ?_ hr.hd (by have := hr.dp; show A.depth + 1 < _; omega) fr r2 r99 hw small _ ⟨bare4, fun b o e => k4 b o (W.bs b o e), W.bz, fu4, W.low, fun p hp => nomatch hp⟩ ?_ ?_
    · exact ((show Room 10 A.in1 from Room.in1 hr).in1).in1.deeper _
    · obtain ⟨len, m, hm, look⟩ := hl
      exact ⟨len, m, hm.keeps k4, look⟩
    · show g1 < (s.gens.setIfInBounds g1 .running).size
      rw [Array.size_setIfInBounds]
      exact (Array.getElem?_eq_some_iff.mp hgs).1
end
/-! ### the rule for list(fractions(root, count)) -/
/-- the pairs F 0, F 1, .. at xs, in a heap -/
def Rows (H : Hp) (F : Nat → Int × Int) (xs : List Addr) : Prop := ∀ (i : Nat) (x : Addr), xs[i]? = some x → H x = some (.tup [.int (F i).1, .int (F i).2])
def tListF (r0 : Nat) (ta : TA) : TE := fun σ H Q => ta σ H fun vs H1 => ∃ (r v : Int) (cnt : Nat), vs = [.int r, .int cnt] ∧ 2 ≤ r ∧ r ≤ 99 ∧ isW r v ∧ cnt ≤ 1000 ∧
  ∀ (S : Addr) (xs : List Addr) (H' : Hp), H1 S = none → Same H1 H' → H' S = some (.lst (xs.map V.ref)) → xs.length = cnt → Rows H' (cfF r v) xs → Q (.ref S) H'
section
variable {X : Cx}
def filled (H : Hp) (S : Addr) (xs : List Addr) (F : Nat → Int × Int) : Hp := fun b => if b = S then some (.lst (xs.map V.ref)) else match xs.idxOf? b with
  | some i => some (.tup [.int (F i).1, .int (F i).2])
  | none => H b
theorem idx_some {xs : List Addr} {b : Addr} {i : Nat} (h : xs.idxOf? b = some i) : xs[i]? = some b := by
  obtain ⟨l, e, _⟩ := List.idxOf?_eq_some_iff.mp h
  rw [List.getElem?_eq_getElem l]
  simpa using e
theorem idx_none {xs : List Addr} {b : Addr} (h : xs.idxOf? b = none) : b ∉ xs := by
  simpa using h
theorem objok_there {P : Program} {w : World} {H : Hp} {h : Heap} {a : Addr} {o : HO} (x : ObjOk P w H h a o) : ∃ ob, h.get? a = some ob := by
  cases o with
  | lst xs => obtain ⟨_, _, _, _, e⟩ := x; exact ⟨_, e⟩
  | tup xs => obtain ⟨_, _, _, o, e, _⟩ := x; exact ⟨_, e⟩
  | dK kvs => obtain ⟨_, _, _, _, o, _, _, e, _⟩ := x; exact ⟨_, e⟩
  | dT kvs => obtain ⟨_, _, _, _, o, _, _, e, _⟩ := x; exact ⟨_, e⟩
  | set S n => obtain ⟨o, _, _, _, e, _⟩ := x; exact ⟨_, e⟩
  | ins C dx fs => obtain ⟨_, _, _, e, _⟩ := x; exact ⟨_, e⟩
  | own y => exact x
  | xd fs => obtain ⟨_, ⟨_, _, _, e, _⟩, _⟩ := x; exact ⟨_, e⟩
  | rng lo hi => obtain ⟨_, _, _, e⟩ := x; exact ⟨_, e⟩
  | frz ob u => exact ⟨_, x.1⟩
  | tbl ps => exact ⟨_, x⟩
  | met f y => exact ⟨_, x⟩
  | ext φ => exact x.2.1
theorem pe_listF {P : Program} {w : World} {K : PySem.W.Frag} {mg : Str → Option Value} {base : Heap} (T : Txt K mg) (hP : X.prog = P) (hw : X.w = w) (hK : X.K = K) (hm : X.mg = mg) (hB : X.base = base) {pl pf pos pos' : Pos} {e1 e2 : Expr} {ta : TA} (hr : Room 11 X.A) (gl : Gl X "list") (gf : Gl X "fractions") (nl : mg "list" = none) (ha : PA X [e1, e2] ta)
    (hst : starEach [e1, e2] X.env = (false, eval e1 X.env) :: starEach [e2] X.env := by rfl) (hpl : (backTo pos' (starEach [e2] X.env)).any (·.1) = false := by rfl)
    (hs1 : starEach [.Call (.Name "fractions" pf) [e1, e2] [] pos'] X.env = (false, eval (.Call (.Name "fractions" pf) [e1, e2] [] pos') X.env) :: starEach [] X.env := by rfl) :
    PE X (.Call (.Name "list" pl) [.Call (.Name "fractions" pf) [e1, e2] [] pos'] [] pos) (tListF 0 ta) := by
  subst hP hw hK hm hB
  refine ⟨fun pins s σ H Q I hq => ?_⟩
  refine wpAny_Call_Name_kw (ld_blt I gl nl (by decide +kernel : bootBuiltins "list" = some (.type "list")) (PyProof.Rows.callWith_type1 ?_ hs1 rfl) (by decide) (by decide))
  rw [hs1]
  show wpAny _ _ (spliced [(false, eval (.Call (.Name "fractions" pf) [e1, e2] [] pos') X.env)]) _ _ s
  refine Calls.spliced_cons (wpAny_Call_Name_kw (ld_glob I gf T.g_fractions (PySem.W.callWith_K (h₀ := X.base) I.ok.mod.kin T.F_fractions.kp (thn (ha.run pos' pins s σ H _ I hq) fun us s1 ⟨vs, H1, I1, rv, q⟩ => ⟨I1.kIn, ?_⟩) hst hpl) (by decide)))
  obtain ⟨r, v, cnt, rfl, r2, r99, hw, small, q⟩ := q
  refine wpAny_call (gen_made (vs := [.int r, .int cnt]) T.F_fractions sc_fractions (by decide +kernel) (by have := hr.dp; omega) I1.kIn I1.nolimit T.b_fractions rv rfl fun cd a h' tk la ga k hl => ?_)
  refine Calls.spliced_nil ?_
  have low : ∀ b ∈ frs X.stack, b < s1.heap.objs.size := fun b hb => by
    obtain ⟨_, o, ho, _⟩ := I1.stack.mem hb
    exact Heap.lt_size ho
  have W : WakeOk X.K X.mg X.base (envF s1.heap.objs.size T.f_fractions cd) X.stack [] { s1 with gens := s1.gens.push (.fresh (.func (defBody s_fractions) (envF s1.heap.objs.size T.f_fractions cd))), heap := h', toks := tk } :=
    ⟨AllBare.push I1.bare rfl, fun b o e => k b o (I1.bk b o e), Nat.le_trans I1.ok.bsz I1.sz, funs_old low (fun b o _ e => ⟨o.slots, k b o e⟩) I1.stack, low, fun p hp => nomatch hp⟩
  refine call_list_f (g1 := s1.gens.size) T I1.ok.mod hr I1.ok.frames r2 r99 hw small la ga (Array.getElem?_push_size ..) W hl fun S xs c s' hS eS lx px nx os bare t0 => ?_
  have szl : s1.heap.objs.size ≤ h'.objs.size := by
    obtain ⟨o, _, _, ho, _⟩ := ga
    exact Nat.le_of_lt (Nat.lt_trans la (Heap.lt_size ho))
  have fS : H1 S = none := I1.hok.fresh (by rw [hS]; exact szl)
  have fx : ∀ x ∈ xs, H1 x = none := fun x hx => by
    cases e : H1 x with
    | none => rfl
    | some u =>
      exfalso
      have ok := I1.hok x u e
      obtain ⟨o, ho⟩ := objok_there ok
      have z := nx x hx ok.lt
      have z : h'.get? x = none := z
      rw [k x o ho] at z
      cases z
  have nSx : S ∉ xs := fun hm => by
    obtain ⟨i, hi, ei⟩ := List.mem_iff_getElem.mp hm
    have p := px i S (by rw [List.getElem?_eq_getElem hi, ei])
    exact no_pair_cls eS (by simp [lstR, lstObj]) _ _ p
  have same : Same H1 (filled H1 S xs (cfF r v)) := fun b u e => by
    unfold filled
    rw [if_neg (fun z => by rw [z, fS] at e; cases e)]
    cases q2 : xs.idxOf? b with
    | none => exact e
    | some i =>
      exfalso
      have hm := List.mem_of_getElem? (idx_some q2)
      rw [fx b hm] at e
      cases e
  have atS : filled H1 S xs (cfF r v) S = some (.lst (xs.map V.ref)) := if_pos rfl
  have atX : Rows (filled H1 S xs (cfF r v)) (cfF r v) xs := fun i x e => by
    have hm := List.mem_of_getElem? e
    unfold filled
    rw [if_neg (fun (z : x = S) => nSx (z ▸ hm))]
    cases q2 : xs.idxOf? x with
    | none => exact absurd hm (idx_none q2)
    | some j =>
      obtain ⟨a1, a2⟩ := pair_inj (px j x (idx_some q2)) (px i x e)
      dsimp only
      rw [a1, a2]
  have t0 : Turn0 s1.heap.objs.size (frs X.stack) h' s'.heap := t0
  have old : ∀ b o, s1.heap.get? b = some o → b ∉ frs X.stack → s'.heap.get? b = some o := fun b o e nf => t0.old b o (Heap.lt_size e) nf (k b o e)
  have trk : ∀ b u, H1 b = some u → b ∉ frs X.stack := fun b u e hb => by
    rw [I1.stkFree b hb] at e
    cases e
  refine ⟨.ref S, filled H1 S xs (cfF r v), I1.call' (ch := []) os ⟨fun b o e _ nf _ => old b o e nf, fun b o e _ hb _ => t0.oldF b o hb (k b o e), fun b o e n _ => ?_, fun b o e _ => ?_, fun b ys e => same _ _ e, fun b o u e => same _ _ e, fun b ps e => ⟨#[], by rw [same _ _ e]; simp⟩⟩ (fun b u e => ?_) bare (fun b hb => nomatch hb), rfl, q S xs _ fS same atS lx atX⟩
  · unfold filled
    have l := Heap.lt_size e
    rw [if_neg (fun z => by rw [z, hS] at l; exact absurd (Nat.lt_of_lt_of_le l szl) (Nat.lt_irrefl _))]
    cases q2 : xs.idxOf? b with
    | none => exact n
    | some i =>
      exfalso
      have z := nx b (List.mem_of_getElem? (idx_some q2)) l
      have z : h'.get? b = none := z
      rw [k b o e] at z
      cases z
  · by_cases hb : b ∈ frs X.stack
    · obtain ⟨sl, z⟩ := t0.oldF b o hb (k b o e)
      exact ⟨_, z⟩
    · exact ⟨o, old b o e hb⟩
  · unfold filled at e
    split at e
    · rename_i z
      subst z
      cases e
      refine ⟨by rw [List.length_map, lx]; exact Nat.le_of_lt (small1000 small), xs.map Value.ref, c, ?_, eS⟩
      clear eS px nx lx q t0 old atX atS same nSx fx
      induction xs with
      | nil => exact .nil
      | cons x ys ih => exact .cons rfl ih
    · split at e
      · rename_i i q2
        cases e
        obtain ⟨its, rvs, it⟩ := px i b (idx_some q2)
        exact ⟨by show 2 ≤ sizeLine; decide, its, rvs, it⟩
      · refine (I1.hok b u e).stay (fun c o hc eo => old c o eo ?_) (fun c eo => same _ _ eo) fun c ys eo => same _ _ eo
        rcases hc with rfl | hc
        · exact trk _ _ e
        · exact trk _ _ hc
end
/-! ### the sign by squares -/
def ab (i : Int) : Int := if i < 0 then -i else i
def vl (a b d : Int) : Int := a * ab a + d * b * ab b
def sgnI (x : Int) : Int := (if decide (0 < x) = true then 1 else 0) - (if decide (x < 0) = true then 1 else 0)
theorem sgnI_pos {x : Int} (h : 0 < x) : sgnI x = 1 := by
  unfold sgnI
  rw [if_pos (decide_eq_true h), if_neg (by simp; omega)]
  rfl
theorem sgnI_neg {x : Int} (h : x < 0) : sgnI x = -1 := by
  unfold sgnI
  rw [if_neg (by simp; omega), if_pos (decide_eq_true h)]
  rfl
theorem sgnI_zero : sgnI 0 = 0 := by decide
theorem ab_abs (i : Int) : (ab i).natAbs = i.natAbs := by
  unfold ab
  split <;> omega
theorem ab_neg {i : Int} (h : i < 0) : ab i = -i := if_pos h
theorem ab_nn {i : Int} (h : 0 ≤ i) : ab i = i := if_neg (by omega)
section
variable {base : Heap} {K : PySem.W.Frag} {mg : Str → Option Value} {P : Program} {w : World}
def spSign (K : PySem.W.Frag) : Sp := fun vs H Q _ => ∃ (t : Addr) (d a b : Int), vs = [.ref t, .int d] ∧ SqT K H t [.int a, .int b] ∧ d.natAbs < 2 ^ 64 ∧ a.natAbs < 2 ^ 9000 ∧ b.natAbs < 2 ^ 9000 ∧ Q (.int (sgnI (vl a b d))) H
theorem ok_lsign (T : Txt K mg) : FnOk P w K mg base CX0 1 T.f_lsign T.d_lsign ["_law_pair", "_law_root"] (spSign K) := by
  refine T.F_lsign.ok sc_lsign (fun vs H Q E h => ?_) (fun cdv A outer s H vs Q E hr h => ?_)
  · obtain ⟨t, d, a, b, rfl, _⟩ := h
    rfl
  · obtain ⟨t, d, a, b, rfl, hT, d1, a1, b1, q⟩ := h
    refine ⟨_, (pss_cons (ps_set (i := 2) sc_lsign.nd rfl (Or.inl rfl) (pe_op op_add (pe_op op_mulW (pe_ix ix_tup (pv 0) pe_int (fun _ _ => rfl)) (pe_callB call_abs (by rfl) T.n_abs (by decide +kernel) (pa_cons (pe_ix ix_tup (pv 0) pe_int (fun _ _ => rfl)) pa_nil))) (pe_op op_mulW (pe_op op_mulW (pv 1) (pe_ix ix_tup (pv 0) pe_int (fun _ _ => rfl))) (pe_callB call_abs (by rfl) T.n_abs (by decide +kernel) (pa_cons (pe_ix ix_tup (pv 0) pe_int (fun _ _ => rfl)) pa_nil)))))
      (pss_one (ps_ret (pe_op op_sub (pe_callTy call_int1 (by rfl) T.n_int (by decide +kernel) (pa_cons (pe_cmpR op_gt (pv 2) pe_int (nomark _)) pa_nil)) (pe_callTy call_int1 (by rfl) T.n_int (by decide +kernel) (pa_cons (pe_cmpR op_lt (pv 2) pe_int (nomark _)) pa_nil)))))), ?_⟩
    have a2 : (ab a).natAbs < 2 ^ 9000 := by rw [ab_abs]; exact a1
    have b2 : (ab b).natAbs < 2 ^ 9000 := by rw [ab_abs]; exact b1
    have m1 : (d * b).natAbs < 2 ^ (64 + 9000) := wide_lt d1 b1
    refine ⟨_, rfl, t, _, 0, .int a, rfl, rfl, hT, atI_nat (j := 0) rfl, _, rfl, t, _, 0, .int a, rfl, rfl, hT, atI_nat (j := 0) rfl, a, rfl, a, _, rfl, rfl, wide_mul a1 a2 (by decide) (by decide) (by decide),
      _, rfl, _, rfl, t, _, 1, .int b, rfl, rfl, hT, atI_nat (j := 1) rfl, d, b, rfl, rfl, wide_mul d1 b1 (by decide) (by decide) (by decide), _, rfl, t, _, 1, .int b, rfl, rfl, hT, atI_nat (j := 1) rfl, b, rfl, _, _, rfl, rfl, wide_mul m1 b2 (by decide) (by decide) (by decide), _, _, rfl, rfl, ?_⟩
    exact ⟨_, rfl, vl a b d, 0, rfl, rfl, .inr ⟨_, rfl, _, rfl, vl a b d, 0, rfl, rfl, .inr ⟨_, rfl, _, _, rfl, rfl, q⟩⟩⟩
end
/-! ### the sign of a row's number -/
def tP (n p : Int) : Int := if n % 2 = 0 then -p else p
def tQ (n q : Int) : Int := if n % 2 = 0 then q else -q
/-! ### what the fractions are like -/
def alt : Nat → Int
  | 0 => 1
  | i + 1 => -alt i
theorem alt_is (n : Nat) : alt n = if (n : Int) % 2 = 0 then 1 else -1 := by
  induction n with
  | zero => rfl
  | succ n ih =>
    show -alt n = _
    rw [ih]
    split <;> split <;> omega
theorem cf_det (r w : Int) : ∀ i, (cfR r w i).1.1 * (cfR r w i).2.2 - (cfR r w i).1.2 * (cfR r w i).2.1 = alt i
  | 0 => rfl
  | i + 1 => by
    have ih := cf_det r w i
    show ((cfR r w i).1.1 * (cfS r w i).2.2 + (cfR r w i).2.1) * (cfR r w i).1.2 - ((cfR r w i).1.2 * (cfS r w i).2.2 + (cfR r w i).2.2) * (cfR r w i).1.1 = -alt i
    rw [← ih]
    grind
theorem cf_det2 (r w : Int) (n : Nat) : (cfF r w (n + 1)).1 * (cfF r w n).2 - (cfF r w (n + 1)).2 * (cfF r w n).1 = alt n := by
  have := cf_det r w (n + 2)
  rw [cfR_two] at this
  have e : alt (n + 2) = alt n := Int.neg_neg _
  rw [e] at this
  exact this
/-! ### the norms of the fractions, the signs of the tile lengths -/
def cfU (r w : Int) : Nat → Int
  | 0 => r
  | i + 1 => (cfS r w i).2.1
structure CfNorm (r w : Int) (i : Nat) : Prop where
  tu : (cfS r w i).2.1 * cfU r w i = r - (cfS r w i).1 * (cfS r w i).1
  a : (cfR r w i).1.1 * (cfR r w i).1.1 - r * ((cfR r w i).1.2 * (cfR r w i).1.2) = alt i * (cfS r w i).2.1
  b : (cfR r w i).2.1 * (cfR r w i).2.1 - r * ((cfR r w i).2.2 * (cfR r w i).2.2) = -(alt i * cfU r w i)
  c : (cfR r w i).1.1 * (cfR r w i).2.1 - r * ((cfR r w i).1.2 * (cfR r w i).2.2) = -(alt i * (cfS r w i).1)
theorem cf_norm {r w : Int} (h2 : 2 ≤ r) (h99 : r ≤ 99) (hw : isW r w) : ∀ i, CfNorm r w i
  | 0 => by
    constructor
    · show (1 : Int) * r = r - 0 * 0
      omega
    · show (1 : Int) * 1 - r * (0 * 0) = 1 * 1
      omega
    · show (0 : Int) * 0 - r * (1 * 1) = -(1 * r)
      omega
    · show (1 : Int) * 0 - r * (0 * 1) = -(1 * 0)
      omega
  | i + 1 => by
    obtain ⟨tu, a, b, c⟩ := cf_norm h2 h99 hw i
    obtain ⟨_, _, t1, _, _, _⟩ := cf_num h2 h99 hw i
    have ed : (cfS r w (i + 1)).2.1 = cfU r w i - (cfS r w i).2.1 * ((cfS r w i).2.2 * (cfS r w i).2.2) + 2 * ((cfS r w i).2.2 * (cfS r w i).1) := by
      show (r - ((cfS r w i).2.1 * (cfS r w i).2.2 - (cfS r w i).1) * ((cfS r w i).2.1 * (cfS r w i).2.2 - (cfS r w i).1)) / (cfS r w i).2.1 = _
      generalize (cfS r w i).2.1 = t at *
      generalize (cfS r w i).2.2 = k at *
      generalize (cfS r w i).1 = m at *
      generalize cfU r w i = u at *
      have : r - (t * k - m) * (t * k - m) = t * (u - t * (k * k) + 2 * (k * m)) := by grind
      rw [this]
      exact Int.mul_ediv_cancel_left _ (by omega)
    have em : (cfS r w (i + 1)).1 = (cfS r w i).2.1 * (cfS r w i).2.2 - (cfS r w i).1 := rfl
    have ep : (cfR r w (i + 1)).1 = ((cfR r w i).1.1 * (cfS r w i).2.2 + (cfR r w i).2.1, (cfR r w i).1.2 * (cfS r w i).2.2 + (cfR r w i).2.2) := rfl
    have eq : (cfR r w (i + 1)).2 = (cfR r w i).1 := rfl
    have ea : alt (i + 1) = -alt i := rfl
    have eu : cfU r w (i + 1) = (cfS r w i).2.1 := rfl
    constructor
    · rw [ed, em, eu]
      clear ed em ep eq ea eu a b c
      generalize (cfS r w i).2.1 = t at *
      generalize (cfS r w i).2.2 = k at *
      generalize (cfS r w i).1 = m at *
      generalize cfU r w i = u at *
      grind
    · rw [ed, ep, ea]
      clear ed em ep eq ea eu
      generalize (cfS r w i).2.1 = t at *
      generalize (cfS r w i).2.2 = k at *
      generalize (cfS r w i).1 = m at *
      generalize cfU r w i = u at *
      generalize (cfR r w i).1.1 = p at *
      generalize (cfR r w i).1.2 = q at *
      generalize (cfR r w i).2.1 = x at *
      generalize (cfR r w i).2.2 = y at *
      generalize alt i = s at *
      show (p * k + x) * (p * k + x) - r * ((q * k + y) * (q * k + y)) = _
      have e : (p * k + x) * (p * k + x) - r * ((q * k + y) * (q * k + y)) = k * k * (p * p - r * (q * q)) + 2 * k * (p * x - r * (q * y)) + (x * x - r * (y * y)) := by grind
      rw [e, a, b, c]
      grind
    · rw [eq, eu, ea, a]
      grind
    · rw [ep, eq, ea, em]
      clear ed em ep eq ea eu
      generalize (cfS r w i).2.1 = t at *
      generalize (cfS r w i).2.2 = k at *
      generalize (cfS r w i).1 = m at *
      generalize (cfR r w i).1.1 = p at *
      generalize (cfR r w i).1.2 = q at *
      generalize (cfR r w i).2.1 = x at *
      generalize (cfR r w i).2.2 = y at *
      generalize alt i = s at *
      show (p * k + x) * p - r * ((q * k + y) * q) = _
      have e : (p * k + x) * p - r * ((q * k + y) * q) = k * (p * p - r * (q * q)) + (p * x - r * (q * y)) := by grind
      rw [e, a, c]
      grind
/-- the norm of a fraction -/
theorem cfF_norm {r w : Int} (h2 : 2 ≤ r) (h99 : r ≤ 99) (hw : isW r w) (n : Nat) : r * ((cfF r w n).2 * (cfF r w n).2) - (cfF r w n).1 * (cfF r w n).1 = alt n * (cfS r w (n + 1)).2.1 := by
  have := (cf_norm h2 h99 hw (n + 1)).a
  have ea : alt (n + 1) = -alt n := rfl
  rw [ea] at this
  show r * ((cfR r w (n + 1)).1.2 * (cfR r w (n + 1)).1.2) - (cfR r w (n + 1)).1.1 * (cfR r w (n + 1)).1.1 = _
  grind
/-- of two in a row -/
theorem cfF_two {r w : Int} (h2 : 2 ≤ r) (h99 : r ≤ 99) (hw : isW r w) (n : Nat) : r * (((cfF r w n).2 + (cfF r w (n + 1)).2) * ((cfF r w n).2 + (cfF r w (n + 1)).2)) - ((cfF r w n).1 + (cfF r w (n + 1)).1) * ((cfF r w n).1 + (cfF r w (n + 1)).1) =
    alt n * ((cfS r w (n + 1)).2.1 - (cfS r w (n + 2)).2.1 + 2 * (cfS r w (n + 2)).1) := by
  have h0 := cfF_norm h2 h99 hw n
  have h1 := cfF_norm h2 h99 hw (n + 1)
  have hc := (cf_norm h2 h99 hw (n + 2)).c
  rw [cfR_two] at hc
  have ea : alt (n + 1) = -alt n := rfl
  have eb : alt (n + 2) = alt n := Int.neg_neg _
  rw [ea] at h1
  rw [eb] at hc
  dsimp only at hc
  generalize (cfF r w n).1 = p at *
  generalize (cfF r w n).2 = q at *
  generalize (cfF r w (n + 1)).1 = x at *
  generalize (cfF r w (n + 1)).2 = y at *
  grind
theorem cf_gap {r w : Int} (h2 : 2 ≤ r) (h99 : r ≤ 99) (hw : isW r w) (n : Nat) : 0 < (cfS r w (n + 1)).2.1 - (cfS r w (n + 2)).2.1 + 2 * (cfS r w (n + 2)).1 := by
  obtain ⟨g, _⟩ := cf_good h2 h99 hw (n + 1)
  obtain ⟨m1, m2, t1, t2, t3, t4, t5, t6⟩ := of_decide_eq_true g
  have tu := (cf_norm h2 h99 hw (n + 2)).tu
  have e : (r - (cfS r w (n + 1 + 1)).1 * (cfS r w (n + 1 + 1)).1) / (cfS r w (n + 1 + 1)).2.1 = (cfS r w (n + 1)).2.1 := by
    rw [← tu]
    exact Int.mul_ediv_cancel_left _ (show (cfS r w (n + 2)).2.1 ≠ 0 by have : 1 ≤ (cfS r w (n + 2)).2.1 := t1; omega)
  rw [e] at t6
  have : (cfS r w (n + 2)).2.1 < (cfS r w (n + 1)).2.1 + 2 * (cfS r w (n + 2)).1 := t6
  omega
theorem vl_np {p q r : Int} (hp : 0 ≤ p) (hq : 0 ≤ q) : vl (-p) q r = r * (q * q) - p * p := by
  unfold vl
  rw [ab_nn hq, show ab (-p) = p by unfold ab; split <;> omega]
  grind
theorem vl_pn {p q r : Int} (hp : 0 ≤ p) (hq : 0 ≤ q) : vl p (-q) r = p * p - r * (q * q) := by
  unfold vl
  rw [ab_nn hp, show ab (-q) = q by unfold ab; split <;> omega]
  grind
/-- a tile length is more than nothing -/
theorem tile_pos {r w : Int} (h2 : 2 ≤ r) (h99 : r ≤ 99) (hw : isW r w) (n : Nat) : 0 < vl (tP n (cfF r w n).1) (tQ n (cfF r w n).2) r := by
  obtain ⟨⟨a, b, _, _⟩, _⟩ := cf_bound h2 h99 hw (n + 1)
  have hn := cfF_norm h2 h99 hw n
  obtain ⟨_, _, t1, _, _, _⟩ := cf_num h2 h99 hw (n + 1)
  have a : 0 ≤ (cfF r w n).1 := a
  have b : 0 ≤ (cfF r w n).2 := b
  rw [alt_is] at hn
  unfold tP tQ
  by_cases e : (n : Int) % 2 = 0
  · rw [if_pos e] at hn
    rw [if_pos e, if_pos e, vl_np a b]
    show 0 < r * ((cfF r w n).2 * (cfF r w n).2) - (cfF r w n).1 * (cfF r w n).1
    omega
  · rw [if_neg e] at hn
    rw [if_neg e, if_neg e, vl_pn a b]
    show 0 < (cfF r w n).1 * (cfF r w n).1 - r * ((cfF r w n).2 * (cfF r w n).2)
    omega
/-- and more than the next -/
theorem tile_gap {r w : Int} (h2 : 2 ≤ r) (h99 : r ≤ 99) (hw : isW r w) (n : Nat) : 0 < vl (tP n (cfF r w n).1 - tP ((n : Int) + 1) (cfF r w (n + 1)).1) (tQ n (cfF r w n).2 - tQ ((n : Int) + 1) (cfF r w (n + 1)).2) r := by
  obtain ⟨⟨a, b, _, _⟩, _⟩ := cf_bound h2 h99 hw (n + 1)
  obtain ⟨⟨a', b', _, _⟩, _⟩ := cf_bound h2 h99 hw (n + 2)
  have a : 0 ≤ (cfF r w n).1 := a
  have b : 0 ≤ (cfF r w n).2 := b
  have a' : 0 ≤ (cfF r w (n + 1)).1 := a'
  have b' : 0 ≤ (cfF r w (n + 1)).2 := b'
  have hn := cfF_two h2 h99 hw n
  have hg := cf_gap h2 h99 hw n
  rw [alt_is] at hn
  unfold tP tQ
  by_cases e : (n : Int) % 2 = 0
  · rw [if_pos e] at hn
    rw [if_pos e, if_pos e, if_neg (by omega), if_neg (by omega)]
    rw [show -(cfF r w n).1 - (cfF r w (n + 1)).1 = -((cfF r w n).1 + (cfF r w (n + 1)).1) by omega, show (cfF r w n).2 - -(cfF r w (n + 1)).2 = (cfF r w n).2 + (cfF r w (n + 1)).2 by omega, vl_np (by omega) (by omega)]
    omega
  · rw [if_neg e] at hn
    rw [if_neg e, if_neg e, if_pos (by omega), if_pos (by omega)]
    rw [show (cfF r w n).1 - -(cfF r w (n + 1)).1 = (cfF r w n).1 + (cfF r w (n + 1)).1 by omega, show -(cfF r w n).2 - (cfF r w (n + 1)).2 = -((cfF r w n).2 + (cfF r w (n + 1)).2) by omega, vl_pn (by omega) (by omega)]
    omega
/-! ### how the fractions grow -/
theorem cf_pos {r w : Int} (h2 : 2 ≤ r) (h99 : r ≤ 99) (hw : isW r w) : ∀ i, 1 ≤ (cfR r w (i + 1)).1.1 ∧ 1 ≤ (cfR r w (i + 1)).1.2 ∧ 0 ≤ (cfR r w (i + 1)).2.1 ∧ 0 ≤ (cfR r w (i + 1)).2.2
  | 0 => by
    obtain ⟨_, _, _, _, k1, _⟩ := cf_num h2 h99 hw 0
    show 1 ≤ 1 * (cfS r w 0).2.2 + 0 ∧ 1 ≤ 0 * (cfS r w 0).2.2 + 1 ∧ (0 : Int) ≤ 1 ∧ (0 : Int) ≤ 0
    exact ⟨by omega, by omega, by decide, by decide⟩
  | i + 1 => by
    obtain ⟨a, b, c, d⟩ := cf_pos h2 h99 hw i
    obtain ⟨_, _, _, _, k1, _⟩ := cf_num h2 h99 hw (i + 1)
    show 1 ≤ (cfR r w (i + 1)).1.1 * (cfS r w (i + 1)).2.2 + (cfR r w (i + 1)).2.1 ∧ 1 ≤ (cfR r w (i + 1)).1.2 * (cfS r w (i + 1)).2.2 + (cfR r w (i + 1)).2.2 ∧ 0 ≤ (cfR r w (i + 1)).1.1 ∧ 0 ≤ (cfR r w (i + 1)).1.2
    have e1 := Int.mul_le_mul a k1 (by decide) (by omega)
    have e2 := Int.mul_le_mul b k1 (by decide) (by omega)
    exact ⟨by omega, by omega, by omega, by omega⟩
theorem cf_grow {r w : Int} (h2 : 2 ≤ r) (h99 : r ≤ 99) (hw : isW r w) (n : Nat) : (cfF r w n).2 ≤ (cfF r w (n + 1)).2 := by
  obtain ⟨_, b, _, d⟩ := cf_pos h2 h99 hw n
  obtain ⟨_, _, _, _, k1, _⟩ := cf_num h2 h99 hw (n + 1)
  show (cfR r w (n + 1)).1.2 ≤ (cfR r w (n + 1)).1.2 * (cfS r w (n + 1)).2.2 + (cfR r w (n + 1)).2.2
  have := Int.mul_le_mul_of_nonneg_left k1 (show 0 ≤ (cfR r w (n + 1)).1.2 by omega)
  omega
theorem row_sign {r w : Int} (h2 : 2 ≤ r) (h99 : r ≤ 99) (hw : isW r w) (n : Nat) : sgnI (vl (0 - (cfF r w n).1) (cfF r w n).2 r) = alt n := by
  obtain ⟨a, b, _, _⟩ := cf_pos h2 h99 hw n
  have a : 1 ≤ (cfF r w n).1 := a
  have b : 1 ≤ (cfF r w n).2 := b
  have hn := cfF_norm h2 h99 hw n
  obtain ⟨_, _, t1, _, _, _⟩ := cf_num h2 h99 hw (n + 1)
  rw [Int.zero_sub]
  rw [alt_is] at hn ⊢
  have e := vl_np (r := r) (show 0 ≤ (cfF r w n).1 by omega) (show 0 ≤ (cfF r w n).2 by omega)
  split at hn
  · rename_i z
    rw [if_pos z]
    exact sgnI_pos (x := vl (-(cfF r w n).1) (cfF r w n).2 r) (by rw [e]; omega)
  · rename_i z
    rw [if_neg z]
    exact sgnI_neg (x := vl (-(cfF r w n).1) (cfF r w n).2 r) (by rw [e]; omega)
theorem tP_abs (n p : Int) : (tP n p).natAbs = p.natAbs := by
  unfold tP
  split <;> omega
theorem tQ_abs (n p : Int) : (tQ n p).natAbs = p.natAbs := by
  unfold tQ
  split <;> omega
/-! ### the law -/
theorem lift9000 {x : Int} {n : Nat} (h : x.natAbs < 2 ^ n) (hn : n ≤ 9000) : x.natAbs < 2 ^ 9000 := Nat.lt_of_lt_of_le h (Nat.pow_le_pow_right (by decide) hn)
theorem sub_4000 {x y : Int} (hx : x.natAbs < 2 ^ 4000) (hy : y.natAbs < 2 ^ 4000) : (x - y).natAbs < 2 ^ 9000 := by
  have : (x - y).natAbs < 2 ^ 4001 := by
    have e : 2 ^ 4001 = 2 ^ 4000 + 2 ^ 4000 := by rw [Nat.pow_succ]; omega
    generalize 2 ^ 4000 = B at *
    omega
  exact lift9000 this (by decide)
theorem cfF_mid {r v : Int} (r2 : 2 ≤ r) (r99 : r ≤ 99) (hw : isW r v) {n : Nat} (hn : n ≤ 500) : (cfF r v n).1.natAbs < 2 ^ 4000 ∧ (cfF r v n).2.natAbs < 2 ^ 4000 := by
  obtain ⟨⟨a, b, _, _⟩, c, d, _, _⟩ := cf_bound r2 r99 hw (n + 1)
  have up : ∀ x : Int, 0 ≤ x → x < 2 ^ (5 * (n + 1) + 1) → x.natAbs < 2 ^ 4000 := fun x h0 h => by
    have e : x.natAbs < 2 ^ (5 * (n + 1) + 1) := by
      have : ((x.natAbs : Nat) : Int) < ((2 ^ (5 * (n + 1) + 1) : Nat) : Int) := by
        rw [Int.natAbs_of_nonneg h0, Int.natCast_pow]
        exact h
      exact_mod_cast this
    exact Nat.lt_of_lt_of_le e (Nat.pow_le_pow_right (by decide) (by omega))
  exact ⟨up _ a c, up _ b d⟩
def pairD (x : Int × Int) : PyData := .tuple [.int x.1, .int x.2]
theorem pairs_can (ps : List (Int × Int)) : SeqAt.shaped (.list (ps.map pairD)) = true ∧ PyData.eqv (.list (ps.map pairD)) (.list (ps.map pairD)) = true := by
  have g : PyData.canLayAll0 (ps.map pairD) = true ∧ PyData.depthAll (ps.map pairD) ≤ 3 ∧ PyData.plainAll (ps.map pairD) = true := by
    induction ps with
    | nil => exact ⟨by simp [PyData.canLayAll0], by simp [PyData.depthAll], by simp [PyData.plainAll]⟩
    | cons t ts ih =>
      obtain ⟨h1, h2, h3⟩ := ih
      exact ⟨by simp [pairD, PyData.canLayAll0, PyData.canLay0, h1], by simp [pairD, PyData.depthAll, PyData.depth]; omega, by simp [pairD, PyData.plainAll, PyData.plain, h3]⟩
  obtain ⟨h1, h2, h3⟩ := g
  refine ⟨?_, PySem.SeqAt.eqv_refl_plain _ (by simp [PyData.plain, h3])⟩
  unfold SeqAt.shaped
  rw [Bool.and_eq_true]
  refine ⟨by simp [PyData.canLay0, h1], decide_eq_true ?_⟩
  simp only [PyData.depth]
  omega
theorem rows_dps {K : PySem.W.Frag} {H : Hp} {F : Nat → Int × Int} : ∀ (n : Nat) {xs : List Addr}, xs.length = n → Rows H F xs → DpAll K H (xs.map V.ref) (((List.range n).map F).map pairD)
  | 0, [], _, _ => .nil
  | n + 1, x :: xs, hl, rows => by
    rw [List.range_succ_eq_map, List.map_cons, List.map_cons, List.map_map]
    refine .cons (.tup (SqT.of (rows 0 x rfl)) (.cons (.int _) (.cons (.int _) .nil))) (rows_dps (F := fun i => F (i + 1)) n (by simpa using hl) fun i y e => rows (i + 1) y (by simpa using e))
theorem alt_at (j : Nat) : atI [V.int 1, V.int (-1)] ((0 + (j : Int)) % 2) = some (.int (alt j)) := by
  rw [alt_is, Int.zero_add]
  by_cases e : (j : Int) % 2 = 0
  · rw [e, if_pos rfl]
    rfl
  · rw [if_neg e, show (j : Int) % 2 = 1 by omega]
    rfl
theorem cut_last (xs : List V) : cutV xs none (some (-1)) = xs.take (xs.length - 1) := by
  unfold cutV HT.sIx
  simp
  omega
theorem rows_take {H : Hp} {F : Nat → Int × Int} {xs : List Addr} {k : Nat} (rows : Rows H F xs) : Rows H F (xs.take k) := by
  intro i x e
  rw [List.getElem?_take] at e
  split at e
  · exact rows i x e
  · cases e
section
variable {base : Heap} {K : PySem.W.Frag} {mg : Str → Option Value} {P : Program} {w : World}
def spCloser : Sp := fun vs H Q _ => ∃ (p q x y : Int) (n : Nat), vs = [.int p, .int q, .int x, .int y, .int n] ∧ (∀ t H', H t = none → Same H H' → H' t = some (.tup [.int (tP n p - tP ((n : Int) + 1) x), .int (tQ n q - tQ ((n : Int) + 1) y)]) → Q (.ref t) H')
theorem ok_closer (T : Txt K mg) : FnOk P w K mg base CX0 1 T.f_closer T.d_closer ["_law_p", "_law_q", "_law_more", "_law_next_q", "_law_at"] spCloser := by
  refine T.F_closer.ok sc_closer (fun vs H Q E h => ?_) (fun cdv A outer s H vs Q E hr h => ?_)
  · obtain ⟨p, q, x, y, n, rfl, _⟩ := h
    rfl
  · obtain ⟨p, q, x, y, n, rfl, k⟩ := h
    refine ⟨_, (pss_cons (ps_set (i := 5) sc_closer.nd rfl (Or.inl rfl) (pe_ifExp (pt_cmpR op_eq (pe_op op_mod (pv 4) pe_int) pe_int (nomark _)) (pe_tup (pa_cons (pe_op op_sub pe_int (pv 0)) (pa_cons (pv 1) pa_nil))) (pe_tup (pa_cons (pv 0) (pa_cons (pe_op op_sub pe_int (pv 1)) pa_nil)))))
      (pss_cons (ps_set (i := 6) sc_closer.nd rfl (Or.inl rfl) (pe_ifExp (pt_cmpR op_eq (pe_op op_mod (pv 4) pe_int) pe_int (nomark _)) (pe_tup (pa_cons (pv 2) (pa_cons (pe_op op_sub pe_int (pv 3)) pa_nil))) (pe_tup (pa_cons (pe_op op_sub pe_int (pv 2)) (pa_cons (pv 3) pa_nil)))))
      (pss_one (ps_ret (pe_tup (pa_cons (pe_op op_sub (pe_ix ix_tup (pv 5) pe_int (fun _ _ => rfl)) (pe_ix ix_tup (pv 6) pe_int (fun _ _ => rfl))) (pa_cons (pe_op op_sub (pe_ix ix_tup (pv 5) pe_int (fun _ _ => rfl)) (pe_ix ix_tup (pv 6) pe_int (fun _ _ => rfl))) pa_nil))))))), ?_⟩
    have done : ∀ (t1 t2 : Addr) (a1 a2 b1 b2 : Int) (H1 : Hp), Same H H1 → H1 t1 = some (.tup [.int a1, .int a2]) → H1 t2 = some (.tup [.int b1, .int b2]) → a1 - b1 = tP n p - tP ((n : Int) + 1) x → a2 - b2 = tQ n q - tQ ((n : Int) + 1) y → ∀ t, H1 t = none → Q (.ref t) (upd H1 t (.tup [.int (a1 - b1), .int (a2 - b2)])) := fun t1 t2 a1 a2 b1 b2 H1 s1 h1 h2 e1 e2 t nt => by
      rw [e1, e2]
      exact k t _ (s1.free nt) (s1.trans (same_new nt)) upd_same
    refine ⟨_, rfl, n, 2, rfl, rfl, (by show (0 : Int) < 2; decide), rfl, _, rfl, ite2 (fun e => ?_) (fun e => ?_)⟩
    · have z : (n : Int) % 2 = 0 := V.int.inj (of_decide_eq_true e)
      refine ⟨_, rfl, 0, _, rfl, rfl, _, rfl, by show 2 ≤ sizeLine; decide, fun t1 n1 => ?_⟩
      refine ⟨_, rfl, n, 2, rfl, rfl, (by show (0 : Int) < 2; decide), rfl, _, rfl, ite2 (fun _ => ?_) (fun z' => absurd e z')⟩
      refine ⟨_, rfl, _, rfl, 0, _, rfl, rfl, by show 2 ≤ sizeLine; decide, fun t2 n2 => ?_⟩
      have c1 := same_new (o := .tup [.int (0 - p), .int q]) n1
      have c2 := same_new (o := .tup [.int x, .int (0 - y)]) n2
      have h1 := c2 _ _ (upd_same (H := H) (a := t1) (o := .tup [.int (0 - p), .int q]))
      refine ⟨_, rfl, t1, _, 0, _, rfl, rfl, SqT.of h1, atI_nat (j := 0) rfl, _, rfl, t2, _, 0, _, rfl, rfl, SqT.of upd_same, atI_nat (j := 0) rfl, _, _, rfl, rfl, _, rfl, t1, _, 1, _, rfl, rfl, SqT.of h1, atI_nat (j := 1) rfl, _, rfl, t2, _, 1, _, rfl, rfl, SqT.of upd_same, atI_nat (j := 1) rfl, _, _, rfl, rfl, by show 2 ≤ sizeLine; decide, fun t nt => ?_⟩
      exact done t1 t2 _ _ _ _ _ (c1.trans c2) h1 upd_same (by unfold tP; rw [if_pos z, if_neg (by omega)]; omega) (by unfold tQ; rw [if_pos z, if_neg (by omega)]; omega) t nt
    · have z : ¬ (n : Int) % 2 = 0 := fun z => e (decide_eq_true (congrArg V.int z))
      refine ⟨_, rfl, _, rfl, 0, _, rfl, rfl, by show 2 ≤ sizeLine; decide, fun t1 n1 => ?_⟩
      refine ⟨_, rfl, n, 2, rfl, rfl, (by show (0 : Int) < 2; decide), rfl, _, rfl, ite2 (fun z' => absurd z' e) (fun _ => ?_)⟩
      refine ⟨_, rfl, 0, _, rfl, rfl, _, rfl, by show 2 ≤ sizeLine; decide, fun t2 n2 => ?_⟩
      have c1 := same_new (o := .tup [.int p, .int (0 - q)]) n1
      have c2 := same_new (o := .tup [.int (0 - x), .int y]) n2
      have h1 := c2 _ _ (upd_same (H := H) (a := t1) (o := .tup [.int p, .int (0 - q)]))
      refine ⟨_, rfl, t1, _, 0, _, rfl, rfl, SqT.of h1, atI_nat (j := 0) rfl, _, rfl, t2, _, 0, _, rfl, rfl, SqT.of upd_same, atI_nat (j := 0) rfl, _, _, rfl, rfl, _, rfl, t1, _, 1, _, rfl, rfl, SqT.of h1, atI_nat (j := 1) rfl, _, rfl, t2, _, 1, _, rfl, rfl, SqT.of upd_same, atI_nat (j := 1) rfl, _, _, rfl, rfl, by show 2 ≤ sizeLine; decide, fun t nt => ?_⟩
      exact done t1 t2 _ _ _ _ _ (c1.trans c2) h1 upd_same (by unfold tP; rw [if_neg z, if_pos (by omega)]; omega) (by unfold tQ; rw [if_neg z, if_pos (by omega)]; omega) t nt
def spLaw (K : PySem.W.Frag) : Sp := fun vs H Q _ => ∃ (a : Addr) (ns : List Int), vs = [.ref a] ∧ SqL K H a (ns.map V.int) ∧ ns.length ≤ 63 ∧ ∀ H', Q (.bl true) H'
theorem ok_law {f : Addr} {fd : FuncData} (F : Fun K "law" "law" s_law f fd) (T : Txt K mg) : FnOk P w K mg base CX0 13 f fd ["_law_script"] (spLaw K) := by
  refine F.ok sc_law (fun vs H Q E h => ?_) (fun cdv A outer s H vs Q E hr h => ?_)
  · obtain ⟨a, ns, rfl, _⟩ := h
    rfl
  · obtain ⟨a, ns, rfl, hS, hlen, q⟩ := h
    refine ⟨_, (pss_cons (ps_set (i := 1) sc_law.nd rfl (Or.inl rfl) (pe_call (ok_source T) (hr.mono (by decide)) (by rfl) T.g_source T.F_source.kp T.b_source .nil pass0 (pa_cons (pv 0) pa_nil)))
      (pss_cons (ps_for PassesOwn.never rfl (pi_range1 (by rfl) T.n_range (pa_cons pe_int pa_nil)) (pg_name (i := 2) sc_law.nd rfl (Or.inl rfl)) (pss_cons (ps_par (i := 5) (j := 6) (by rfl) sc_law.nd rfl rfl (by decide) rfl rfl (pa_cons (pe_call (ok_of T) (hr.mono (by decide)) (by rfl) T.g_of T.F_of.kp T.b_of .nil pass0 (pa_cons (pv 1) (pa_cons (pe_lst (pa_cons (pe_call (ok_a_root T) (hr.mono (by decide)) (by rfl) T.g_a_root T.F_a_root.kp T.b_a_root .nil pass0 (pa_cons (pv 1) pa_nil)) (pa_cons (pe_call (ok_of T) (hr.mono (by decide)) (by rfl) T.g_of T.F_of.kp T.b_of .nil pass0 (pa_cons (pv 1) (pa_cons (pe_call0 (ok_roots T) (hr.mono (by decide)) (by rfl) T.g_roots T.F_roots.kp T.b_roots .nil pass0) pa_nil))) pa_nil))) pa_nil))) (pa_cons (pe_op op_add pe_int (pe_call (ok_pull T) (hr.mono (by decide)) (by rfl) T.g_pull T.F_pull.kp T.b_pull .nil pass0 (pa_cons (pv 1) (pa_cons pe_int pa_nil)))) pa_nil)) (by rfl))
      (pss_cons (ps_set (i := 3) sc_law.nd rfl (Or.inl rfl) (pe_listF T rfl rfl rfl rfl rfl (hr.mono (by decide)) (by rfl) (by rfl) T.n_list (pa_cons (pv 5) (pa_cons (pv 6) pa_nil))))
      (pss_cons (ps_if (PW.pt (pw_or (pt_cmpR op_ne (pe_callB call_len_seq (by rfl) T.n_len (by decide +kernel) (pa_cons (pv 3) pa_nil)) (pv 6) (nomark _)) (pw_or1 (pt_cmpR op_ne (pe_ix ix_tup (pe_ix ix_list (pv 3) pe_int (fun _ _ => rfl)) pe_int (fun _ _ => rfl)) pe_int (nomark _))))) (pss_one (ps_ret pe_bl)) pss_nil)
      (pss_cons (ps_for PassesOwn.never rfl (pi_range1 (by rfl) T.n_range (pa_cons (pv 6) pa_nil)) (pg_name (i := 4) sc_law.nd rfl (Or.inl rfl)) (pss_cons (ps_asg (pe_ix ix_list (pv 3) (pv 4) (fun _ _ => rfl)) (pg_tup (by rfl) (pgs_cons (pg_name (i := 7) sc_law.nd rfl (Or.inl rfl)) (pgs_cons (pg_name (i := 8) sc_law.nd rfl (Or.inl rfl)) pgs_nil))))
      (pss_one (ps_if (PW.pt (pw_or (pt_cmpR op_ne (pe_call (ok_lsign T) (hr.mono (by decide)) (by rfl) T.g_lsign T.F_lsign.kp T.b_lsign .nil pass0 (pa_cons (pe_tup (pa_cons (pe_op op_sub pe_int (pv 7)) (pa_cons (pv 8) pa_nil))) (pa_cons (pv 5) pa_nil))) (pe_ix ix_list (pe_lst (pa_cons pe_int (pa_cons (pe_un un_neg pe_int) pa_nil))) (pe_op op_mod (pv 4) pe_int) (fun _ _ => rfl)) (nomark _)) (pw_or (pt_cmpR op_lt (pv 8) pe_int (nomark _)) (pw_or1 (pt_cmpR op_lt (pv 7) pe_int (nomark _)))))) (pss_one (ps_ret pe_bl)) pss_nil))))
      (pss_cons (ps_for PassesOwn.never rfl (pi_range1 (by rfl) T.n_range (pa_cons (pe_op op_sub (pv 6) pe_int) pa_nil)) (pg_name (i := 4) sc_law.nd rfl (Or.inl rfl)) (pss_cons (ps_asg (pe_tup (pa_cons (pe_ix ix_list (pv 3) (pv 4) (fun _ _ => rfl)) (pa_cons (pe_ix ix_list (pv 3) (pe_op op_add (pv 4) pe_int) (fun _ _ => rfl)) pa_nil))) (pg_tup (by rfl) (pgs_cons (pg_tup (by rfl) (pgs_cons (pg_name (i := 7) sc_law.nd rfl (Or.inl rfl)) (pgs_cons (pg_name (i := 8) sc_law.nd rfl (Or.inl rfl)) pgs_nil))) (pgs_cons (pg_tup (by rfl) (pgs_cons (pg_name (i := 9) sc_law.nd rfl (Or.inl rfl)) (pgs_cons (pg_name (i := 10) sc_law.nd rfl (Or.inl rfl)) pgs_nil))) pgs_nil))))
      (pss_cons (ps_if (PW.pt (pw_or (pt_cmpR op_ne (pe_op op_sub (pe_op op_mulW (pv 9) (pv 8)) (pe_op op_mulW (pv 7) (pv 10))) (pe_ix ix_list (pe_lst (pa_cons pe_int (pa_cons (pe_un un_neg pe_int) pa_nil))) (pe_op op_mod (pv 4) pe_int) (fun _ _ => rfl)) (nomark _)) (pw_or1 (pt_cmpR op_lt (pv 10) (pv 8) (nomark _))))) (pss_one (ps_ret pe_bl)) pss_nil)
      (pss_one (ps_if (pt_cmpR op_lt (pe_call (ok_lsign T) (hr.mono (by decide)) (by rfl) T.g_lsign T.F_lsign.kp T.b_lsign .nil pass0 (pa_cons (pe_call (ok_closer T) (hr.mono (by decide)) (by rfl) T.g_closer T.F_closer.kp T.b_closer .nil pass0 (pa_cons (pv 7) (pa_cons (pv 8) (pa_cons (pv 9) (pa_cons (pv 10) (pa_cons (pv 4) pa_nil)))))) (pa_cons (pv 5) pa_nil))) pe_int (nomark _)) (pss_one (ps_ret pe_bl)) pss_nil)))))
      (pss_one (ps_if (pt_cmpR (op_neD hr.units) (pe_listF T rfl rfl rfl rfl rfl (hr.mono (by decide)) (by rfl) (by rfl) T.n_list (pa_cons (pv 5) (pa_cons (pe_op op_sub (pv 6) pe_int) pa_nil))) (pe_slice sl_list (pv 3) po_none (po_some (pe_un un_neg pe_int))) (nomark _)) (pss_one (ps_ret pe_bl)) pss_nil))))))))
      (pss_one (ps_ret pe_bl)))), ?_⟩
    refine ⟨.ref a, rfl, a, ns, rfl, hS, hlen, fun b sb H1 hb s1 B1 => ?_⟩
    refine ⟨3, rfl, by decide, by decide, for_range (lo := 0) (n := 3) (fun i σ H' => ∃ y2 y3 y4 y5 y6 y7 y8 y9 y10, σ = [some (.ref a), some (.ref b), y2, y3, y4, y5, y6, y7, y8, y9, y10] ∧ Bag H' b sb) ⟨none, none, none, none, none, none, none, none, none, rfl, B1⟩ ?_ ?_⟩
    · rintro i σ H2 hi ⟨y2, y3, y4, y5, y6, y7, y8, y9, y10, rfl, B2⟩
      have hz : ((rootsTo 98).map V.int).length = 90 := by decide +kernel
      refine ⟨_, rfl, _, rfl, b, sb, rfl, B2, fun d1 H3 hd1 B3 k3 => ⟨_, rfl, rfl, fun pr H4 npr s4 hpr => ⟨b, sb, pr, _, rfl, B3.same s4, hpr, B3.ne npr, by omega, by omega, fun i2 v2 H5 hv2 B5 k5 => ?_⟩⟩⟩
      obtain ⟨d2, rfl, hd2⟩ := root_in hv2
      refine ⟨by show 2 ≤ sizeLine; decide, fun l1 n1 => ⟨b, sb, l1, _, rfl, B5.new n1, upd_same, B5.ne n1, by simp, by simp, fun i1 v1 H6 hv1 B6 k6 => ?_⟩⟩
      obtain ⟨d, rfl, hd⟩ : ∃ d, v1 = .int d ∧ IsRoot d := by
        match i1, hv1 with
        | 0, hv => cases hv; exact ⟨_, rfl, hd1⟩
        | 1, hv => cases hv; exact ⟨_, rfl, hd2⟩
        | m + 2, hv => simp at hv
      clear hv1 k6 n1 B5 k5 hpr s4 npr hv2 B3 k3 hd1 hd2 B2
      refine ⟨_, rfl, b, sb, 89, rfl, B6, by decide, by decide, fun n0 H7 z0 z1 B7 k7 => ?_⟩
      obtain ⟨m, hm, m1, m90⟩ : ∃ m : Nat, (2 : Int) + n0 = ((m + 1 : Nat) : Int) ∧ 1 ≤ m ∧ m ≤ 90 := ⟨n0.toNat + 1, by omega, by omega, by omega⟩
      refine ⟨2, n0, rfl, rfl, .int d, .int ((m + 1 : Nat) : Int), (by show [V.int d, V.int (2 + n0)] = _; rw [hm]), ?_⟩
      obtain ⟨r2, r99, v, v0, v1, v2⟩ := id hd
      have hw : isW d v := ⟨v0, v1, v2⟩
      have d64 : d.natAbs < 2 ^ 64 := Nat.lt_of_le_of_lt (show d.natAbs ≤ 99 by omega) (by decide)
      refine ⟨_, rfl, _, rfl, d, v, m + 1, rfl, r2, r99, hw, by omega, fun S xs H8 nS s8 hS8 lx rows => ?_⟩
      have B8 := B7.same s8
      have mid : ∀ j, j ≤ m → (cfF d v j).1.natAbs < 2 ^ 4000 ∧ (cfF d v j).2.natAbs < 2 ^ 4000 := fun j hj => cfF_mid r2 r99 hw (by omega)
      have big : ∀ j, j ≤ m → (cfF d v j).1.natAbs < 2 ^ 9000 ∧ (cfF d v j).2.natAbs < 2 ^ 9000 := fun j hj => ⟨lift9000 (mid j hj).1 (by decide), lift9000 (mid j hj).2 (by decide)⟩
      have pos : ∀ j, 1 ≤ (cfF d v j).1 ∧ 1 ≤ (cfF d v j).2 := fun j => ⟨(cf_pos r2 r99 hw j).1, (cf_pos r2 r99 hw j).2.1⟩
      have get : ∀ j, j < m + 1 → ∃ x : Addr, atI (xs.map V.ref) (0 + (j : Int)) = some (.ref x) ∧ H8 x = some (.tup [.int (cfF d v j).1, .int (cfF d v j).2]) := fun j hj => by
        have l0 : j < xs.length := by omega
        refine ⟨xs[j], ?_, rows j _ (List.getElem?_eq_getElem l0)⟩
        rw [Int.zero_add]
        exact atI_nat (by rw [List.getElem?_map, List.getElem?_eq_getElem l0]; rfl)
      obtain ⟨x0, g0, h0⟩ := get 0 (by omega)
      clear B7 k7 B6 s8 nS z0 z1 hm
      refine ⟨_, rfl, S, _, rfl, .inl (SqL.of hS8), _, rfl, rfl, false, (by rw [decide_eq_true (show V.int _ = V.int _ from congrArg V.int (by rw [List.length_map, lx]))]; rfl), iteF ?_⟩
      refine ⟨_, rfl, S, _, 0, _, rfl, rfl, SqL.of hS8, g0, x0, _, 1, _, rfl, rfl, SqT.of h0, atI_nat (j := 1) rfl, rfl, false, ?_, iteF ?_⟩
      · have e : (cfF d v 0).2 = 1 := by
          show (0 : Int) * _ + 1 = 1
          omega
        rw [e]
        rfl
      refine ⟨_, rfl, ((m + 1 : Nat) : Int), rfl, by omega, by omega, for_range (lo := 0) (n := m + 1) (fun j σ G => ∃ y4 y7 y8 y9 y10, σ = [some (.ref a), some (.ref b), some (.int (0 + (i : Int))), some (.ref S), y4, some (.int d), some (.int ((m + 1 : Nat) : Int)), y7, y8, y9, y10] ∧ Same H8 G) ⟨_, _, _, _, _, rfl, Same.refl _⟩ ?_ ?_⟩
      · rintro j σ G hj ⟨y4, y7, y8, y9, y10, rfl, sm⟩
        obtain ⟨x, gx, hx⟩ := get j hj
        obtain ⟨p1, q1⟩ := pos j
        obtain ⟨bp, bq⟩ := big j (by omega)
        obtain ⟨cp, cq⟩ := mid j (by omega)
        refine ⟨_, rfl, _, rfl, S, _, (0 + (j : Int)), _, rfl, rfl, SqL.of (sm _ _ hS8), gx, x, _, rfl, SqT.of (sm _ _ hx), rfl, .int _, _, rfl, .int _, _, rfl, rfl, ?_⟩
        refine ⟨_, rfl, 0, _, rfl, rfl, _, rfl, by show 2 ≤ sizeLine; decide, fun t nt => ⟨_, rfl, t, d, 0 - (cfF d v j).1, (cfF d v j).2, rfl, SqT.of upd_same, d64, sub_4000 (by decide) cp, bq, ?_⟩⟩
        refine ⟨1, rfl, by show 2 ≤ sizeLine; decide, fun l nl => ⟨_, rfl, (0 + (j : Int)), 2, rfl, rfl, (by show (0 : Int) < 2; decide), l, _, _, _, rfl, rfl, SqL.of upd_same, alt_at j, rfl, false, ?_, iteF ?_⟩⟩
        · show V.bl (!decide (V.int (sgnI (vl (0 - (cfF d v j).1) (cfF d v j).2 d)) = V.int (alt j))) = V.bl false
          rw [row_sign r2 r99 hw j, decide_eq_true rfl]
          rfl
        refine ⟨_, rfl, _, _, rfl, rfl, _, rfl, ite2 (fun e => absurd (of_decide_eq_true e) (by omega)) (fun _ => ⟨_, rfl, _, _, rfl, rfl, _, rfl, ite2 (fun e => absurd (of_decide_eq_true e) (by omega)) (fun _ => ?_)⟩)⟩
        exact ⟨_, _, _, _, _, rfl, sm.trans ((same_new nt).trans (same_new nl))⟩
      rintro σ G ⟨y4, y7, y8, y9, y10, rfl, sm⟩
      refine ⟨_, rfl, _, 1, rfl, rfl, (m : Int), (by show [V.int (((m + 1 : Nat) : Int) - 1)] = [V.int (m : Int)]; congr 2; omega), by omega, by omega, for_range (lo := 0) (n := m) (fun j σ G => ∃ y4 y7 y8 y9 y10, σ = [some (.ref a), some (.ref b), some (.int (0 + (i : Int))), some (.ref S), y4, some (.int d), some (.int ((m + 1 : Nat) : Int)), y7, y8, y9, y10] ∧ Same H8 G) ⟨_, _, _, _, _, rfl, sm⟩ ?_ ?_⟩
      · rintro j σ G hj ⟨y4, y7, y8, y9, y10, rfl, sm⟩
        obtain ⟨x, gx, hx⟩ := get j (by omega)
        obtain ⟨y, gy, hy⟩ := get (j + 1) (by omega)
        obtain ⟨p1, q1⟩ := pos j
        obtain ⟨bp, bq⟩ := big j (by omega)
        obtain ⟨cp, cq⟩ := mid j (by omega)
        obtain ⟨bp', bq'⟩ := big (j + 1) (by omega)
        obtain ⟨cp', cq'⟩ := mid (j + 1) (by omega)
        have gr := cf_grow r2 r99 hw j
        refine ⟨_, rfl, _, rfl, S, _, (0 + (j : Int)), _, rfl, rfl, SqL.of (sm _ _ hS8), gx, _, rfl, _, rfl, (0 + (j : Int)), 1, rfl, rfl, S, _, (0 + (j : Int) + 1), _, rfl, rfl, SqL.of (sm _ _ hS8), gy, by show 2 ≤ sizeLine; decide, fun t nt => ?_⟩
        have dt := sm.trans (same_new (o := .tup [.ref x, .ref y]) nt)
        refine ⟨t, _, rfl, SqT.of upd_same, rfl, .ref x, _, rfl, x, _, rfl, SqT.of (dt _ _ hx), rfl, .int _, _, rfl, .int _, _, rfl, rfl, .ref y, _, rfl, y, _, rfl, SqT.of (dt _ _ hy), rfl, .int _, _, rfl, .int _, _, rfl, rfl, rfl, ?_⟩
        refine ⟨_, rfl, _, rfl, _, _, rfl, rfl, wide_mul bp' bq (by decide) (by decide) (by decide), _, rfl, _, rfl, _, _, rfl, rfl, wide_mul bp bq' (by decide) (by decide) (by decide), _, _, rfl, rfl, ?_⟩
        refine ⟨1, rfl, by show 2 ≤ sizeLine; decide, fun l nl => ⟨_, rfl, (0 + (j : Int)), 2, rfl, rfl, (by show (0 : Int) < 2; decide), l, _, _, _, rfl, rfl, SqL.of upd_same, alt_at j, rfl, false, ?_, iteF ?_⟩⟩
        · show V.bl (!decide (V.int ((cfF d v (j + 1)).1 * (cfF d v j).2 - (cfF d v j).1 * (cfF d v (j + 1)).2) = V.int (alt j))) = V.bl false
          rw [decide_eq_true (congrArg V.int (by rw [← cf_det2 d v j, Int.mul_comm (cfF d v j).1]))]
          rfl
        have dl := dt.trans (same_new (o := .lst [.int 1, .int (-1)]) nl)
        refine ⟨_, rfl, _, rfl, _, _, rfl, rfl, _, rfl, ite2 (fun e => absurd (of_decide_eq_true e) (by omega)) (fun _ => ?_)⟩
        refine ⟨_, rfl, _, rfl, _, rfl, _, rfl, _, rfl, (cfF d v j).1, (cfF d v j).2, (cfF d v (j + 1)).1, (cfF d v (j + 1)).2, j, (by rw [Int.zero_add]; rfl), fun u G2 nu su hu => ?_⟩
        refine ⟨_, rfl, u, d, _, _, rfl, SqT.of hu, d64, sub_4000 (by rw [tP_abs]; exact cp) (by rw [tP_abs]; exact cp'), sub_4000 (by rw [tQ_abs]; exact cq) (by rw [tQ_abs]; exact cq'), _, _, rfl, rfl, _, rfl, ite2 (fun e => absurd (of_decide_eq_true e) (by rw [sgnI_pos (tile_gap r2 r99 hw j)]; decide)) (fun _ => ?_)⟩
        exact ⟨_, _, _, _, _, rfl, dl.trans su⟩
      rintro σ G ⟨y4, y7, y8, y9, y10, rfl, sm⟩
      refine ⟨_, rfl, _, rfl, _, 1, rfl, rfl, d, v, m, (by show [V.int d, V.int (((m + 1 : Nat) : Int) - 1)] = [V.int d, V.int (m : Int)]; congr 3; omega), r2, r99, hw, by omega, fun S2 zs H9 nS2 s9 hS2 lz zrows => ?_⟩
      have s8 := sm.trans s9
      refine ⟨_, rfl, 1, rfl, -1, rfl, S, _, rfl, SqL.of (s8 _ _ hS8), fun p np => ?_⟩
      have dp := same_new (o := .lst (cutV (xs.map V.ref) none (some (-1)))) np
      have ec : cutV (xs.map V.ref) none (some (-1)) = (xs.take m).map V.ref := by
        rw [cut_last, List.length_map, lx, List.map_take]
        rfl
      have hp : upd H9 p (.lst (cutV (xs.map V.ref) none (some (-1)))) p = some (.lst ((xs.take m).map V.ref)) := by rw [upd_same, ec]
      obtain ⟨sh, eq⟩ := pairs_can ((List.range m).map (cfF d v))
      refine ⟨_, _, .lst (SqL.of (dp _ _ hS2)) (rows_dps m lz fun i x e => dp _ _ (zrows i x e)), .lst (SqL.of hp) (rows_dps m (by rw [List.length_take, lx]; omega) fun i x e => dp _ _ (s8 _ _ (rows_take rows i x e))), sh, sh, false, (by rw [eq]; rfl), iteF ?_⟩
      exact ⟨_, _, _, _, _, _, _, _, _, rfl, B8.same (s8.trans dp)⟩
    · rintro σ H2 ⟨y2, y3, y4, y5, y6, y7, y8, y9, y10, rfl, B2⟩
      exact q _
end
theorem all_mk {l : PySem.W.OpenLaw} {w : World} {K : PySem.W.Frag} {h : Heap} {mg : Str → Option Value} {fa : Addr} (X : K.In h) (G : h.Ns mainGlobals mg) (hfa : mg "law" = some (.ref fa))
    {od0 an0 : Option Addr} {sl0 : Array (Option Value)} {kV0 oc0 dc0 pm0 cd0 ct0 : Value} {f0 : Addr}
    (a0 : PySem.W.nsIn K mainGlobals "whole_root" = some (some (.ref f0))) (l0 : K.lookup f0 = some ⟨oc0, od0, .func (PySem.W.fnOf "whole_root" "whole_root" (defArgs s_whole_root) (defBody s_whole_root) (defScope s_whole_root) .none kV0 dc0 pm0 an0 cd0 ct0), sl0⟩) (c0 : PySem.W.codeIn K cd0 "whole_root" = true) (k0 : PySem.W.keepIn K (.ref f0) = true)
    {od1 an1 : Option Addr} {sl1 : Array (Option Value)} {kV1 oc1 dc1 pm1 cd1 ct1 : Value} {f1 : Addr}
    (a1 : PySem.W.nsIn K mainGlobals "added" = some (some (.ref f1))) (l1 : K.lookup f1 = some ⟨oc1, od1, .func (PySem.W.fnOf "added" "added" (defArgs s_added) (defBody s_added) (defScope s_added) .none kV1 dc1 pm1 an1 cd1 ct1), sl1⟩) (c1 : PySem.W.codeIn K cd1 "added" = true) (k1 : PySem.W.keepIn K (.ref f1) = true)
    {od2 an2 : Option Addr} {sl2 : Array (Option Value)} {kV2 oc2 dc2 pm2 cd2 ct2 : Value} {f2 : Addr}
    (a2 : PySem.W.nsIn K mainGlobals "scaled" = some (some (.ref f2))) (l2 : K.lookup f2 = some ⟨oc2, od2, .func (PySem.W.fnOf "scaled" "scaled" (defArgs s_scaled) (defBody s_scaled) (defScope s_scaled) .none kV2 dc2 pm2 an2 cd2 ct2), sl2⟩) (c2 : PySem.W.codeIn K cd2 "scaled" = true) (k2 : PySem.W.keepIn K (.ref f2) = true)
    {od3 an3 : Option Addr} {sl3 : Array (Option Value)} {kV3 oc3 dc3 pm3 cd3 ct3 : Value} {f3 : Addr}
    (a3 : PySem.W.nsIn K mainGlobals "floor_of" = some (some (.ref f3))) (l3 : K.lookup f3 = some ⟨oc3, od3, .func (PySem.W.fnOf "floor_of" "floor_of" (defArgs s_floor_of) (defBody s_floor_of) (defScope s_floor_of) .none kV3 dc3 pm3 an3 cd3 ct3), sl3⟩) (c3 : PySem.W.codeIn K cd3 "floor_of" = true) (k3 : PySem.W.keepIn K (.ref f3) = true)
    {od4 an4 : Option Addr} {sl4 : Array (Option Value)} {kV4 oc4 dc4 pm4 cd4 ct4 : Value} {f4 : Addr}
    (a4 : PySem.W.nsIn K mainGlobals "endless_fractions" = some (some (.ref f4))) (l4 : K.lookup f4 = some ⟨oc4, od4, .func (PySem.W.fnOf "endless_fractions" "endless_fractions" (defArgs s_endless_fractions) (defBody s_endless_fractions) (defScope s_endless_fractions) .none kV4 dc4 pm4 an4 cd4 ct4), sl4⟩) (c4 : PySem.W.codeIn K cd4 "endless_fractions" = true) (k4 : PySem.W.keepIn K (.ref f4) = true)
    {od5 an5 : Option Addr} {sl5 : Array (Option Value)} {kV5 oc5 dc5 pm5 cd5 ct5 : Value} {f5 : Addr}
    (a5 : PySem.W.nsIn K mainGlobals "fractions" = some (some (.ref f5))) (l5 : K.lookup f5 = some ⟨oc5, od5, .func (PySem.W.fnOf "fractions" "fractions" (defArgs s_fractions) (defBody s_fractions) (defScope s_fractions) .none kV5 dc5 pm5 an5 cd5 ct5), sl5⟩) (c5 : PySem.W.codeIn K cd5 "fractions" = true) (k5 : PySem.W.keepIn K (.ref f5) = true)
    {od6 an6 : Option Addr} {sl6 : Array (Option Value)} {kV6 oc6 dc6 pm6 cd6 ct6 : Value} {f6 : Addr}
    (a6 : PySem.W.nsIn K mainGlobals "_law_source" = some (some (.ref f6))) (l6 : K.lookup f6 = some ⟨oc6, od6, .func (PySem.W.fnOf "_law_source" "_law_source" (defArgs s_source) (defBody s_source) (defScope s_source) .none kV6 dc6 pm6 an6 cd6 ct6), sl6⟩) (c6 : PySem.W.codeIn K cd6 "_law_source" = true) (k6 : PySem.W.keepIn K (.ref f6) = true)
    {od7 an7 : Option Addr} {sl7 : Array (Option Value)} {kV7 oc7 dc7 pm7 cd7 ct7 : Value} {f7 : Addr}
    (a7 : PySem.W.nsIn K mainGlobals "_law_pull" = some (some (.ref f7))) (l7 : K.lookup f7 = some ⟨oc7, od7, .func (PySem.W.fnOf "_law_pull" "_law_pull" (defArgs s_pull) (defBody s_pull) (defScope s_pull) .none kV7 dc7 pm7 an7 cd7 ct7), sl7⟩) (c7 : PySem.W.codeIn K cd7 "_law_pull" = true) (k7 : PySem.W.keepIn K (.ref f7) = true)
    {od8 an8 : Option Addr} {sl8 : Array (Option Value)} {kV8 oc8 dc8 pm8 cd8 ct8 : Value} {f8 : Addr}
    (a8 : PySem.W.nsIn K mainGlobals "_law_of" = some (some (.ref f8))) (l8 : K.lookup f8 = some ⟨oc8, od8, .func (PySem.W.fnOf "_law_of" "_law_of" (defArgs s_of) (defBody s_of) (defScope s_of) .none kV8 dc8 pm8 an8 cd8 ct8), sl8⟩) (c8 : PySem.W.codeIn K cd8 "_law_of" = true) (k8 : PySem.W.keepIn K (.ref f8) = true)
    {od9 an9 : Option Addr} {sl9 : Array (Option Value)} {kV9 oc9 dc9 pm9 cd9 ct9 : Value} {f9 : Addr}
    (a9 : PySem.W.nsIn K mainGlobals "_law_roots" = some (some (.ref f9))) (l9 : K.lookup f9 = some ⟨oc9, od9, .func (PySem.W.fnOf "_law_roots" "_law_roots" (defArgs s_roots) (defBody s_roots) (defScope s_roots) .none kV9 dc9 pm9 an9 cd9 ct9), sl9⟩) (c9 : PySem.W.codeIn K cd9 "_law_roots" = true) (k9 : PySem.W.keepIn K (.ref f9) = true)
    {od10 an10 : Option Addr} {sl10 : Array (Option Value)} {kV10 oc10 dc10 pm10 cd10 ct10 : Value} {f10 : Addr}
    (a10 : PySem.W.nsIn K mainGlobals "_law_a_root" = some (some (.ref f10))) (l10 : K.lookup f10 = some ⟨oc10, od10, .func (PySem.W.fnOf "_law_a_root" "_law_a_root" (defArgs s_a_root) (defBody s_a_root) (defScope s_a_root) .none kV10 dc10 pm10 an10 cd10 ct10), sl10⟩) (c10 : PySem.W.codeIn K cd10 "_law_a_root" = true) (k10 : PySem.W.keepIn K (.ref f10) = true)
    {od11 an11 : Option Addr} {sl11 : Array (Option Value)} {kV11 oc11 dc11 pm11 cd11 ct11 : Value} {f11 : Addr}
    (a11 : PySem.W.nsIn K mainGlobals "_law_sign" = some (some (.ref f11))) (l11 : K.lookup f11 = some ⟨oc11, od11, .func (PySem.W.fnOf "_law_sign" "_law_sign" (defArgs s_lsign) (defBody s_lsign) (defScope s_lsign) .none kV11 dc11 pm11 an11 cd11 ct11), sl11⟩) (c11 : PySem.W.codeIn K cd11 "_law_sign" = true) (k11 : PySem.W.keepIn K (.ref f11) = true)
    {od12 an12 : Option Addr} {sl12 : Array (Option Value)} {kV12 oc12 dc12 pm12 cd12 ct12 : Value} {f12 : Addr}
    (a12 : PySem.W.nsIn K mainGlobals "_law_closer" = some (some (.ref f12))) (l12 : K.lookup f12 = some ⟨oc12, od12, .func (PySem.W.fnOf "_law_closer" "_law_closer" (defArgs s_closer) (defBody s_closer) (defScope s_closer) .none kV12 dc12 pm12 an12 cd12 ct12), sl12⟩) (c12 : PySem.W.codeIn K cd12 "_law_closer" = true) (k12 : PySem.W.keepIn K (.ref f12) = true)
    {od13 an13 : Option Addr} {sl13 : Array (Option Value)} {kV13 oc13 dc13 pm13 cd13 ct13 : Value} {f13 : Addr}
    (a13 : PySem.W.nsIn K mainGlobals "law" = some (some (.ref f13))) (l13 : K.lookup f13 = some ⟨oc13, od13, .func (PySem.W.fnOf "law" "law" (defArgs s_law) (defBody s_law) (defScope s_law) .none kV13 dc13 pm13 an13 cd13 ct13), sl13⟩) (c13 : PySem.W.codeIn K cd13 "law" = true) (k13 : PySem.W.keepIn K (.ref f13) = true)
    (z0 : PySem.W.nsIn K mainGlobals "ValueError" = some none)
    (z1 : PySem.W.nsIn K mainGlobals "zip" = some none)
    (z2 : PySem.W.nsIn K mainGlobals "range" = some none)
    (z3 : PySem.W.nsIn K mainGlobals "sum" = some none)
    (z4 : PySem.W.nsIn K mainGlobals "list" = some none)
    (z5 : PySem.W.nsIn K mainGlobals "int" = some none)
    (z6 : PySem.W.nsIn K mainGlobals "len" = some none)
    (z7 : PySem.W.nsIn K mainGlobals "abs" = some none)
    : ∃ fd : FuncData, (∀ (s : Shared) (v : Value), BindsTo s fd ⟨[v], []⟩ [("_law_script", v)]) ∧ ∀ base : Heap, K.In base → base.Ns mainGlobals mg → FnOk l.prog w K mg base CX0 13 fa fd ["_law_script"] (spLaw K) := by
  have e := hfa.symm.trans (PySem.W.mg_of X G a13)
  cases e
  have F0 := fun_mk (st := s_whole_root) l0 c0 k0
  have b0 := F0.binds (ps := ["number"]) fun _ _ _ _ _ _ us hl => match us, hl with | [_], _ => rfl
  have F1 := fun_mk (st := s_added) l1 c1 k1
  have F2 := fun_mk (st := s_scaled) l2 c2 k2
  have b2 := F2.binds (ps := ["pair", "number"]) fun _ _ _ _ _ _ us hl => match us, hl with | [_, _], _ => rfl
  have F3 := fun_mk (st := s_floor_of) l3 c3 k3
  have b3 := F3.binds (ps := ["pair", "root"]) fun _ _ _ _ _ _ us hl => match us, hl with | [_, _], _ => rfl
  have F4 := fun_mk (st := s_endless_fractions) l4 c4 k4
  have b4 := F4.binds (ps := ["root"]) fun _ _ _ _ _ _ us hl => match us, hl with | [_], _ => rfl
  have F5 := fun_mk (st := s_fractions) l5 c5 k5
  have b5 := F5.binds (ps := ["root", "count"]) fun _ _ _ _ _ _ us hl => match us, hl with | [_, _], _ => rfl
  have F6 := fun_mk (st := s_source) l6 c6 k6
  have b6 := F6.binds (ps := ["_law_script"]) fun _ _ _ _ _ _ us hl => match us, hl with | [_], _ => rfl
  have F7 := fun_mk (st := s_pull) l7 c7 k7
  have b7 := F7.binds (ps := ["_law_bag", "_law_size"]) fun _ _ _ _ _ _ us hl => match us, hl with | [_, _], _ => rfl
  have F8 := fun_mk (st := s_of) l8 c8 k8
  have b8 := F8.binds (ps := ["_law_bag", "_law_some"]) fun _ _ _ _ _ _ us hl => match us, hl with | [_, _], _ => rfl
  have F9 := fun_mk (st := s_roots) l9 c9 k9
  have b9 := F9.binds (ps := []) fun _ _ _ _ _ _ us hl => match us, hl with | [], _ => rfl
  have F10 := fun_mk (st := s_a_root) l10 c10 k10
  have b10 := F10.binds (ps := ["_law_bag"]) fun _ _ _ _ _ _ us hl => match us, hl with | [_], _ => rfl
  have F11 := fun_mk (st := s_lsign) l11 c11 k11
  have b11 := F11.binds (ps := ["_law_pair", "_law_root"]) fun _ _ _ _ _ _ us hl => match us, hl with | [_, _], _ => rfl
  have F12 := fun_mk (st := s_closer) l12 c12 k12
  have b12 := F12.binds (ps := ["_law_p", "_law_q", "_law_more", "_law_next_q", "_law_at"]) fun _ _ _ _ _ _ us hl => match us, hl with | [_, _, _, _, _], _ => rfl
  have F13 := fun_mk (st := s_law) l13 c13 k13
  have T : Txt K mg := {
    f_whole_root := f0
    d_whole_root := _
    F_whole_root := F0
    g_whole_root := PySem.W.mg_of X G a0
    b_whole_root := b0
    f_added := f1
    d_added := _
    F_added := F1
    g_added := PySem.W.mg_of X G a1
    f_scaled := f2
    d_scaled := _
    F_scaled := F2
    g_scaled := PySem.W.mg_of X G a2
    b_scaled := b2
    f_floor_of := f3
    d_floor_of := _
    F_floor_of := F3
    g_floor_of := PySem.W.mg_of X G a3
    b_floor_of := b3
    f_endless_fractions := f4
    d_endless_fractions := _
    F_endless_fractions := F4
    g_endless_fractions := PySem.W.mg_of X G a4
    b_endless_fractions := b4
    f_fractions := f5
    d_fractions := _
    F_fractions := F5
    g_fractions := PySem.W.mg_of X G a5
    b_fractions := b5
    f_source := f6
    d_source := _
    F_source := F6
    g_source := PySem.W.mg_of X G a6
    b_source := b6
    f_pull := f7
    d_pull := _
    F_pull := F7
    g_pull := PySem.W.mg_of X G a7
    b_pull := b7
    f_of := f8
    d_of := _
    F_of := F8
    g_of := PySem.W.mg_of X G a8
    b_of := b8
    f_roots := f9
    d_roots := _
    F_roots := F9
    g_roots := PySem.W.mg_of X G a9
    b_roots := b9
    f_a_root := f10
    d_a_root := _
    F_a_root := F10
    g_a_root := PySem.W.mg_of X G a10
    b_a_root := b10
    f_lsign := f11
    d_lsign := _
    F_lsign := F11
    g_lsign := PySem.W.mg_of X G a11
    b_lsign := b11
    f_closer := f12
    d_closer := _
    F_closer := F12
    g_closer := PySem.W.mg_of X G a12
    b_closer := b12
    n_ValueError := PySem.W.mg_none_of X G z0
    n_zip := PySem.W.mg_none_of X G z1
    n_range := PySem.W.mg_none_of X G z2
    n_sum := PySem.W.mg_none_of X G z3
    n_list := PySem.W.mg_none_of X G z4
    n_int := PySem.W.mg_none_of X G z5
    n_len := PySem.W.mg_none_of X G z6
    n_abs := PySem.W.mg_none_of X G z7 }
  exact ⟨PySem.W.fnOf "law" "law" (defArgs s_law) (defBody s_law) (defScope s_law) .none kV13 dc13 pm13 an13 cd13 ct13, fun s v => .of_eq rfl, fun base _ _ => ok_law F13 T⟩
end Gy
open PySem PySem.W PyProof.Rows
set_option maxRecDepth 100000 in
set_option maxHeartbeats 0 in
theorem PySem.Challenge.cw_grainyard_k07_whole_fractions_come_close_holds : PySem.Challenge.rw_grainyard_k07_whole_fractions_come_close.Holds := by
  w_on; o_law; k_head; (case hw => w_witness2)
  k_fill
  refine L2.walk_of (l := PySem.Challenge.rw_grainyard_k07_whole_fractions_come_close) (n := 63) (k := 13) (x := "_law_script") (CX := fun _ => L2.CX0) (sp := fun w => Gy.spLaw _) rfl (by decide) rfl ⟨rfl, by decide, by decide⟩ (fun w h Y => PySem.W.kIn_of Y) ?F (fun _ _ a ns hl _ hS => ⟨a, ns, rfl, hS, hl, fun _ => rfl⟩) (fun _ _ _ _ _ h => h)
  case F =>
    intro w mg fa h KX G hmg
    refine' Gy.all_mk KX G hmg ?a0 ?l0 ?c0 ?k0 ?a1 ?l1 ?c1 ?k1 ?a2 ?l2 ?c2 ?k2 ?a3 ?l3 ?c3 ?k3 ?a4 ?l4 ?c4 ?k4 ?a5 ?l5 ?c5 ?k5 ?a6 ?l6 ?c6 ?k6 ?a7 ?l7 ?c7 ?k7 ?a8 ?l8 ?c8 ?k8 ?a9 ?l9 ?c9 ?k9 ?a10 ?l10 ?c10 ?k10 ?a11 ?l11 ?c11 ?k11 ?a12 ?l12 ?c12 ?k12 ?a13 ?l13 ?c13 ?k13 ?z0 ?z1 ?z2 ?z3 ?z4 ?z5 ?z6 ?z7
    (case a0 => k_is); (case l0 => k_is); (case c0 => k_is); (case k0 => k_is); (case a1 => k_is); (case l1 => k_is); (case c1 => k_is); (case k1 => k_is); (case a2 => k_is); (case l2 => k_is); (case c2 => k_is); (case k2 => k_is); (case a3 => k_is); (case l3 => k_is); (case c3 => k_is); (case k3 => k_is); (case a4 => k_is); (case l4 => k_is); (case c4 => k_is); (case k4 => k_is); (case a5 => k_is); (case l5 => k_is); (case c5 => k_is); (case k5 => k_is); (case a6 => k_is); (case l6 => k_is); (case c6 => k_is); (case k6 => k_is); (case a7 => k_is); (case l7 => k_is); (case c7 => k_is); (case k7 => k_is); (case a8 => k_is); (case l8 => k_is); (case c8 => k_is); (case k8 => k_is); (case a9 => k_is); (case l9 => k_is); (case c9 => k_is); (case k9 => k_is); (case a10 => k_is); (case l10 => k_is); (case c10 => k_is); (case k10 => k_is); (case a11 => k_is); (case l11 => k_is); (case c11 => k_is); (case k11 => k_is); (case a12 => k_is); (case l12 => k_is); (case c12 => k_is); (case k12 => k_is); (case a13 => k_is); (case l13 => k_is); (case c13 => k_is); (case k13 => k_is); (case z0 => k_is); (case z1 => k_is); (case z2 => k_is); (case z3 => k_is); (case z4 => k_is); (case z5 => k_is); (case z6 => k_is); (case z7 => k_is)

