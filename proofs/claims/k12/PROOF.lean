import PyProof.Rows.All
import Wide.All
import OpenK.AllK
import Wide.FinOn
import HandS.ForMost
import HandS.Wide
import HandS.WideBits
import HandS.IsInst
import HandS.Defaults
import HandS.Star
import HandS.Evl
import HandS.NoneIn
import PySem.Challenge.RW_grainyard_k12_marks_weights_and_areas
set_option Elab.async false
set_option linter.all false
set_option maxRecDepth 100000
set_option maxHeartbeats 4000000
namespace Gy
open PySem PySem.Spec PyProof.Rows L2
theorem sq_nn (x : Int) : 0 ≤ x * x := by
  rcases Int.le_total 0 x with h | h
  · exact Int.mul_nonneg h h
  · exact Int.mul_nonneg_of_nonpos_of_nonpos h h
theorem sq_le {x y : Int} (h0 : 0 ≤ x) (h : x ≤ y) : x * x ≤ y * y := Int.mul_le_mul h h h0 (Int.le_trans h0 h)
theorem sq_lt {x y : Int} (h0 : 0 ≤ x) (h : x < y) : x * x < y * y := by
  have h1 : (x + 1) * (x + 1) ≤ y * y := sq_le (by omega) (by omega)
  grind
theorem lt_of_sq {x y : Int} (h0 : 0 ≤ y) (h : x * x < y * y) : x < y := by
  rcases Int.lt_or_le x y with z | z
  · exact z
  · have := sq_le h0 z
    omega
theorem le_of_sq {x y : Int} (h0 : 0 ≤ y) (h : x * x ≤ y * y) : x ≤ y := by
  rcases Int.lt_or_le y x with z | z
  · have := sq_lt h0 z
    omega
  · exact z
/-- Newton's step from above -/
theorem newton_up {g n : Int} (hg : 0 < g) (hn : 0 ≤ n) : n < ((g + n / g) / 2 + 1) * ((g + n / g) / 2 + 1) := by
  have hq : 0 ≤ n / g := Int.ediv_nonneg hn (by omega)
  have h1 : n < g * (n / g + 1) := by
    have := Int.lt_ediv_add_one_mul_self n hg
    grind
  generalize n / g = q at hq h1 ⊢
  have h2 : g + q + 1 ≤ 2 * ((g + q) / 2 + 1) := by omega
  generalize (g + q) / 2 = r at h2 ⊢
  have h3 := sq_nn (g - (q + 1))
  have h4 := sq_le (show 0 ≤ g + q + 1 by omega) h2
  grind
theorem newton_dn {g n : Int} (hg : 0 < g) (h : n < g * g) : (g + n / g) / 2 < g := by
  have h1 : n / g < g := Int.ediv_lt_of_lt_mul hg h
  omega
theorem newton_nn {g n : Int} (hg : 0 < g) (hn : 0 ≤ n) : 0 ≤ (g + n / g) / 2 := by
  have hq : 0 ≤ n / g := Int.ediv_nonneg hn (by omega)
  omega
/-- no root times a square is a square -/
theorem no_square {d k : Int} (hk : 0 ≤ k) (h1 : k * k < d) (h2 : d < (k + 1) * (k + 1)) : ∀ (n : Nat) (b w : Int), 0 < b → 0 ≤ w → b.toNat ≤ n → w * w ≠ d * b * b
  | 0, b, w, hb, _, hn => by omega
  | n + 1, b, w, hb, hw, hn => fun e => by
    have hbb : 0 < b * b := Int.mul_pos hb hb
    have l1 : (k * b) * (k * b) < w * w := by
      have := Int.mul_lt_mul_of_pos_right h1 hbb
      grind
    have l2 : w * w < ((k + 1) * b) * ((k + 1) * b) := by
      have := Int.mul_lt_mul_of_pos_right h2 hbb
      grind
    have m1 : k * b < w := lt_of_sq hw l1
    have m2 : w < (k + 1) * b := lt_of_sq (Int.mul_nonneg (by omega) (by omega)) l2
    have m3 : w - k * b < b := by grind
    refine no_square hk h1 h2 n (w - k * b) (d * b - k * w) (by omega) ?_ (by omega) (by grind)
    have : (k * w) * b ≤ (d * b) * b := by
      have z := Int.mul_le_mul_of_nonneg_right (Int.le_of_lt m1) hw
      grind
    have z : k * w ≤ d * b := Int.le_of_mul_le_mul_right this hb
    omega
/-! ### defs with defaults, methods by keywords -/
inductive Dflt (K : PySem.W.Frag) (r : Addr) : Prop
  | mk {y1 y2 : Addr} {d e f : Option Addr} {m n o : Nat} {s t u : Array (Option Value)} {v w x y : Tok} (a : K.lookup r = some ⟨.type "tuple", d, .seq #[.ref y1, .ref y2] m, s⟩)
      (b : K.lookup y1 = some ⟨.type "tuple", e, .seq #[.int 0 v, .int 0 w] n, t⟩) (c : K.lookup y2 = some ⟨.type "tuple", f, .seq #[.int 0 x, .int 0 y] o, u⟩) : Dflt K r
section
variable {K : PySem.W.Frag} {f T D : Addr} {oc tc u : Value} {od td : Option Addr} {fd : FuncData} {sl ts : Array (Option Value)} {tn : Nat} {its : Array Value} {ps : List Str} {x : Str}
theorem bd_given (l : K.lookup f = some ⟨oc, od, .func fd, sl⟩) (t : K.lookup T = some ⟨tc, td, .seq its tn, ts⟩) (h : ∀ us : List Value, us.length = ps.length → ∃ k, bindArgs fd ⟨us, []⟩ = seqItems? (.ref T) >>= k ∧ k (some its) = pure (ps.zip us)) : Binds K fd ps [] := fun s us X hl => by
  rw [List.append_nil] at hl ⊢
  obtain ⟨k, e1, e2⟩ := h us hl
  refine BindsTo.of_looks fun M => ?_
  rw [e1]
  exact looks_items X t rfl (.of_pure e2)
theorem bd_dflt {v : Value} (l : K.lookup f = some ⟨oc, od, .func fd, sl⟩) (t : K.lookup T = some ⟨tc, td, .seq #[v] tn, ts⟩) (h : ∀ us : List Value, us.length + 1 = ps.length → ∃ k, bindArgs fd ⟨us, []⟩ = seqItems? (.ref T) >>= k ∧ k (some #[v]) = pure (ps.zip (us ++ [v]))) : Binds K fd ps [v] := fun s us X hl => by
  rw [List.length_append] at hl
  obtain ⟨k, e1, e2⟩ := h us hl
  refine BindsTo.of_looks fun M => ?_
  rw [e1]
  exact looks_items X t rfl (.of_pure e2)
theorem bd_kw (l : K.lookup f = some ⟨oc, od, .func fd, sl⟩) (kd : PySem.W.nsIn K D x = some (some u)) (h : ∀ us : List Value, us.length + 1 = ps.length → KwChain D [(x, u)] (bindArgs fd ⟨us, []⟩) (ps.zip (us ++ [u]))) : Binds K fd ps [u] := fun s us X hl => by
  rw [List.length_append] at hl
  refine BindsTo.of_looks fun M => ?_
  refine KwChain.looks X ?_ (h us hl)
  intro q hq
  rcases List.mem_cons.mp hq with e | e
  · rw [e]
    exact kd
  · cases e
end
section
variable {X : Cx} {CX : CXT} {k : Nat} {f C : Addr} {fd : FuncData} {ps ks : List Str} {sp : Sp} {E : XK} {m : Str} {pos apos : Pos} {o : Expr} {kws : List Keyword} {ta : TE} {tk : TA}
theorem pe_methK0 {pl : Sem Bool} {g : List Value → List Value → List Value} {gV : List V → List V → List V} (he : PE X o ta) (c : Cls X.K C) (hm : Meth X.K C m f) (F : FnOk X.prog X.w X.K X.mg X.base CX k f fd ps sp) (hr : Room k X.A) (hb : KBn X.K fd ps 1 ks g gV) (hx : Passes CX X E) (hkw : PK X kws tk)
    (hall : (backToKw pos (keywordEach kws X.env)).all (·.1.isSome) = true := by rfl)
    (hks : (backToKw pos (keywordEach kws X.env)).filterMap (·.1) = ks := by rfl)
    (hpl : ((backTo pos (starEach [] X.env)).any (·.1) || (backToKw pos (keywordEach kws X.env)).any (·.1.isNone)) = false := by rfl)
    (ht : eval (.Call (.Attribute o m apos) [] kws pos) X.env = (do
      let ov ← eval o X.env
      standAt apos.atName
      let (f, first) ← holding [ov] (getMethod ov m pl)
      callWith pos f first (backTo pos (starEach [] X.env)) (backToKw pos (keywordEach kws X.env))) := by rfl) :
    PE X (.Call (.Attribute o m apos) [] kws pos) (fun σ H Q => ta σ H fun x H1 => ∃ a dx fs, x = .ref a ∧ H1 a = some (.ins C dx fs) ∧ fs.lookup m = none ∧ tk σ H1 fun zs H2 => zs.length = ks.length ∧ sp (gV [.ref a] zs) H2 Q E) := by
  refine ⟨fun pins s σ H Q I h => ?_⟩
  refine PySem.W.methodCall_KW (pl := pl) (thn (he.run pins s σ H _ I h) fun u s1 ⟨x, H1, I1, rx, a, dx, fs, ex, ea, l, q⟩ => ?_) ht
  subst ex
  obtain rfl : u = Value.ref a := rx
  refine getmeth_ok I1 ea c hm l ?_
  refine PySem.W.callWith_KW0 (first := [.ref a]) (h₀ := X.base) I.ok.mod.kin hm.kp hall ?_ hpl
  refine thn (hkw.run pos pins s1 σ H1 _ I1 q) fun ws s2 ⟨zs, H2, I2, rz, l2, q2⟩ => ⟨I2.kIn, ?_⟩
  rw [hks]
  exact run_fnN (us := [.ref a]) (vs := [.ref a]) F hr hb hx I2 (.cons rfl .nil) rz rfl l2 q2
end
def topS (i : Nat) : Stmt := PySem.Challenge.pw_grainyard_k12_marks_weights_and_areas.main.body.getD i (.Pass ⟨0, 0, 0, 0⟩)
abbrev s_scaled : Stmt := topS 5
theorem sc_scaled : FnScope ["pair", "number", "a", "b"] ["pair", "number"] (defScope s_scaled) := ⟨rfl, rfl, rfl, by decide +kernel, rfl, by decide +kernel, by decide +kernel⟩
abbrev s_Table_init : Stmt := inClass (topS 7) 0
theorem sc_Table_init : FnScope ["self", "rows", "t00", "t01", "t10", "t11"] ["self", "rows"] (defScope s_Table_init) := ⟨rfl, rfl, rfl, by decide +kernel, rfl, by decide +kernel, by decide +kernel⟩
abbrev s_Table_rows : Stmt := inClass (topS 7) 1
theorem sc_Table_rows : FnScope ["self"] ["self"] (defScope s_Table_rows) := ⟨rfl, rfl, rfl, by decide +kernel, rfl, by decide +kernel, by decide +kernel⟩
abbrev s_Table_area_for : Stmt := inClass (topS 7) 2
theorem sc_Table_area_for : FnScope ["self", "root", "t00", "t01", "t10", "t11"] ["self", "root"] (defScope s_Table_area_for) := ⟨rfl, rfl, rfl, by decide +kernel, rfl, by decide +kernel, by decide +kernel⟩
abbrev s_Table_marks : Stmt := inClass (topS 7) 3
theorem sc_Table_marks : FnScope ["self", "turning", "t00", "t01", "t10", "t11"] ["self", "turning"] (defScope s_Table_marks) := ⟨rfl, rfl, rfl, by decide +kernel, rfl, by decide +kernel, by decide +kernel⟩
abbrev s_Table_weight : Stmt := inClass (topS 7) 4
theorem sc_Table_weight : FnScope ["self", "pair", "x", "y", "t00", "t01", "t10", "t11"] ["self", "pair"] (defScope s_Table_weight) := ⟨rfl, rfl, rfl, by decide +kernel, rfl, by decide +kernel, by decide +kernel⟩
abbrev s_Table_determinant : Stmt := inClass (topS 7) 5
theorem sc_Table_determinant : FnScope ["self", "t00", "t01", "t10", "t11"] ["self"] (defScope s_Table_determinant) := ⟨rfl, rfl, rfl, by decide +kernel, rfl, by decide +kernel, by decide +kernel⟩
abbrev s_outer : Stmt := topS 8
theorem sc_outer : FnScope ["one", "other", "a", "b"] ["one", "other"] (defScope s_outer) := ⟨rfl, rfl, rfl, by decide +kernel, rfl, by decide +kernel, by decide +kernel⟩
abbrev s_source : Stmt := topS 10
theorem sc_source : FnScope ["_law_script", "_law_mix", "_law_cell"] ["_law_script"] (defScope s_source) := ⟨rfl, rfl, rfl, by decide +kernel, rfl, by decide +kernel, by decide +kernel⟩
abbrev s_pull : Stmt := topS 11
theorem sc_pull : FnScope ["_law_bag", "_law_size", "_law_mix", "_law_cell", "_law_found"] ["_law_bag", "_law_size"] (defScope s_pull) := ⟨rfl, rfl, rfl, by decide +kernel, rfl, by decide +kernel, by decide +kernel⟩
abbrev s_of : Stmt := topS 12
theorem sc_of : FnScope ["_law_bag", "_law_some"] ["_law_bag", "_law_some"] (defScope s_of) := ⟨rfl, rfl, rfl, by decide +kernel, rfl, by decide +kernel, by decide +kernel⟩
abbrev s_any_pair : Stmt := topS 13
theorem sc_any_pair : FnScope ["_law_bag", "_law_size"] ["_law_bag"] (defScope s_any_pair) := ⟨rfl, rfl, rfl, by decide +kernel, rfl, by decide +kernel, by decide +kernel⟩
abbrev s_a_number : Stmt := topS 14
theorem sc_a_number : FnScope ["_law_bag", "_law_size"] ["_law_bag"] (defScope s_a_number) := ⟨rfl, rfl, rfl, by decide +kernel, rfl, by decide +kernel, by decide +kernel⟩
abbrev s_roots : Stmt := topS 15
theorem sc_roots : FnScope ["_law_d"] [] (defScope s_roots) := ⟨rfl, rfl, rfl, by decide +kernel, rfl, by decide +kernel, by decide +kernel⟩
abbrev s_a_root : Stmt := topS 16
theorem sc_a_root : FnScope ["_law_bag"] ["_law_bag"] (defScope s_a_root) := ⟨rfl, rfl, rfl, by decide +kernel, rfl, by decide +kernel, by decide +kernel⟩
abbrev s_like : Stmt := topS 17
theorem sc_like : FnScope ["_law_found", "_law_due", "_law_k"] ["_law_found", "_law_due"] (defScope s_like) := ⟨rfl, rfl, rfl, by decide +kernel, rfl, by decide +kernel, by decide +kernel⟩
abbrev s_law : Stmt := topS 18
theorem sc_law : FnScope ["_law_script", "_law_bag", "_law_turn", "_law_table", "_law_due", "_law_root", "_law_x", "_law_y", "_law_one_z", "_law_two", "_law_a", "_law_b", "_law_c", "_law_e"] ["_law_script"] (defScope s_law) := ⟨rfl, rfl, rfl, by decide +kernel, rfl, by decide +kernel, by decide +kernel⟩
structure Txt (K : PySem.W.Frag) (mg : Str → Option Value) where
  f_scaled : Addr
  d_scaled : FuncData
  F_scaled : Fun K "scaled" "scaled" s_scaled f_scaled d_scaled
  g_scaled : mg "scaled" = some (.ref f_scaled)
  b_scaled : Binds K d_scaled ["pair", "number"] []
  C_Table : Addr
  cl_Table : Cls K C_Table
  g_Table : mg "Table" = some (.ref C_Table)
  sf_Table : PySem.W.selfFirst K C_Table = true
  nq_Table : PySem.W.noSeq K C_Table = true
  n_Table_cells : NoAttr K C_Table "cells"
  f_Table_init : Addr
  d_Table_init : FuncData
  r0_Table_init : Addr
  F_Table_init : FunD K "__init__" "Table.__init__" (defArgs s_Table_init) (defBody s_Table_init) (defScope s_Table_init) [.ref r0_Table_init] [] f_Table_init d_Table_init
  b_Table_init : Binds K d_Table_init ["self", "rows"] []
  b0_Table_init : Binds K d_Table_init ["self", "rows"] [.ref r0_Table_init]
  v0_Table_init : Vals [.ref r0_Table_init] [.ref r0_Table_init]
  z0_Table_init : Dflt K r0_Table_init
  M_Table : Mk K C_Table f_Table_init
  f_Table_rows : Addr
  d_Table_rows : FuncData
  F_Table_rows : Fun K "rows" "Table.rows" s_Table_rows f_Table_rows d_Table_rows
  b_Table_rows : Binds K d_Table_rows ["self"] []
  m_Table_rows : Meth K C_Table "rows" f_Table_rows
  f_Table_area_for : Addr
  d_Table_area_for : FuncData
  F_Table_area_for : Fun K "area_for" "Table.area_for" s_Table_area_for f_Table_area_for d_Table_area_for
  b_Table_area_for : Binds K d_Table_area_for ["self", "root"] []
  m_Table_area_for : Meth K C_Table "area_for" f_Table_area_for
  f_Table_marks : Addr
  d_Table_marks : FuncData
  F_Table_marks : Fun K "marks" "Table.marks" s_Table_marks f_Table_marks d_Table_marks
  b_Table_marks : Binds K d_Table_marks ["self", "turning"] [.bool false]
  m_Table_marks : Meth K C_Table "marks" f_Table_marks
  f_Table_weight : Addr
  d_Table_weight : FuncData
  F_Table_weight : Fun K "weight" "Table.weight" s_Table_weight f_Table_weight d_Table_weight
  b_Table_weight : Binds K d_Table_weight ["self", "pair"] []
  m_Table_weight : Meth K C_Table "weight" f_Table_weight
  f_Table_determinant : Addr
  d_Table_determinant : FuncData
  F_Table_determinant : Fun K "determinant" "Table.determinant" s_Table_determinant f_Table_determinant d_Table_determinant
  b_Table_determinant : Binds K d_Table_determinant ["self"] []
  m_Table_determinant : Meth K C_Table "determinant" f_Table_determinant
  f_outer : Addr
  d_outer : FuncData
  F_outer : Fun K "outer" "outer" s_outer f_outer d_outer
  g_outer : mg "outer" = some (.ref f_outer)
  b_outer : Binds K d_outer ["one", "other"] []
  f_source : Addr
  d_source : FuncData
  F_source : Fun K "_law_source" "_law_source" s_source f_source d_source
  g_source : mg "_law_source" = some (.ref f_source)
  b_source : Binds K d_source ["_law_script"] []
  f_pull : Addr
  d_pull : FuncData
  F_pull : Fun K "_law_pull" "_law_pull" s_pull f_pull d_pull
  g_pull : mg "_law_pull" = some (.ref f_pull)
  b_pull : Binds K d_pull ["_law_bag", "_law_size"] []
  f_of : Addr
  d_of : FuncData
  F_of : Fun K "_law_of" "_law_of" s_of f_of d_of
  g_of : mg "_law_of" = some (.ref f_of)
  b_of : Binds K d_of ["_law_bag", "_law_some"] []
  f_any_pair : Addr
  d_any_pair : FuncData
  F_any_pair : Fun K "_law_any_pair" "_law_any_pair" s_any_pair f_any_pair d_any_pair
  g_any_pair : mg "_law_any_pair" = some (.ref f_any_pair)
  b_any_pair : Binds K d_any_pair ["_law_bag"] []
  f_a_number : Addr
  d_a_number : FuncData
  F_a_number : Fun K "_law_a_number" "_law_a_number" s_a_number f_a_number d_a_number
  g_a_number : mg "_law_a_number" = some (.ref f_a_number)
  b_a_number : Binds K d_a_number ["_law_bag"] []
  f_roots : Addr
  d_roots : FuncData
  F_roots : Fun K "_law_roots" "_law_roots" s_roots f_roots d_roots
  g_roots : mg "_law_roots" = some (.ref f_roots)
  b_roots : Binds K d_roots [] []
  f_a_root : Addr
  d_a_root : FuncData
  F_a_root : Fun K "_law_a_root" "_law_a_root" s_a_root f_a_root d_a_root
  g_a_root : mg "_law_a_root" = some (.ref f_a_root)
  b_a_root : Binds K d_a_root ["_law_bag"] []
  f_like : Addr
  d_like : FuncData
  F_like : Fun K "_law_like" "_law_like" s_like f_like d_like
  g_like : mg "_law_like" = some (.ref f_like)
  b_like : Binds K d_like ["_law_found", "_law_due"] []
  n_isinstance : mg "isinstance" = none
  n_range : mg "range" = none
  n_str : mg "str" = none
  n_sum : mg "sum" = none
  n_any : mg "any" = none
  n_list : mg "list" = none
  n_tuple : mg "tuple" = none
  n_len : mg "len" = none
  n_all : mg "all" = none
  n_bool : mg "bool" = none
  kb_Table_marks_turning : KBn K d_Table_marks ["self", "turning"] 1 ["turning"] (fun us ws : List Value => [us.getD 0 .none, ws.getD 0 .none]) (fun us ws : List V => [us.getD 0 .non, ws.getD 0 .non])
  kb_Table_weight_pair : KBn K d_Table_weight ["self", "pair"] 1 ["pair"] (fun us ws : List Value => [us.getD 0 .none, ws.getD 0 .none]) (fun us ws : List V => [us.getD 0 .non, ws.getD 0 .non])
  kb_outer_other_one : KBn K d_outer ["one", "other"] 0 ["other", "one"] (fun us ws : List Value => [ws.getD 1 .none, ws.getD 0 .none]) (fun us ws : List V => [ws.getD 1 .non, ws.getD 0 .non])
theorem vals_getD : ∀ {zs : List V} {ws : List Value} (_ : Vals zs ws) (i : Nat), RelV (zs.getD i .non) (ws.getD i .none)
  | _, _, .nil, _ => rfl
  | _, _, .cons r _, 0 => r
  | _, _, .cons _ t, i + 1 => vals_getD t i
theorem kbn_Table_marks_turning {K : PySem.W.Frag} {f : Addr} {fd : FuncData} (F : Fun K "marks" "Table.marks" s_Table_marks f fd) : KBn K fd ["self", "turning"] 1 ["turning"] (fun us ws : List Value => [us.getD 0 .none, ws.getD 0 .none]) (fun us ws : List V => [us.getD 0 .non, ws.getD 0 .non]) := by
  obtain ⟨o1, o2, v1, v2, v3, a1, v4, v5, s1, rfl, r1, r2⟩ := F.ex
  refine ⟨fun s us ws _ l1 l2 => ?_, fun r1 r2 => .cons (vals_getD r1 0) (.cons (vals_getD r2 0) (.nil))⟩
  match us, ws, l1, l2 with
  | [_], [_], _, _ => exact .of_eq rfl
theorem kbn_Table_weight_pair {K : PySem.W.Frag} {f : Addr} {fd : FuncData} (F : Fun K "weight" "Table.weight" s_Table_weight f fd) : KBn K fd ["self", "pair"] 1 ["pair"] (fun us ws : List Value => [us.getD 0 .none, ws.getD 0 .none]) (fun us ws : List V => [us.getD 0 .non, ws.getD 0 .non]) := by
  obtain ⟨o1, o2, v1, v2, v3, a1, v4, v5, s1, rfl, r1, r2⟩ := F.ex
  refine ⟨fun s us ws _ l1 l2 => ?_, fun r1 r2 => .cons (vals_getD r1 0) (.cons (vals_getD r2 0) (.nil))⟩
  match us, ws, l1, l2 with
  | [_], [_], _, _ => exact .of_eq rfl
theorem kbn_outer_other_one {K : PySem.W.Frag} {f : Addr} {fd : FuncData} (F : Fun K "outer" "outer" s_outer f fd) : KBn K fd ["one", "other"] 0 ["other", "one"] (fun us ws : List Value => [ws.getD 1 .none, ws.getD 0 .none]) (fun us ws : List V => [ws.getD 1 .non, ws.getD 0 .non]) := by
  obtain ⟨o1, o2, v1, v2, v3, a1, v4, v5, s1, rfl, r1, r2⟩ := F.ex
  refine ⟨fun s us ws _ l1 l2 => ?_, fun r1 r2 => .cons (vals_getD r2 1) (.cons (vals_getD r2 0) (.nil))⟩
  match us, ws, l1, l2 with
  | [], [_, _], _, _ => exact .of_eq rfl
/-! ### heaps, and the bag that the draws change -/
def Keep (b : Addr) (H H' : Hp) : Prop := ∀ a o, a ≠ b → H a = some o → H' a = some o
theorem Keep.refl {b : Addr} (H : Hp) : Keep b H H := fun _ _ _ e => e
theorem Keep.trans {b : Addr} {H H1 H2 : Hp} (x : Keep b H H1) (y : Keep b H1 H2) : Keep b H H2 := fun a o n e => y a o n (x a o n e)
theorem keep_put {b : Addr} {H : Hp} {o : HO} : Keep b H (upd H b o) := fun a u n e => (upd_ne n).trans e
theorem keep_new {b p : Addr} {H : Hp} {o : HO} (hp : H p = none) : Keep b H (upd H p o) := fun a u _ e => (upd_ne (ne_of_none e hp)).trans e
theorem same_new {p : Addr} {H : Hp} {o : HO} (hp : H p = none) : Same H (upd H p o) := fun a u e => (upd_ne (ne_of_none e hp)).trans e
theorem keep_of {b : Addr} {H H' : Hp} (s : Same H H') : Keep b H H' := fun a o _ e => s a o e
theorem Same.keep {b : Addr} {H H1 H2 : Hp} (s : Same H H1) (k : Keep b H1 H2) (hb : H b = none) : Same H H2 := fun a o e => k a o (ne_of_none e hb) (s a o e)
structure BagAt (H : Hp) (b s : Addr) (ns : List Int) (i j m c : Int) : Prop where
  hb : H b = some (.lst [.ref s, .int i, .int j, .int m, .int c])
  hs : H s = some (.lst (ns.map V.int))
  i0 : 0 ≤ i
  i1 : i ≤ (ns.length : Int)
  m0 : 0 ≤ m
  m1 : m < 2147483399
def Bag (H : Hp) (b sb : Addr) : Prop := ∃ (ns : List Int) (i j m c : Int), BagAt H b sb ns i j m c
theorem BagAt.ne {H : Hp} {b s : Addr} {ns : List Int} {i j m c : Int} (B : BagAt H b s ns i j m c) : s ≠ b := ne_of B.hs B.hb (by
  intro e
  injection e with e
  cases ns with
  | nil => simp at e
  | cons x r => simp at e)
theorem BagAt.put {H : Hp} {b s : Addr} {ns : List Int} {i j m c : Int} (B : BagAt H b s ns i j m c) {i' j' m' c' : Int} (h0 : 0 ≤ i') (h1 : i' ≤ (ns.length : Int)) (h2 : 0 ≤ m') (h3 : m' < 2147483399) :
    BagAt (upd H b (.lst [.ref s, .int i', .int j', .int m', .int c'])) b s ns i' j' m' c' := ⟨upd_same, (upd_ne B.ne).trans B.hs, h0, h1, h2, h3⟩
theorem BagAt.same {H H' : Hp} {b s : Addr} {ns : List Int} {i j m c : Int} (B : BagAt H b s ns i j m c) (e : Same H H') : BagAt H' b s ns i j m c := ⟨e _ _ B.hb, e _ _ B.hs, B.i0, B.i1, B.m0, B.m1⟩
theorem Bag.same {H H' : Hp} {b sb : Addr} (B : Bag H b sb) (e : Same H H') : Bag H' b sb := by
  obtain ⟨ns, i, j, m, c, B⟩ := B
  exact ⟨ns, i, j, m, c, B.same e⟩
theorem Bag.new {H : Hp} {b sb p : Addr} {o : HO} (B : Bag H b sb) (hp : H p = none) : Bag (upd H p o) b sb := B.same (same_new hp)
theorem Bag.ne {H : Hp} {b sb p : Addr} (B : Bag H b sb) (hp : H p = none) : p ≠ b := by
  obtain ⟨ns, i, j, m, c, B⟩ := B
  exact (ne_of_none B.hb hp).symm
theorem Bag.ne2 {H : Hp} {b sb p : Addr} (B : Bag H b sb) (hp : H p = none) : p ≠ sb := by
  obtain ⟨ns, i, j, m, c, B⟩ := B
  exact (ne_of_none B.hs hp).symm
theorem Bag.tup {H : Hp} {b sb p : Addr} {xs : List V} (B : Bag H b sb) (hp : H p = some (.tup xs)) : p ≠ b := by
  obtain ⟨ns, i, j, m, c, B⟩ := B
  exact ne_of hp B.hb (by intro z; cases z)
theorem Bag.put {H : Hp} {b sb l : Addr} {o : HO} (B : Bag H b sb) (h1 : l ≠ b) (h2 : l ≠ sb) : Bag (upd H l o) b sb := by
  obtain ⟨ns, i, j, m, c, B⟩ := B
  exact ⟨ns, i, j, m, c, (upd_ne h1.symm).trans B.hb, (upd_ne h2.symm).trans B.hs, B.i0, B.i1, B.m0, B.m1⟩
theorem Keep.list {K : PySem.W.Frag} {H H' : Hp} {b p : Addr} {xs : List V} (k : Keep b H H') (hp : p ≠ b) (h : H p = some (.lst xs)) : SqL K H' p xs := SqL.of (k _ _ hp h)
theorem at_some {α : Type} {xs : List α} {i : Int} (h0 : 0 ≤ i) (h1 : i < (xs.length : Int)) : ∃ v, xs[i.toNat]? = some v ∧ atI xs i = some v := by
  obtain ⟨n, rfl⟩ := Int.eq_ofNat_of_zero_le h0
  have hl : n < xs.length := by omega
  exact ⟨xs[n], by simp [hl], atI_nat (by simp [hl])⟩
theorem at_ex {ns : List Int} {i : Int} (h0 : 0 ≤ i) (h1 : i < (ns.length : Int)) : ∃ z, atI (ns.map V.int) i = some (.int z) := by
  obtain ⟨n, rfl⟩ := Int.eq_ofNat_of_zero_le h0
  have hl : n < ns.length := by omega
  exact ⟨ns[n], atI_nat (by simp [hl])⟩
/-! ### f(k = v, ..): keywords alone -/
section
variable {X : Cx}
theorem pe_kwOnly {CX : CXT} {k : Nat} {f : Addr} {fd : FuncData} {ps ks : List Str} {sp : Sp} {E : XK} {x : Str} {p pos : Pos} {kws : List Keyword} {tk : TA} {g : List Value → List Value → List Value} {gV : List V → List V → List V}
    (F : FnOk X.prog X.w X.K X.mg X.base CX k f fd ps sp) (hr : Room k X.A) (hg : Gl X x) (hm : X.mg x = some (.ref f))
    (hk : PySem.W.keepIn X.K (.ref f) = true) (hb : KBn X.K fd ps 0 ks g gV) (hx : Passes CX X E) (hkw : PK X kws tk)
    (hall : (backToKw pos (keywordEach kws X.env)).all (·.1.isSome) = true := by rfl)
    (hks : (backToKw pos (keywordEach kws X.env)).filterMap (·.1) = ks := by rfl)
    (hdb : (x == ("__debug__" : Str)) = false := by decide)
    (hpl : ((backTo pos (starEach [] X.env)).any (·.1) || (backToKw pos (keywordEach kws X.env)).any (·.1.isNone)) = false := by rfl) :
    PE X (.Call (.Name x p) [] kws pos) (fun σ H Q => tk σ H fun zs H2 => zs.length = ks.length ∧ sp (gV [] zs) H2 Q E) := by
  refine ⟨fun pins s σ H Q I h => wpAny_Call_Name_kw (ld_glob I hg hm ?_ hdb)⟩
  refine PySem.W.callWith_KW0 (h₀ := X.base) I.ok.mod.kin hk hall ?_ hpl
  refine thn (hkw.run pos pins s σ H _ I h) fun ws s2 ⟨zs, H2, I2, rz, l2, q2⟩ => ⟨I2.kIn, ?_⟩
  rw [hks]
  exact run_fnN (us := []) (vs := []) F hr hb hx I2 .nil rz rfl l2 q2
end
/-! ### the law's own draws -/
section
variable {base : Heap} {K : PySem.W.Frag} {mg : Str → Option Value} {P : Program} {w : World}
def spPull : Sp := fun vs H Q _ => ∃ (b sb : Addr) (n : Int), vs = [.ref b, .int n] ∧ Bag H b sb ∧ 0 < n ∧ n.natAbs < 2 ^ 100 ∧ ∀ z H', 0 ≤ z → z < n → Bag H' b sb → Keep b H H' → Q (.int z) H'
theorem ok_pull (T : Txt K mg) : FnOk P w K mg base CX0 1 T.f_pull T.d_pull ["_law_bag", "_law_size"] spPull := by
  refine T.F_pull.ok sc_pull (fun vs H Q E h => ?_) (fun cdv A outer s H vs Q E hr h => ?_)
  · obtain ⟨b, sb, n, rfl, _⟩ := h
    rfl
  · obtain ⟨b, s1, n, rfl, ⟨ns, i, j, m, c, B⟩, h0, h1, q⟩ := h
    refine ⟨_, (pss_cons (ps_asg (pe_op op_add (pe_ix ix_list (pv 0) pe_int (fun _ _ => rfl)) pe_int) (pg_sub (pv 0) pe_int set_list))
      (Evl.pss_cut (ps_if (PW.pt (pw_and (pt_cmpR op_eq (pe_ix ix_list (pv 0) pe_int (fun _ _ => rfl)) pe_int (nomark _)) (pw_and1 (pt_cmpR op_lt (pe_ix ix_list (pv 0) pe_int (fun _ _ => rfl)) (pe_callB call_len_seq (by rfl) T.n_len (by decide +kernel) (pa_cons (pe_ix ix_list (pv 0) pe_int (fun _ _ => rfl)) pa_nil)) (nomark _))))) (pss_cons (ps_set (i := 3) sc_pull.nd rfl (Or.inl rfl) (pe_ix ix_list (pe_ix ix_list (pv 0) pe_int (fun _ _ => rfl)) (pe_ix ix_list (pv 0) pe_int (fun _ _ => rfl)) (fun _ _ => rfl)))
      (pss_cons (ps_asg (pe_op op_add (pe_ix ix_list (pv 0) pe_int (fun _ _ => rfl)) pe_int) (pg_sub (pv 0) pe_int set_list))
      (pss_one (ps_if (pt_cmpR op_ge (pv 3) (pe_op op_pow pe_int pe_int) (nomark _)) (pss_one (ps_asg (pv 3) (pg_sub (pv 0) pe_int set_list))) (pss_cons (ps_set (i := 2) sc_pull.nd rfl (Or.inl rfl) (pe_op op_add (pe_op op_mul (pe_ix ix_list (pv 0) pe_int (fun _ _ => rfl)) pe_int) (pe_op op_mul (pe_op op_mod (pv 3) pe_int) pe_int)))
      (pss_one (ps_asg (pe_op op_mod (pe_op op_add (pv 2) pe_int) pe_int) (pg_sub (pv 0) pe_int set_list)))))))) pss_nil)
      (pss_cons (ps_if (pt_cmpR op_gt (pe_ix ix_list (pv 0) pe_int (fun _ _ => rfl)) pe_int (nomark _)) (pss_cons (ps_set (i := 4) sc_pull.nd rfl (Or.inl rfl) (pe_op op_mod (pe_ix ix_list (pv 0) pe_int (fun _ _ => rfl)) (pv 1)))
      (pss_cons (ps_asg (pe_op op_fdivW (pe_ix ix_list (pv 0) pe_int (fun _ _ => rfl)) (pv 1)) (pg_sub (pv 0) pe_int set_list))
      (pss_one (ps_ret (pv 4))))) pss_nil)
      (pss_cons (ps_set (i := 2) sc_pull.nd rfl (Or.inl rfl) (pe_op op_add (pe_op op_mul (pe_op op_mul (pe_ix ix_list (pv 0) pe_int (fun _ _ => rfl)) (pe_ix ix_list (pv 0) pe_int (fun _ _ => rfl))) pe_int) (pe_op op_mul (pe_ix ix_list (pv 0) pe_int (fun _ _ => rfl)) pe_int)))
      (pss_cons (ps_asg (pe_op op_mod (pe_op op_add (pv 2) (pe_op op_mul pe_int (pe_ix ix_list (pv 0) pe_int (fun _ _ => rfl)))) pe_int) (pg_sub (pv 0) pe_int set_list))
      (pss_one (ps_ret (pe_op op_mod (pe_op op_fdiv (pe_ix ix_list (pv 0) pe_int (fun _ _ => rfl)) pe_int) (pv 1))))))))), ?_⟩
    -- the count of the draws
    have B1 := B.put (j' := j) (c' := c + 1) B.i0 B.i1 B.m0 B.m1
    refine ⟨.ref b, rfl, b, _, 4, .int c, rfl, rfl, SqL.of B.hb, atI_nat (j := 4) rfl, c, 1, rfl, rfl, .ref b, rfl, b, _, 4, 4, rfl, rfl, B.hb, rfl, ?_⟩
    refine ⟨fun σ H' => ∃ y2 y3 y4, σ = [some (.ref b), some (.int n), y2, y3, y4] ∧ Bag H' b s1 ∧ Keep b H H', ?_, ?_⟩
    · -- the next cell of the script
      refine ⟨.ref b, rfl, b, _, 2, .int j, rfl, rfl, SqL.of B1.hb, atI_nat (j := 2) rfl, rfl, _, rfl, ite2 (fun e => ?_) (fun e => ?_)⟩
      · refine ⟨.ref b, rfl, b, _, 1, .int i, rfl, rfl, SqL.of B1.hb, atI_nat (j := 1) rfl, .ref b, rfl, b, _, 0, .ref s1, rfl, rfl, SqL.of B1.hb, atI_nat (j := 0) rfl, s1, _, rfl, .inl (SqL.of B1.hs), i, _, rfl, rfl, _, rfl, ite2 (fun e2 => ?_) (fun e2 => ?_)⟩
        · have e3 : i < (ns.length : Int) := by
            have := of_decide_eq_true e2
            rw [List.length_map] at this
            exact this
          obtain ⟨z, hz⟩ := at_ex B.i0 e3
          have B2 := B1.put (j' := j) (c' := c + 1) (show 0 ≤ i + 1 by have := B.i0; omega) (show i + 1 ≤ (ns.length : Int) by omega) B.m0 B.m1
          refine ⟨.ref b, rfl, b, _, 0, .ref s1, rfl, rfl, SqL.of B1.hb, atI_nat (j := 0) rfl, .ref b, rfl, b, _, 1, .int i, rfl, rfl, SqL.of B1.hb, atI_nat (j := 1) rfl, s1, _, i, _, rfl, rfl, SqL.of B1.hs, hz, ?_⟩
          refine ⟨.ref b, rfl, b, _, 1, .int i, rfl, rfl, SqL.of B1.hb, atI_nat (j := 1) rfl, i, 1, rfl, rfl, .ref b, rfl, b, _, 1, 1, rfl, rfl, B1.hb, rfl, ?_⟩
          refine ⟨_, rfl, 10, 18, rfl, rfl, ⟨by decide, by decide, by decide⟩, z, _, rfl, rfl, _, rfl, ite2 (fun e4 => ?_) (fun e4 => ?_)⟩
          · have B3 := B2.put (j' := z) (c' := c + 1) (show 0 ≤ i + 1 by have := B.i0; omega) (show i + 1 ≤ (ns.length : Int) by omega) B.m0 B.m1
            refine ⟨_, rfl, .ref b, rfl, b, _, 2, 2, rfl, rfl, B2.hb, rfl, ?_⟩
            exact ⟨_, _, _, rfl, ⟨ns, _, _, _, _, B3⟩, keep_put.trans (keep_put.trans keep_put)⟩
          · refine ⟨.ref b, rfl, b, _, 3, .int m, rfl, rfl, SqL.of B2.hb, atI_nat (j := 3) rfl, m, 40014, rfl, rfl, .inr ⟨by decide, by decide⟩, _, rfl, z, 2147483399, rfl, rfl, (by show (0 : Int) < 2147483399; decide), _, 69069, rfl, rfl, .inr ⟨by decide, by decide⟩, _, _, rfl, rfl, ?_⟩
            refine ⟨_, rfl, _, 11, rfl, rfl, _, 2147483399, rfl, rfl, (by show (0 : Int) < 2147483399; decide), .ref b, rfl, b, _, 3, 3, rfl, rfl, B2.hb, rfl, ?_⟩
            have B3 := B2.put (j' := j) (m' := (m * 40014 + z % 2147483399 * 69069 + 11) % 2147483399) (c' := c + 1) (show 0 ≤ i + 1 by have := B.i0; omega) (show i + 1 ≤ (ns.length : Int) by omega) (by omega) (by omega)
            exact ⟨_, _, _, rfl, ⟨ns, _, _, _, _, B3⟩, keep_put.trans (keep_put.trans keep_put)⟩
        · exact ⟨_, _, _, rfl, ⟨ns, _, _, _, _, B1⟩, keep_put⟩
      · exact ⟨_, _, _, rfl, ⟨ns, _, _, _, _, B1⟩, keep_put⟩
    · rintro σ H' ⟨y2, y3, y4, rfl, ⟨ns2, i2, j2, m2, c2, B2⟩, k2⟩
      refine ⟨.ref b, rfl, b, _, 2, .int j2, rfl, rfl, SqL.of B2.hb, atI_nat (j := 2) rfl, j2, 0, rfl, rfl, _, rfl, ite2 (fun e => ?_) (fun e => ?_)⟩
      · have B3 := B2.put (j' := j2 / n) (c' := c2) B2.i0 B2.i1 B2.m0 B2.m1
        refine ⟨.ref b, rfl, b, _, 2, .int j2, rfl, rfl, SqL.of B2.hb, atI_nat (j := 2) rfl, .int n, rfl, j2, n, rfl, rfl, h0, ?_⟩
        refine ⟨.ref b, rfl, b, _, 2, .int j2, rfl, rfl, SqL.of B2.hb, atI_nat (j := 2) rfl, .int n, rfl, j2, n, rfl, rfl, wide_div h0 h1 (by decide) (by decide), .ref b, rfl, b, _, 2, 2, rfl, rfl, B2.hb, rfl, ?_⟩
        exact ⟨_, rfl, q _ _ (Int.emod_nonneg _ (by omega)) (Int.emod_lt_of_pos _ h0) ⟨ns2, _, _, _, _, B3⟩ (k2.trans keep_put)⟩
      · have hm : -(2 ^ 64) < m2 ∧ m2 < 2 ^ 64 := ⟨by have := B2.m0; omega, by have := B2.m1; omega⟩
        refine ⟨.ref b, rfl, b, _, 3, .int m2, rfl, rfl, SqL.of B2.hb, atI_nat (j := 3) rfl, .ref b, rfl, b, _, 3, .int m2, rfl, rfl, SqL.of B2.hb, atI_nat (j := 3) rfl, m2, m2, rfl, rfl, .inl hm, _, 7, rfl, rfl, .inr ⟨by decide, by decide⟩,
          .ref b, rfl, b, _, 3, .int m2, rfl, rfl, SqL.of B2.hb, atI_nat (j := 3) rfl, m2, 40692, rfl, rfl, .inr ⟨by decide, by decide⟩, _, _, rfl, rfl, ?_⟩
        refine ⟨_, rfl, .ref b, rfl, b, _, 4, .int c2, rfl, rfl, SqL.of B2.hb, atI_nat (j := 4) rfl, 1013904223, c2, rfl, rfl, .inl ⟨by decide, by decide⟩, _, _, rfl, rfl, _, 2147483399, rfl, rfl, (by show (0 : Int) < 2147483399; decide), .ref b, rfl, b, _, 3, 3, rfl, rfl, B2.hb, rfl, ?_⟩
        have B3 := B2.put (j' := j2) (m' := (m2 * m2 * 7 + m2 * 40692 + 1013904223 * c2) % 2147483399) (c' := c2) B2.i0 B2.i1 (Int.emod_nonneg _ (by decide)) (Int.emod_lt_of_pos _ (by decide))
        refine ⟨.ref b, rfl, b, _, 3, _, rfl, rfl, SqL.of B3.hb, atI_nat (j := 3) rfl, _, 37, rfl, rfl, ⟨by decide, by decide⟩, .int n, rfl, _, n, rfl, rfl, h0, ?_⟩
        exact q _ _ (Int.emod_nonneg _ (by omega)) (Int.emod_lt_of_pos _ h0) ⟨ns2, _, _, _, _, B3⟩ (k2.trans keep_put)
def spOf : Sp := fun vs H Q _ => ∃ (b sb l : Addr) (xs : List V), vs = [.ref b, .ref l] ∧ Bag H b sb ∧ H l = some (.lst xs) ∧ l ≠ b ∧ 0 < xs.length ∧ xs.length ≤ 1000 ∧ ∀ (i : Nat) (v : V) (H' : Hp), xs[i]? = some v → Bag H' b sb → Keep b H H' → Q v H'
theorem ok_of (T : Txt K mg) : FnOk P w K mg base CX0 2 T.f_of T.d_of ["_law_bag", "_law_some"] spOf := by
  refine T.F_of.ok sc_of (fun vs H Q E h => ?_) (fun cdv A outer s H vs Q E hr h => ?_)
  · obtain ⟨b, sb, l, xs, rfl, _⟩ := h
    rfl
  · obtain ⟨b, sb, l, xs, rfl, B, hl, nl, h0, h1, q⟩ := h
    refine ⟨_, (pss_one (ps_ret (pe_ix ix_list (pv 1) (pe_call (ok_pull T) (hr.mono (by decide)) (by rfl) T.g_pull T.F_pull.kp T.b_pull .nil pass0 (pa_cons (pv 0) (pa_cons (pe_callB call_len_seq (by rfl) T.n_len (by decide +kernel) (pa_cons (pv 1) pa_nil)) pa_nil))) (fun _ _ => rfl)))), ?_⟩
    have hn : ((xs.length : Int)).natAbs < 2 ^ 100 := Nat.lt_of_le_of_lt (show (xs.length : Int).natAbs ≤ 1000 by omega) (by decide)
    refine ⟨.ref l, rfl, .ref b, rfl, .ref l, rfl, l, xs, rfl, .inl (SqL.of hl), b, sb, _, rfl, B, (by show (0 : Int) < (xs.length : Int); omega), hn, fun z H' z0 z1 B' k' => ?_⟩
    obtain ⟨v, e1, e2⟩ := at_some z0 z1
    exact ⟨l, xs, z, v, rfl, rfl, k'.list nl hl, e2, q _ _ _ e1 B' k'⟩
def okR (x : Int) : Bool := !inV (.int x) [.int 4, .int 9, .int 16, .int 25, .int 36, .int 49, .int 64, .int 81]
def rootsTo : Nat → List Int
  | 0 => []
  | n + 1 => if okR (2 + (n : Int)) = true then rootsTo n ++ [2 + (n : Int)] else rootsTo n
theorem rootsTo_len : ∀ n, (rootsTo n).length ≤ n
  | 0 => Nat.le_refl _
  | n + 1 => by
    have := rootsTo_len n
    unfold rootsTo
    split
    · rw [List.length_append]
      simp
      omega
    · omega
def IsRoot (d : Int) : Prop := 2 ≤ d ∧ d ≤ 99 ∧ ∃ k : Int, 0 ≤ k ∧ k * k < d ∧ d < (k + 1) * (k + 1)
def kOf (d : Int) : Int := if d < 4 then 1 else if d < 9 then 2 else if d < 16 then 3 else if d < 25 then 4 else if d < 36 then 5 else if d < 49 then 6 else if d < 64 then 7 else if d < 81 then 8 else 9
theorem roots_are {d : Int} (h : d ∈ rootsTo 98) : IsRoot d := by
  have z : ∀ d ∈ rootsTo 98, 2 ≤ d ∧ d ≤ 99 ∧ 0 ≤ kOf d ∧ kOf d * kOf d < d ∧ d < (kOf d + 1) * (kOf d + 1) := by decide +kernel
  obtain ⟨a, b, c⟩ := z d h
  exact ⟨a, b, kOf d, c⟩
theorem isRoot_by {d : Int} (h : 2 ≤ d ∧ d ≤ 99 ∧ 0 ≤ kOf d ∧ kOf d * kOf d < d ∧ d < (kOf d + 1) * (kOf d + 1)) : IsRoot d := ⟨h.1, h.2.1, kOf d, h.2.2⟩
def spRoots : Sp := fun vs H Q _ => vs = [] ∧ ∀ p H', H p = none → Same H H' → H' p = some (.lst ((rootsTo 98).map V.int)) → Q (.ref p) H'
theorem ok_roots (T : Txt K mg) : FnOk P w K mg base CX0 1 T.f_roots T.d_roots [] spRoots := by
  refine T.F_roots.ok sc_roots (fun vs H Q E h => ?_) (fun cdv A outer s H vs Q E hr h => ?_)
  · obtain ⟨rfl, _⟩ := h
    rfl
  · obtain ⟨rfl, q⟩ := h
    refine ⟨_, (pss_one (ps_ret (pe_lc (own := [("_law_d", 0)]) (g := (gName 0)) (tt := tTest (tOp (rIn K true) _ _)) (by rfl) sc_roots.nd (pi_range2 (by rfl) T.n_range (pa_cons pe_int (pa_cons pe_int pa_nil))) (blkOk_by (own := [("_law_d", 0)]) (N := ["_law_d"]) (sc := defScope s_roots) (by decide +kernel)) (fun _ _ _ _ _ => (pg_name (i := 0) sc_roots.nd rfl (Or.inl rfl))) (fun _ _ _ _ _ => (pts_one (pt_cmpR op_notIn_seq (pv 0) (pe_tup (pa_cons pe_int (pa_cons pe_int (pa_cons pe_int (pa_cons pe_int (pa_cons pe_int (pa_cons pe_int (pa_cons pe_int (pa_cons pe_int pa_nil))))))))) (by rfl)))) (fun _ _ _ _ _ => (pv 0))))), ?_⟩
    refine ⟨2, 100, rfl, ⟨by decide, by decide, by decide, by decide⟩, fun D hD => ?_⟩
    refine lc_range (lo := 2) (n := 98) (fun i H' => Same H H' ∧ H' D = some (.lst ((rootsTo i).map V.int))) ⟨same_new hD, upd_same⟩ ?_ ?_
    · rintro i H' hi ⟨sm, hd⟩
      refine ⟨rfl, _, rfl, (by show 8 ≤ sizeLine; decide), fun t ht => ?_⟩
      refine ⟨t, _, rfl, .inr (SqT.of upd_same), rfl, rfl, _, rfl, ?_⟩
      have hd2 : (upd H' t (.tup [.int 4, .int 9, .int 16, .int 25, .int 36, .int 49, .int 64, .int 81])) D = some (.lst ((rootsTo i).map V.int)) := (upd_ne (ne_of_none hd ht)).trans hd
      refine ite2 (fun e => ?_) (fun e => ?_)
      · refine ⟨_, rfl, _, hd2, ?_, ?_, ?_⟩
        · rw [List.length_map]
          have := rootsTo_len i
          exact small1000 (by omega)
        · exact fun a o z => (upd_ne (ne_of_none z hD)).trans ((sm.trans (same_new ht)) a o z)
        · rw [upd_same]
          have e' : okR (2 + (i : Int)) = true := e
          rw [show rootsTo (i + 1) = rootsTo i ++ [2 + (i : Int)] by
            show (if okR (2 + (i : Int)) = true then rootsTo i ++ [2 + (i : Int)] else rootsTo i) = _
            rw [if_pos e'], List.map_append]
          rfl
      · refine ⟨sm.trans (same_new ht), ?_⟩
        have e' : ¬ okR (2 + (i : Int)) = true := e
        rw [show rootsTo (i + 1) = rootsTo i by
          show (if okR (2 + (i : Int)) = true then rootsTo i ++ [2 + (i : Int)] else rootsTo i) = _
          rw [if_neg e']]
        exact hd2
    · rintro H' ⟨sm, hd⟩
      exact q D H' hD sm hd
def spARoot : Sp := fun vs H Q _ => ∃ b sb : Addr, vs = [.ref b] ∧ Bag H b sb ∧ ∀ d H', IsRoot d → Bag H' b sb → Keep b H H' → Q (.int d) H'
theorem root_in {i : Nat} {v : V} (h : ((rootsTo 98).map V.int)[i]? = some v) : ∃ d, v = .int d ∧ IsRoot d := by
  rw [List.getElem?_map] at h
  cases e : (rootsTo 98)[i]? with
  | none =>
    rw [e] at h
    cases h
  | some d =>
    rw [e] at h
    exact ⟨d, (Option.some.inj h).symm, roots_are (List.mem_of_getElem? e)⟩
theorem ok_a_root (T : Txt K mg) : FnOk P w K mg base CX0 3 T.f_a_root T.d_a_root ["_law_bag"] spARoot := by
  refine T.F_a_root.ok sc_a_root (fun vs H Q E h => ?_) (fun cdv A outer s H vs Q E hr h => ?_)
  · obtain ⟨b, sb, rfl, _⟩ := h
    rfl
  · obtain ⟨b, sb, rfl, B, q⟩ := h
    refine ⟨_, (pss_one (ps_ret (pe_call (ok_of T) (hr.mono (by decide)) (by rfl) T.g_of T.F_of.kp T.b_of .nil pass0 (pa_cons (pv 0) (pa_cons (pe_lst (pa_cons pe_int (pa_cons pe_int (pa_cons pe_int (pa_cons pe_int (pa_cons (pe_call (ok_of T) (hr.mono (by decide)) (by rfl) T.g_of T.F_of.kp T.b_of .nil pass0 (pa_cons (pv 0) (pa_cons (pe_call0 (ok_roots T) (hr.mono (by decide)) (by rfl) T.g_roots T.F_roots.kp T.b_roots .nil pass0) pa_nil))) (pa_cons (pe_call (ok_of T) (hr.mono (by decide)) (by rfl) T.g_of T.F_of.kp T.b_of .nil pass0 (pa_cons (pv 0) (pa_cons (pe_call0 (ok_roots T) (hr.mono (by decide)) (by rfl) T.g_roots T.F_roots.kp T.b_roots .nil pass0) pa_nil))) pa_nil))))))) pa_nil))))), ?_⟩
    have hz : ((rootsTo 98).map V.int).length = 90 := by decide +kernel
    refine ⟨.ref b, rfl, .ref b, rfl, rfl, fun p H1 hp s1 h1 => ?_⟩
    refine ⟨b, sb, p, _, rfl, B.same s1, h1, B.ne hp, by omega, by omega, fun i v H2 hv B2 k2 => ?_⟩
    obtain ⟨r1, rfl, i1⟩ := root_in hv
    refine ⟨.ref b, rfl, rfl, fun p' H3 hp' s3 h3 => ?_⟩
    refine ⟨b, sb, p', _, rfl, B2.same s3, h3, B2.ne hp', by omega, by omega, fun i' v' H4 hv' B4 k4 => ?_⟩
    obtain ⟨r2, rfl, i2⟩ := root_in hv'
    refine ⟨(by show 6 ≤ sizeLine; decide), fun l hl => ?_⟩
    refine ⟨b, sb, l, _, rfl, B4.new hl, upd_same, B4.ne hl, by simp, by simp, fun i v H5 hv B5 k5 => ?_⟩
    have kk : Keep b H H5 := (keep_of s1).trans (k2.trans ((keep_of s3).trans (k4.trans ((keep_new hl).trans k5))))
    match i, hv with
    | 0, hv => cases hv; exact q 2 H5 (isRoot_by (by decide)) B5 kk
    | 1, hv => cases hv; exact q 3 H5 (isRoot_by (by decide)) B5 kk
    | 2, hv => cases hv; exact q 5 H5 (isRoot_by (by decide)) B5 kk
    | 3, hv => cases hv; exact q 99 H5 (isRoot_by (by decide)) B5 kk
    | 4, hv => cases hv; exact q r1 H5 i1 B5 kk
    | 5, hv => cases hv; exact q r2 H5 i2 B5 kk
    | n + 6, hv => simp at hv
def spAnyPair : Sp := fun vs H Q _ => ∃ b sb : Addr, vs = [.ref b] ∧ Bag H b sb ∧ ∀ x y p H', -(10 ^ 6) ≤ x → x ≤ 10 ^ 6 → -(10 ^ 6) ≤ y → y ≤ 10 ^ 6 → H p = none → H' p = some (.tup [.int x, .int y]) → Bag H' b sb → Keep b H H' → Q (.ref p) H'
theorem ok_any_pair (T : Txt K mg) : FnOk P w K mg base CX0 3 T.f_any_pair T.d_any_pair ["_law_bag"] spAnyPair := by
  refine T.F_any_pair.ok sc_any_pair (fun vs H Q E h => ?_) (fun cdv A outer s H vs Q E hr h => ?_)
  · obtain ⟨b, sb, rfl, _⟩ := h
    rfl
  · obtain ⟨b, sb, rfl, B, q⟩ := h
    refine ⟨_, (pss_cons (ps_set (i := 1) sc_any_pair.nd rfl (Or.inl rfl) (pe_call (ok_of T) (hr.mono (by decide)) (by rfl) T.g_of T.F_of.kp T.b_of .nil pass0 (pa_cons (pv 0) (pa_cons (pe_lst (pa_cons pe_int (pa_cons pe_int (pa_cons pe_int (pa_cons pe_int (pa_cons (pe_op op_pow pe_int pe_int) pa_nil)))))) pa_nil))))
      (pss_one (ps_ret (pe_tup (pa_cons (pe_op op_sub (pe_call (ok_pull T) (hr.mono (by decide)) (by rfl) T.g_pull T.F_pull.kp T.b_pull .nil pass0 (pa_cons (pv 0) (pa_cons (pe_op op_add (pe_op op_mul pe_int (pv 1)) pe_int) pa_nil))) (pv 1)) (pa_cons (pe_op op_sub (pe_call (ok_pull T) (hr.mono (by decide)) (by rfl) T.g_pull T.F_pull.kp T.b_pull .nil pass0 (pa_cons (pv 0) (pa_cons (pe_op op_add (pe_op op_mul pe_int (pv 1)) pe_int) pa_nil))) (pv 1)) pa_nil)))))), ?_⟩
    refine ⟨.ref b, rfl, 10, 6, rfl, rfl, ⟨by decide, by decide, by decide⟩, (by show 5 ≤ sizeLine; decide), fun l hl => ?_⟩
    refine ⟨b, sb, l, _, rfl, B.new hl, upd_same, B.ne hl, by decide, by decide, fun i v H1 hv B1 k1 => ?_⟩
    obtain ⟨n, rfl, n0, n1⟩ : ∃ n : Int, v = .int n ∧ 1 ≤ n ∧ n ≤ 10 ^ 6 := by
      match i, hv with
      | 0, hv => cases hv; exact ⟨2, rfl, by decide, by decide⟩
      | 1, hv => cases hv; exact ⟨5, rfl, by decide, by decide⟩
      | 2, hv => cases hv; exact ⟨9, rfl, by decide, by decide⟩
      | 3, hv => cases hv; exact ⟨30, rfl, by decide, by decide⟩
      | 4, hv => cases hv; exact ⟨10 ^ 6, rfl, by decide, by decide⟩
      | n + 5, hv => simp at hv
    have hn : (2 * n + 1).natAbs < 2 ^ 100 := Nat.lt_of_le_of_lt (show (2 * n + 1).natAbs ≤ 2000001 by omega) (by decide)
    refine ⟨.ref b, rfl, _, rfl, 2, n, rfl, rfl, .inl ⟨by decide, by decide⟩, _, 1, rfl, rfl, b, sb, _, rfl, B1, (show (0 : Int) < 2 * n + 1 by omega), hn, fun z H2 z0 z1 B2 k2 => ?_⟩
    refine ⟨_, rfl, z, n, rfl, rfl, .ref b, rfl, _, rfl, 2, n, rfl, rfl, .inl ⟨by decide, by decide⟩, _, 1, rfl, rfl, b, sb, _, rfl, B2, (show (0 : Int) < 2 * n + 1 by omega), hn, fun z' H3 z0' z1' B3 k3 => ?_⟩
    refine ⟨_, rfl, z', n, rfl, rfl, (by show 2 ≤ sizeLine; decide), fun p hp => ?_⟩
    have kk : Keep b H H3 := (keep_new hl).trans (k1.trans (k2.trans k3))
    have hpn : H p = none := by
      cases e : H p with
      | none => rfl
      | some o => exact absurd (kk p o (B3.ne hp) e) (by rw [hp]; simp)
    exact q _ _ p _ (by omega) (by omega) (by omega) (by omega) hpn upd_same (B3.new hp) (kk.trans (keep_new hp))
def spANumber : Sp := fun vs H Q _ => ∃ b sb : Addr, vs = [.ref b] ∧ Bag H b sb ∧ ∀ x H', -(10 ^ 18) ≤ x → x ≤ 10 ^ 18 → Bag H' b sb → Keep b H H' → Q (.int x) H'
theorem ok_a_number (T : Txt K mg) : FnOk P w K mg base CX0 3 T.f_a_number T.d_a_number ["_law_bag"] spANumber := by
  refine T.F_a_number.ok sc_a_number (fun vs H Q E h => ?_) (fun cdv A outer s H vs Q E hr h => ?_)
  · obtain ⟨b, sb, rfl, _⟩ := h
    rfl
  · obtain ⟨b, sb, rfl, B, q⟩ := h
    refine ⟨_, (pss_cons (ps_set (i := 1) sc_a_number.nd rfl (Or.inl rfl) (pe_call (ok_of T) (hr.mono (by decide)) (by rfl) T.g_of T.F_of.kp T.b_of .nil pass0 (pa_cons (pv 0) (pa_cons (pe_lst (pa_cons pe_int (pa_cons pe_int (pa_cons pe_int (pa_cons pe_int (pa_cons pe_int (pa_cons (pe_op op_pow pe_int pe_int) (pa_cons (pe_op op_pow pe_int pe_int) pa_nil)))))))) pa_nil))))
      (pss_one (ps_ret (pe_op op_sub (pe_call (ok_pull T) (hr.mono (by decide)) (by rfl) T.g_pull T.F_pull.kp T.b_pull .nil pass0 (pa_cons (pv 0) (pa_cons (pe_op op_add (pe_op op_mul pe_int (pv 1)) pe_int) pa_nil))) (pv 1))))), ?_⟩
    refine ⟨.ref b, rfl, 10, 9, rfl, rfl, ⟨by decide, by decide, by decide⟩, 10, 18, rfl, rfl, ⟨by decide, by decide, by decide⟩, (by show 7 ≤ sizeLine; decide), fun l hl => ?_⟩
    refine ⟨b, sb, l, _, rfl, B.new hl, upd_same, B.ne hl, by decide, by decide, fun i v H1 hv B1 k1 => ?_⟩
    obtain ⟨n, rfl, n0, n1⟩ : ∃ n : Int, v = .int n ∧ 1 ≤ n ∧ n ≤ 10 ^ 18 := by
      match i, hv with
      | 0, hv => cases hv; exact ⟨3, rfl, by decide, by decide⟩
      | 1, hv => cases hv; exact ⟨7, rfl, by decide, by decide⟩
      | 2, hv => cases hv; exact ⟨13, rfl, by decide, by decide⟩
      | 3, hv => cases hv; exact ⟨60, rfl, by decide, by decide⟩
      | 4, hv => cases hv; exact ⟨1000, rfl, by decide, by decide⟩
      | 5, hv => cases hv; exact ⟨10 ^ 9, rfl, by decide, by decide⟩
      | 6, hv => cases hv; exact ⟨10 ^ 18, rfl, by decide, by decide⟩
      | n + 7, hv => simp at hv
    have hn : (2 * n + 1).natAbs < 2 ^ 100 := Nat.lt_of_le_of_lt (show (2 * n + 1).natAbs ≤ 2000000000000000001 by omega) (by decide)
    refine ⟨.ref b, rfl, _, rfl, 2, n, rfl, rfl, .inl ⟨by decide, by decide⟩, _, 1, rfl, rfl, b, sb, _, rfl, B1, (show (0 : Int) < 2 * n + 1 by omega), hn, fun z H2 z0 z1 B2 k2 => ?_⟩
    exact ⟨_, rfl, z, n, rfl, rfl, q _ _ (by omega) (by omega) B2 ((keep_new hl).trans (k1.trans k2))⟩
def spSource (K : PySem.W.Frag) : Sp := fun vs H Q _ => ∃ (a : Addr) (ns : List Int), vs = [.ref a] ∧ SqL K H a (ns.map V.int) ∧ ns.length ≤ 63 ∧ ∀ b sb H', H b = none → Same H H' → Bag H' b sb → Q (.ref b) H'
theorem ok_source (T : Txt K mg) : FnOk P w K mg base CX0 1 T.f_source T.d_source ["_law_script"] (spSource K) := by
  refine T.F_source.ok sc_source (fun vs H Q E h => ?_) (fun cdv A outer s H vs Q E hr h => ?_)
  · obtain ⟨a, ns, rfl, _⟩ := h
    rfl
  · obtain ⟨a, ns, rfl, hS, hlen, q⟩ := h
    refine ⟨_, (pss_cons (ps_set (i := 1) sc_source.nd rfl (Or.inl rfl) pe_int)
      (pss_cons (ps_for PassesOwn.never rfl (pi_list (pe_slice sl_list (pv 0) po_none (po_some pe_int))) (pg_name (i := 2) sc_source.nd rfl (Or.inl rfl)) (pss_one (ps_set (i := 1) sc_source.nd rfl (Or.inl rfl) (pe_op op_mod (pe_op op_add (pe_op op_add (pe_op op_mul (pv 1) pe_int) (pe_op op_mod (pv 2) pe_int)) pe_int) pe_int))))
      (pss_one (ps_ret (pe_lst (pa_cons (pe_callTy call_list_of (by rfl) T.n_list (by decide +kernel) (pa_cons (pe_slice sl_list (pv 0) po_none (po_some pe_int)) pa_nil)) (pa_cons pe_int (pa_cons pe_int (pa_cons (pv 1) (pa_cons pe_int pa_nil)))))))))), ?_⟩
    have hcut : cutV (ns.map V.int) none (some 63) = ns.map V.int := by
      unfold cutV
      rw [HT.sIx_none, show HT.sIx (ns.map V.int).length (ns.map V.int).length (some 63) = min 63 (ns.map V.int).length from HT.sIx_nat _ _ 63]
      rw [List.drop_zero, List.length_map, Nat.sub_zero, Nat.min_eq_right hlen]
      exact List.take_of_length_le (by rw [List.length_map]; exact Nat.le_refl _)
    refine ⟨.ref a, rfl, 63, rfl, a, _, rfl, hS, fun p hp => ?_⟩
    rw [hcut]
    refine ⟨p, rfl, ⟨_, SqL.of upd_same⟩, for_list (K := K) (a := p) (xs := ns.map V.int) (fun i σ H2 => ∃ (m : Int) (y : Option V), σ = [some (.ref a), some (.int m), y] ∧ 0 ≤ m ∧ m < 2147483399 ∧ H2 = upd H p (.lst (ns.map V.int)))
      ⟨3812, none, rfl, by decide, by decide, rfl⟩ (fun i σ H2 _ ⟨_, _, _, _, _, e⟩ => by rw [e]; exact SqL.of upd_same) ?_ ?_⟩
    · rintro i x σ H2 hx ⟨m, y, rfl, m0, m1, rfl⟩
      obtain ⟨z, rfl⟩ : ∃ z, x = V.int z := by
        rw [List.getElem?_map] at hx
        cases e : ns[i]? with
        | none =>
          rw [e] at hx
          cases hx
        | some z =>
          rw [e] at hx
          exact ⟨z, (Option.some.inj hx).symm⟩
      refine ⟨_, rfl, m, 40692, rfl, rfl, .inr ⟨by decide, by decide⟩, _, rfl, z, 2147483399, rfl, rfl, (by show (0 : Int) < 2147483399; decide), _, _, rfl, rfl, _, 17, rfl, rfl, _, 2147483399, rfl, rfl, (by show (0 : Int) < 2147483399; decide), ?_⟩
      exact ⟨_, _, rfl, Int.emod_nonneg _ (by decide), Int.emod_lt_of_pos _ (by decide), rfl⟩
    · rintro σ H2 ⟨m, y, rfl, m0, m1, rfl⟩
      have hS2 : SqL K (upd H p (.lst (ns.map V.int))) a (ns.map V.int) := (same_new hp).seq hS
      refine ⟨.ref a, rfl, 63, rfl, a, _, rfl, hS2, fun p2 hp2 => ?_⟩
      rw [hcut]
      refine ⟨p2, _, rfl, .inl (SqL.of upd_same), fun l hl => ?_⟩
      refine ⟨_, rfl, (by show 5 ≤ sizeLine; decide), fun b hb => ?_⟩
      have sm : Same H (upd (upd (upd (upd H p (.lst (ns.map V.int))) p2 (.lst (ns.map V.int))) l (.lst (ns.map V.int))) b (.lst [.ref l, .int 0, .int 0, .int m, .int 0])) := (same_new hp).trans ((same_new hp2).trans ((same_new hl).trans (same_new hb)))
      exact q b l _ (((same_new hp).trans ((same_new hp2).trans (same_new hl))).free hb) sm ⟨ns, 0, 0, m, 0, upd_same, same_new hb _ _ upd_same, Int.le_refl _, by omega, m0, m1⟩
end
/-! ### lists of ints that comprehensions make -/
def Pt (H : Hp) (D : Addr) (ns : List Int) (i : Nat) (H' : Hp) : Prop := Same H H' ∧ H' D = some (.lst ((ns.take i).map V.int))
theorem pt_step {H H' : Hp} {D : Addr} {ns : List Int} {i : Nat} {z : Int} (h : Pt H D ns i H') (hD : H D = none) (hz : ns[i]? = some z) : Pt H D ns (i + 1) (upd H' D (.lst ((ns.take i).map V.int ++ [.int z]))) := by
  refine ⟨fun a o e => (upd_ne (ne_of_none e hD)).trans (h.1 a o e), ?_⟩
  rw [upd_same, List.take_add_one, hz, List.map_append]
  rfl
theorem pt_size {ns : List Int} {i : Nat} (h : ns.length ≤ 1000) : ((ns.take i).map V.int).length < sizeLine := by
  rw [List.length_map, List.length_take]
  exact small1000 (by omega)
theorem pt_end {H H' : Hp} {D : Addr} {ns : List Int} {i : Nat} (h : Pt H D ns i H') (hi : ns.length ≤ i) : Same H H' ∧ H' D = some (.lst (ns.map V.int)) := by
  have := h.2
  rw [List.take_of_length_le hi] at this
  exact ⟨h.1, this⟩
/-! ### pairs -/
def PairAt (K : PySem.W.Frag) (H : Hp) (v : V) (x y : Int) : Prop := ∃ t : Addr, v = .ref t ∧ SqT K H t [.int x, .int y]
theorem PairAt.same {K : PySem.W.Frag} {H H' : Hp} {v : V} {x y : Int} (h : PairAt K H v x y) (s : Same H H') : PairAt K H' v x y := by
  obtain ⟨t, e, h⟩ := h
  exact ⟨t, e, Evl.ex_t (show Evl.Ex H H' from s) h⟩
inductive PairsAt (K : PySem.W.Frag) (H : Hp) : List V → List (Int × Int) → Prop
  | nil : PairsAt K H [] []
  | cons {v : V} {vs : List V} {x y : Int} {ps : List (Int × Int)} : PairAt K H v x y → PairsAt K H vs ps → PairsAt K H (v :: vs) ((x, y) :: ps)
theorem PairsAt.get {K : PySem.W.Frag} {H : Hp} : ∀ {vs : List V} {ps : List (Int × Int)}, PairsAt K H vs ps → ∀ {i : Nat} {v : V}, vs[i]? = some v → ∃ x y, ps[i]? = some (x, y) ∧ PairAt K H v x y
  | _, _, .nil, i, v, h => by simp at h
  | _, _, .cons p t, 0, v, h => by cases h; exact ⟨_, _, rfl, p⟩
  | _, _, .cons p t, i + 1, v, h => t.get (i := i) (by simpa using h)
theorem PairsAt.same {K : PySem.W.Frag} {H H' : Hp} (s : Same H H') : ∀ {vs : List V} {ps : List (Int × Int)}, PairsAt K H vs ps → PairsAt K H' vs ps
  | _, _, .nil => .nil
  | _, _, .cons p t => .cons (p.same s) (t.same s)
theorem PairsAt.len {K : PySem.W.Frag} {H : Hp} : ∀ {vs : List V} {ps : List (Int × Int)}, PairsAt K H vs ps → vs.length = ps.length
  | _, _, .nil => rfl
  | _, _, .cons p t => congrArg Nat.succ t.len
def s1 (ps : List (Int × Int)) : Int := (ps.map (·.1)).sum
def s2 (ps : List (Int × Int)) : Int := (ps.map (·.2)).sum
/-- a new pair -/
def NewPair (H : Hp) (x y : Int) (Q : VK) : Prop := ∀ p H', H p = none → Same H H' → H' p = some (.tup [.int x, .int y]) → Q (.ref p) H'
/-! ### scaled -/
section
variable {base : Heap} {K : PySem.W.Frag} {mg : Str → Option Value} {P : Program} {w : World}
def spScaled (K : PySem.W.Frag) : Sp := fun vs H Q _ => ∃ (v : V) (x y n : Int), vs = [v, .int n] ∧ PairAt K H v x y ∧ x.natAbs < 2 ^ 9000 ∧ y.natAbs < 2 ^ 9000 ∧ n.natAbs < 2 ^ 9000 ∧ NewPair H (x * n) (y * n) Q
theorem ok_scaled (T : Txt K mg) : FnOk P w K mg base CX0 1 T.f_scaled T.d_scaled ["pair", "number"] (spScaled K) := by
  refine T.F_scaled.ok sc_scaled (fun vs H Q E h => ?_) (fun cdv A outer s H vs Q E hr h => ?_)
  · obtain ⟨v, x, y, n, rfl, _⟩ := h
    rfl
  · obtain ⟨v, x, y, n, rfl, ⟨t, rfl, ht⟩, x1, y1, n1, q⟩ := h
    refine ⟨_, (pss_cons (ps_asg (pv 0) (pg_tup (by rfl) (pgs_cons (pg_name (i := 2) sc_scaled.nd rfl (Or.inl rfl)) (pgs_cons (pg_name (i := 3) sc_scaled.nd rfl (Or.inl rfl)) pgs_nil))))
      (pss_one (ps_ret (pe_tup (pa_cons (pe_op op_mulW (pv 2) (pv 1)) (pa_cons (pe_op op_mulW (pv 3) (pv 1)) pa_nil)))))), ?_⟩
    refine ⟨_, rfl, t, _, rfl, ht, rfl, .int x, [.int y], rfl, .int y, [], rfl, rfl, ?_⟩
    exact ⟨_, rfl, _, rfl, x, n, rfl, rfl, wide_mul x1 n1 (by decide) (by decide) (by decide), _, rfl, _, rfl, y, n, rfl, rfl, wide_mul y1 n1 (by decide) (by decide) (by decide), by show 2 ≤ sizeLine; decide, fun p hp => q p _ hp (same_new hp) upd_same⟩
end
/-! ### like -/
def Flat (x y : V) : Prop := (∃ i, x = .int i ∧ y = .int i) ∨ (∃ b, x = .bl b ∧ y = .bl b) ∨ (x = .non ∧ y = .non)
def Two (H : Hp) (p q : Addr) (xs ys : List V) : Prop := (H p = some (.tup xs) ∧ H q = some (.tup ys)) ∨ (H p = some (.lst xs) ∧ H q = some (.lst ys))
def Lk (H : Hp) : Nat → V → V → Prop
  | 0, x, y => Flat x y
  | n + 1, x, y => Flat x y ∨ ∃ (p q : Addr) (xs ys : List V), x = .ref p ∧ y = .ref q ∧ Two H p q xs ys ∧ xs.length = ys.length ∧ xs.length ≤ 1000 ∧ ∀ (i : Nat) (x y : V), xs[i]? = some x → ys[i]? = some y → Lk H n x y
theorem Two.same {H H' : Hp} {p q : Addr} {xs ys : List V} (h : Two H p q xs ys) (s : Same H H') : Two H' p q xs ys := by
  rcases h with ⟨a, b⟩ | ⟨a, b⟩
  · exact .inl ⟨s _ _ a, s _ _ b⟩
  · exact .inr ⟨s _ _ a, s _ _ b⟩
theorem Lk.same {H H' : Hp} (s : Same H H') : ∀ {n : Nat} {x y : V}, Lk H n x y → Lk H' n x y
  | 0, _, _, h => h
  | n + 1, _, _, h => by
    rcases h with h | ⟨p, q, xs, ys, e1, e2, t, l1, l2, a⟩
    · exact .inl h
    · exact .inr ⟨p, q, xs, ys, e1, e2, t.same s, l1, l2, fun i x y h1 h2 => (a i x y h1 h2).same s⟩
theorem Lk.flat {H : Hp} {n : Nat} {x y : V} (h : Flat x y) : Lk H n x y := match n with
  | 0 => h
  | _ + 1 => .inl h
section
variable {base : Heap} {K : PySem.W.Frag} {mg : Str → Option Value} {P : Program} {w : World}
def spLL (L : V → V → Hp → Prop) : Sp := fun vs H Q _ => ∃ x y : V, vs = [x, y] ∧ L x y H ∧ ∀ H', Same H H' → Q (.bl true) H'
theorem kit2 {a : String} {r1 r2 : Bool} (h1 : kitB a "tuple" = some r1) (h2 : kitB a "list" = some r2) : PySem.W.kitAny K (.type a) [.type "tuple", .type "list"] = some (r1 || r2) := by
  refine kitAny_cons (kit_ty h1) (fun e => ?_) (fun e => by rw [e]; rfl)
  subst e
  exact kitAny_cons (kit_ty h2) (fun e => by rw [e]; exact kitAny_nil) (fun e => by rw [e]; rfl)
theorem lk_core (T : Txt K mg) {k : Nat} {L L' : V → V → Hp → Prop} (G : FnOk P w K mg base CX0 k T.f_like T.d_like ["_law_found", "_law_due"] (spLL L')) (hs : ∀ x y H H', Same H H' → L' x y H → L' x y H')
    (hne : ∀ x y H, L x y H → Flat x y ∨ ∃ (p q : Addr) (xs ys : List V), x = .ref p ∧ y = .ref q ∧ Two H p q xs ys ∧ xs.length = ys.length ∧ xs.length ≤ 1000 ∧ ∀ (i : Nat) (x y : V), xs[i]? = some x → ys[i]? = some y → L' x y H) :
    FnOk P w K mg base CX0 (k + 1) T.f_like T.d_like ["_law_found", "_law_due"] (spLL L) := by
  refine T.F_like.ok sc_like (fun vs H Q E h => ?_) (fun cdv A outer s H vs Q E hr h => ?_)
  · obtain ⟨x, y, rfl, _⟩ := h
    rfl
  · obtain ⟨x, y, rfl, hl, qq⟩ := h
    refine ⟨_, (pss_cons (ps_if (pt_val (pe_callB call_isiT (by rfl) T.n_isinstance (by decide +kernel) (pa_cons (pv 1) (pa_cons (pe_tup (pa_cons (pe_bltn (v := .ty "tuple") (by rfl) T.n_tuple (by decide +kernel) rfl) (pa_cons (pe_bltn (v := .ty "list") (by rfl) T.n_list (by decide +kernel) rfl) pa_nil))) pa_nil)))) (pss_cons (ps_if (PW.pt (pw_or (pt_cmpR op_ne (pe_callB call_isi (by rfl) T.n_isinstance (by decide +kernel) (pa_cons (pv 0) (pa_cons (pe_bltn (v := .ty "tuple") (by rfl) T.n_tuple (by decide +kernel) rfl) pa_nil))) (pe_callB call_isi (by rfl) T.n_isinstance (by decide +kernel) (pa_cons (pv 1) (pa_cons (pe_bltn (v := .ty "tuple") (by rfl) T.n_tuple (by decide +kernel) rfl) pa_nil))) (nomark _)) (pw_or1 (pt_cmpR op_ne (pe_callB call_isi (by rfl) T.n_isinstance (by decide +kernel) (pa_cons (pv 0) (pa_cons (pe_bltn (v := .ty "list") (by rfl) T.n_list (by decide +kernel) rfl) pa_nil))) (pe_callB call_isi (by rfl) T.n_isinstance (by decide +kernel) (pa_cons (pv 1) (pa_cons (pe_bltn (v := .ty "list") (by rfl) T.n_list (by decide +kernel) rfl) pa_nil))) (nomark _))))) (pss_one (ps_ret pe_bl)) pss_nil)
      (pss_one (ps_ret (pe_and (pe_cmpR op_eq (pe_callB call_len_seq (by rfl) T.n_len (by decide +kernel) (pa_cons (pv 0) pa_nil)) (pe_callB call_len_seq (by rfl) T.n_len (by decide +kernel) (pa_cons (pv 1) pa_nil)) (nomark _)) (pe_one (pe_callB (cr_all rfl) (by rfl) T.n_all (by decide +kernel) (pa_cons (pe_lc (own := [("_law_k", 2)]) (g := (gName 2)) (tt := tYes) (te := tCall (spLL L') [] E0 (tCons (tOp (rIx K) _ _) (tCons (tOp (rIx K) _ _) _))) (by rfl) sc_like.nd (pi_range1 (by rfl) T.n_range (pa_cons (pe_callB call_len_seq (by rfl) T.n_len (by decide +kernel) (pa_cons (pv 1) pa_nil)) pa_nil)) (blkOk_by (own := [("_law_k", 2)]) (N := ["_law_found", "_law_due", "_law_k"]) (sc := defScope s_like) (by decide +kernel)) (fun _ _ _ _ _ => (pg_name (i := 2) sc_like.nd rfl (Or.inl rfl))) (fun _ _ _ _ _ => pts_nil) (fun _ _ _ _ _ => (pe_call G hr (by rfl) T.g_like T.F_like.kp T.b_like .nil pass0 (pa_cons (pe_ix ix_seq (pv 0) (pv 2) (fun _ _ => rfl)) (pa_cons (pe_ix ix_seq (pv 1) (pv 2) (fun _ _ => rfl)) pa_nil))))) pa_nil))))))) pss_nil)
      (pss_cons (ps_if (PW.pt (pw_or (pt_cmpR op_isN (pv 1) pe_non (nomark _)) (pw_or1 (pt_cmpR op_isN (pv 0) pe_non (nomark _))))) (pss_one (ps_ret (pe_and (pe_cmpR op_isN (pv 1) pe_non (nomark _)) (pe_one (pe_cmpR op_isN (pv 0) pe_non (nomark _)))))) pss_nil)
      (pss_one (ps_ret (pe_and (pe_cmpR op_eq (pe_callB call_isi (by rfl) T.n_isinstance (by decide +kernel) (pa_cons (pv 0) (pa_cons (pe_bltn (v := .ty "bool") (by rfl) T.n_bool (by decide +kernel) rfl) pa_nil))) (pe_callB call_isi (by rfl) T.n_isinstance (by decide +kernel) (pa_cons (pv 1) (pa_cons (pe_bltn (v := .ty "bool") (by rfl) T.n_bool (by decide +kernel) rfl) pa_nil))) (nomark _)) (pe_one (pe_cmpR op_eq (pv 0) (pv 1) (nomark _)))))))), ?_⟩
    refine ⟨_, rfl, by show 2 ≤ sizeLine; decide, fun tp htp => ?_⟩
    have sm := same_new (o := .tup [.ty "tuple", .ty "list"]) htp
    rcases hne x y H hl with (⟨i, rfl, rfl⟩ | ⟨b, rfl, rfl⟩ | ⟨rfl, rfl⟩) | ⟨p, q, xs, ys, rfl, rfl, hT, l1, l2, hA⟩
    · refine ⟨.int i, tp, [.ty "tuple", .ty "list"], .type "int", [.type "tuple", .type "list"], (false || false), rfl, upd_same, .cons (ClsV.ty _) (.cons (ClsV.ty _) .nil), TyX.base (TyOf.int _), kit2 (by decide +kernel) (by decide +kernel), _, rfl, iteF ?_⟩
      refine ⟨_, rfl, rfl, _, rfl, iteF ?_⟩
      refine ⟨_, rfl, rfl, _, rfl, iteF ?_⟩
      refine ⟨_, rfl, .int i, .ty "bool", _, _, false, rfl, ClsV.ty _, TyX.base (TyOf.int _), kit_ty (by decide +kernel), _, rfl, .int i, .ty "bool", _, _, false, rfl, ClsV.ty _, TyX.base (TyOf.int _), kit_ty (by decide +kernel), rfl, true, rfl, iteT ?_⟩
      refine ⟨_, rfl, _, rfl, rfl, ?_⟩
      rw [decide_eq_true rfl]
      exact qq _ sm
    · refine ⟨.bl b, tp, [.ty "tuple", .ty "list"], .type "bool", [.type "tuple", .type "list"], (false || false), rfl, upd_same, .cons (ClsV.ty _) (.cons (ClsV.ty _) .nil), TyX.base (TyOf.bl _), kit2 (by decide +kernel) (by decide +kernel), _, rfl, iteF ?_⟩
      refine ⟨_, rfl, rfl, _, rfl, iteF ?_⟩
      refine ⟨_, rfl, rfl, _, rfl, iteF ?_⟩
      refine ⟨_, rfl, .bl b, .ty "bool", _, _, true, rfl, ClsV.ty _, TyX.base (TyOf.bl _), kit_ty (by decide +kernel), _, rfl, .bl b, .ty "bool", _, _, true, rfl, ClsV.ty _, TyX.base (TyOf.bl _), kit_ty (by decide +kernel), rfl, true, rfl, iteT ?_⟩
      refine ⟨_, rfl, _, rfl, rfl, ?_⟩
      rw [decide_eq_true rfl]
      exact qq _ sm
    · refine ⟨.non, tp, [.ty "tuple", .ty "list"], .type "NoneType", [.type "tuple", .type "list"], (false || false), rfl, upd_same, .cons (ClsV.ty _) (.cons (ClsV.ty _) .nil), TyX.base TyOf.non, kit2 (by decide +kernel) (by decide +kernel), _, rfl, iteF ?_⟩
      refine ⟨_, rfl, rfl, _, rfl, iteT ?_⟩
      exact ⟨_, rfl, rfl, true, rfl, iteT ⟨_, rfl, rfl, qq _ sm⟩⟩
    · have hT' := hT.same sm
      rcases hT' with ⟨hp, hq⟩ | ⟨hp, hq⟩
      · refine ⟨.ref q, tp, [.ty "tuple", .ty "list"], .type "tuple", [.type "tuple", .type "list"], (true || false), rfl, upd_same, .cons (ClsV.ty _) (.cons (ClsV.ty _) .nil), TyX.base (TyOf.tup hq), kit2 (by decide +kernel) (by decide +kernel), _, rfl, iteT ?_⟩
        refine ⟨_, rfl, .ref p, .ty "tuple", _, _, true, rfl, ClsV.ty _, TyX.base (TyOf.tup hp), kit_ty (by decide +kernel), _, rfl, .ref q, .ty "tuple", _, _, true, rfl, ClsV.ty _, TyX.base (TyOf.tup hq), kit_ty (by decide +kernel), rfl, _, rfl, iteF ?_⟩
        refine ⟨_, rfl, .ref p, .ty "list", _, _, false, rfl, ClsV.ty _, TyX.base (TyOf.tup hp), kit_ty (by decide +kernel), _, rfl, .ref q, .ty "list", _, _, false, rfl, ClsV.ty _, TyX.base (TyOf.tup hq), kit_ty (by decide +kernel), rfl, _, rfl, iteF ?_⟩
        refine ⟨_, rfl, p, xs, rfl, .inr (SqT.of hp), _, rfl, q, ys, rfl, .inr (SqT.of hq), rfl, true, (by rw [l1, decide_eq_true rfl]), iteT ?_⟩
        refine ⟨_, rfl, q, ys, rfl, .inr (SqT.of hq), _, rfl, (by omega), (by omega), fun D hD => ?_⟩
        refine lc_range (lo := 0) (n := ys.length) (fun i H' => Same H H' ∧ H' D = some (.lst ((List.replicate i true).map V.bl))) ⟨sm.trans (same_new hD), upd_same⟩ ?_ ?_
        · rintro i H' hi ⟨sm', hd⟩
          obtain ⟨x1, e1, f1⟩ := at_some (xs := xs) (show 0 ≤ (0 : Int) + (i : Int) by omega) (by omega)
          obtain ⟨y1, e2, f2⟩ := at_some (xs := ys) (show 0 ≤ (0 : Int) + (i : Int) by omega) (by omega)
          rcases hT with ⟨hp0, hq0⟩ | ⟨hp0, hq0⟩
          · refine ⟨rfl, ⟨_, rfl, _, rfl, .inr (.inl ⟨p, xs, _, x1, rfl, rfl, SqT.of (sm' _ _ hp0), f1, _, rfl, _, rfl, .inr (.inl ⟨q, ys, _, y1, rfl, rfl, SqT.of (sm' _ _ hq0), f2, x1, y1, rfl, hs _ _ _ _ sm' (hA _ _ _ e1 e2), fun H2 s2 => ?_⟩)⟩)⟩⟩
            refine ⟨_, s2 _ _ hd, ?_, ?_, ?_⟩
            · rw [List.length_map, List.length_replicate]
              exact small1000 (by omega)
            · exact fun a o z => (upd_ne (ne_of_none z (sm.free hD))).trans (s2 _ _ (sm' a o z))
            · rw [upd_same, List.replicate_succ', List.map_append]
              rfl
          · exact absurd (sm _ _ hp0) (by rw [hp]; simp)
        · rintro H' ⟨sm', hd⟩
          refine ⟨D, _, rfl, SqL.of hd, ?_⟩
          rw [show (List.replicate ys.length true).all id = true by simp]
          exact qq _ sm'
      · refine ⟨.ref q, tp, [.ty "tuple", .ty "list"], .type "list", [.type "tuple", .type "list"], (false || true), rfl, upd_same, .cons (ClsV.ty _) (.cons (ClsV.ty _) .nil), TyX.base (TyOf.lst hq), kit2 (by decide +kernel) (by decide +kernel), _, rfl, iteT ?_⟩
        refine ⟨_, rfl, .ref p, .ty "tuple", _, _, false, rfl, ClsV.ty _, TyX.base (TyOf.lst hp), kit_ty (by decide +kernel), _, rfl, .ref q, .ty "tuple", _, _, false, rfl, ClsV.ty _, TyX.base (TyOf.lst hq), kit_ty (by decide +kernel), rfl, _, rfl, iteF ?_⟩
        refine ⟨_, rfl, .ref p, .ty "list", _, _, true, rfl, ClsV.ty _, TyX.base (TyOf.lst hp), kit_ty (by decide +kernel), _, rfl, .ref q, .ty "list", _, _, true, rfl, ClsV.ty _, TyX.base (TyOf.lst hq), kit_ty (by decide +kernel), rfl, _, rfl, iteF ?_⟩
        refine ⟨_, rfl, p, xs, rfl, .inl (SqL.of hp), _, rfl, q, ys, rfl, .inl (SqL.of hq), rfl, true, (by rw [l1, decide_eq_true rfl]), iteT ?_⟩
        refine ⟨_, rfl, q, ys, rfl, .inl (SqL.of hq), _, rfl, (by omega), (by omega), fun D hD => ?_⟩
        refine lc_range (lo := 0) (n := ys.length) (fun i H' => Same H H' ∧ H' D = some (.lst ((List.replicate i true).map V.bl))) ⟨sm.trans (same_new hD), upd_same⟩ ?_ ?_
        · rintro i H' hi ⟨sm', hd⟩
          obtain ⟨x1, e1, f1⟩ := at_some (xs := xs) (show 0 ≤ (0 : Int) + (i : Int) by omega) (by omega)
          obtain ⟨y1, e2, f2⟩ := at_some (xs := ys) (show 0 ≤ (0 : Int) + (i : Int) by omega) (by omega)
          rcases hT with ⟨hp0, hq0⟩ | ⟨hp0, hq0⟩
          · exact absurd (sm _ _ hp0) (by rw [hp]; simp)
          · refine ⟨rfl, ⟨_, rfl, _, rfl, .inl ⟨p, xs, _, x1, rfl, rfl, SqL.of (sm' _ _ hp0), f1, _, rfl, _, rfl, .inl ⟨q, ys, _, y1, rfl, rfl, SqL.of (sm' _ _ hq0), f2, x1, y1, rfl, hs _ _ _ _ sm' (hA _ _ _ e1 e2), fun H2 s2 => ?_⟩⟩⟩⟩
            refine ⟨_, s2 _ _ hd, ?_, ?_, ?_⟩
            · rw [List.length_map, List.length_replicate]
              exact small1000 (by omega)
            · exact fun a o z => (upd_ne (ne_of_none z (sm.free hD))).trans (s2 _ _ (sm' a o z))
            · rw [upd_same, List.replicate_succ', List.map_append]
              rfl
        · rintro H' ⟨sm', hd⟩
          refine ⟨D, _, rfl, SqL.of hd, ?_⟩
          rw [show (List.replicate ys.length true).all id = true by simp]
          exact qq _ sm'
theorem ok_likeN (T : Txt K mg) : ∀ n : Nat, FnOk P w K mg base CX0 (n + 1) T.f_like T.d_like ["_law_found", "_law_due"] (spLL fun x y H => Lk H n x y)
  | 0 => lk_core T (L' := fun _ _ _ => False) ⟨fun _ _ _ _ ⟨_, _, _, h, _⟩ => h.elim, fun _ _ _ _ _ _ _ _ _ _ _ _ _ ⟨_, _, _, h, _⟩ => h.elim⟩ (fun _ _ _ _ _ h => h) fun x y H h => .inl h
  | n + 1 => lk_core T (ok_likeN T n) (fun _ _ _ _ s h => h.same s) fun x y H h => h
theorem ok_like (T : Txt K mg) : FnOk P w K mg base CX0 4 T.f_like T.d_like ["_law_found", "_law_due"] (spLL fun x y H => Lk H 3 x y) := ok_likeN T 3
end
/-! ### a pair of one of two kinds -/
def tDraw (i : Nat) : TE := tCall spOf [] E0 (tCons (tVar i) (tCons (tLst (tCons (tCall spAnyPair [] E0 (tCons (tVar i) tNil)) (tCons (tTup (tCons (tCall spANumber [] E0 (tCons (tVar i) tNil)) (tCons (tCall spANumber [] E0 (tCons (tVar i) tNil)) tNil))) tNil))) tNil))
theorem draw_ok {i : Nat} {σ : L2.St} {H : Hp} {Q : VK} {b sb : Addr} (hσ : σ[i]? = some (some (.ref b))) (B : Bag H b sb)
    (q : ∀ p x y H', H' p = some (.tup [.int x, .int y]) → p ≠ b → x.natAbs ≤ 10 ^ 18 → y.natAbs ≤ 10 ^ 18 → Bag H' b sb → Keep b H H' → Q (.ref p) H') : tDraw i σ H Q := by
  refine ⟨.ref b, hσ, .ref b, hσ, b, sb, rfl, B, fun x1 z1 p1 H1 a1 a2 a3 a4 n1 h1 B1 k1 => ?_⟩
  refine ⟨.ref b, hσ, b, sb, rfl, B1, fun x2 H2 a5 a6 B2 k2 => ?_⟩
  refine ⟨.ref b, hσ, b, sb, rfl, B2, fun z2 H3 a7 a8 B3 k3 => ⟨by show 2 ≤ sizeLine; decide, fun p2 hp2 => ?_⟩⟩
  have B4 := B3.new (o := .tup [.int x2, .int z2]) hp2
  refine ⟨by show 2 ≤ sizeLine; decide, fun l hl => ?_⟩
  have B5 := B4.new (o := .lst [.ref p1, .ref p2]) hl
  refine ⟨b, sb, l, _, rfl, B5, upd_same, B4.ne hl, by simp, by simp, fun j v H6 hv B6 k6 => ?_⟩
  have k5 : Keep b H3 H6 := (keep_new hp2).trans ((keep_new hl).trans k6)
  have kk : Keep b H H6 := k1.trans (k2.trans (k3.trans k5))
  match j, hv with
  | 0, hv =>
    cases hv
    exact q p1 x1 z1 H6 ((k2.trans (k3.trans k5)) _ _ (B.ne n1) h1) (B.ne n1) (by omega) (by omega) B6 kk
  | 1, hv =>
    cases hv
    exact q p2 x2 z2 H6 (((keep_new hl).trans k6) _ _ (B3.ne hp2) upd_same) (B3.ne hp2) (by omega) (by omega) B6 kk
  | n + 2, hv => simp at hv
/-- what is drawn: pairs at places that are not the bag's -/
inductive Dr (H : Hp) : List V → List (Int × Int) → Prop
  | nil : Dr H [] []
  | cons {p : Addr} {vs : List V} {x y : Int} {ps : List (Int × Int)} : H p = some (.tup [.int x, .int y]) → x.natAbs ≤ 10 ^ 18 → y.natAbs ≤ 10 ^ 18 → Dr H vs ps → Dr H (.ref p :: vs) ((x, y) :: ps)
theorem Dr.inv {H : Hp} {v : V} {vs : List V} {ps : List (Int × Int)} (h : Dr H (v :: vs) ps) : ∃ (p : Addr) (x y : Int) (ps' : List (Int × Int)), v = .ref p ∧ ps = (x, y) :: ps' ∧ H p = some (.tup [.int x, .int y]) ∧ x.natAbs ≤ 10 ^ 18 ∧ y.natAbs ≤ 10 ^ 18 ∧ Dr H vs ps' := by
  cases h with
  | cons h a b t => exact ⟨_, _, _, _, rfl, rfl, h, a, b, t⟩
theorem Dr.keep {H H' : Hp} (k : ∀ p xs, H p = some (.tup xs) → H' p = some (.tup xs)) : ∀ {vs : List V} {ps : List (Int × Int)}, Dr H vs ps → Dr H' vs ps
  | _, _, .nil => .nil
  | _, _, .cons h a b t => .cons (k _ _ h) a b (t.keep k)
theorem Dr.snoc {H : Hp} {p : Addr} {x y : Int} (h : H p = some (.tup [.int x, .int y])) (a : x.natAbs ≤ 10 ^ 18) (b : y.natAbs ≤ 10 ^ 18) : ∀ {vs : List V} {ps : List (Int × Int)}, Dr H vs ps → Dr H (vs ++ [.ref p]) (ps ++ [(x, y)])
  | _, _, .nil => .cons h a b .nil
  | _, _, .cons h' a' b' t => .cons h' a' b' (t.snoc h a b)
theorem Dr.at {K : PySem.W.Frag} {H : Hp} : ∀ {vs : List V} {ps : List (Int × Int)}, Dr H vs ps → PairsAt K H vs ps
  | _, _, .nil => .nil
  | _, _, .cons h _ _ t => .cons ⟨_, rfl, SqT.of h⟩ t.at
theorem tup_keep {H H' : Hp} {b sb : Addr} (B : Bag H b sb) (k : Keep b H H') (p : Addr) (xs : List V) (h : H p = some (.tup xs)) : H' p = some (.tup xs) := k _ _ (B.tup h) h
theorem tup_put {H : Hp} {l : Addr} {ys zs : List V} (hl : H l = some (.lst ys)) (p : Addr) (xs : List V) (h : H p = some (.tup xs)) : (upd H l (.lst zs)) p = some (.tup xs) := (upd_ne (ne_of h hl (by intro z; cases z))).trans h
theorem tup_same {H H' : Hp} (s : Same H H') (p : Addr) (xs : List V) (h : H p = some (.tup xs)) : H' p = some (.tup xs) := s _ _ h
/-! ### alike, from its parts -/
inductive LkAll (H : Hp) (n : Nat) : List V → List V → Prop
  | nil : LkAll H n [] []
  | cons {x y : V} {xs ys : List V} : Lk H n x y → LkAll H n xs ys → LkAll H n (x :: xs) (y :: ys)
theorem LkAll.get {H : Hp} {n : Nat} : ∀ {xs ys : List V}, LkAll H n xs ys → xs.length = ys.length ∧ ∀ (i : Nat) (x y : V), xs[i]? = some x → ys[i]? = some y → Lk H n x y
  | _, _, .nil => ⟨rfl, fun i x y h => by simp at h⟩
  | _, _, .cons h t => ⟨congrArg Nat.succ t.get.1, fun i x y h1 h2 => match i, h1, h2 with
    | 0, h1, h2 => by cases h1; cases h2; exact h
    | i + 1, h1, h2 => t.get.2 i x y (by simpa using h1) (by simpa using h2)⟩
theorem Lk.lists {H : Hp} {n : Nat} {p q : Addr} {xs ys : List V} (hp : H p = some (.lst xs)) (hq : H q = some (.lst ys)) (hl : xs.length ≤ 1000) (h : LkAll H n xs ys) : Lk H (n + 1) (.ref p) (.ref q) := .inr ⟨p, q, xs, ys, rfl, rfl, .inr ⟨hp, hq⟩, h.get.1, hl, h.get.2⟩
theorem Lk.tups {H : Hp} {n : Nat} {p q : Addr} {xs ys : List V} (hp : H p = some (.tup xs)) (hq : H q = some (.tup ys)) (hl : xs.length ≤ 1000) (h : LkAll H n xs ys) : Lk H (n + 1) (.ref p) (.ref q) := .inr ⟨p, q, xs, ys, rfl, rfl, .inl ⟨hp, hq⟩, h.get.1, hl, h.get.2⟩
theorem Lk.int {H : Hp} {n : Nat} {i j : Int} (e : i = j) : Lk H n (.int i) (.int j) := Lk.flat (.inl ⟨i, rfl, by rw [e]⟩)
theorem Lk.bl {H : Hp} {n : Nat} {i j : Bool} (e : i = j) : Lk H n (.bl i) (.bl j) := Lk.flat (.inr (.inl ⟨i, rfl, by rw [e]⟩))
theorem Lk.pair {H : Hp} {n : Nat} {p q : Addr} {x y x' y' : Int} (hp : H p = some (.tup [.int x, .int y])) (hq : H q = some (.tup [.int x', .int y'])) (e1 : x = x') (e2 : y = y') : Lk H (n + 1) (.ref p) (.ref q) :=
  .tups hp hq (by simp) (.cons (.int e1) (.cons (.int e2) .nil))
/-! ### tables -/
/-- two pairs, as they are handed in -/
def CellsK (K : PySem.W.Frag) (H : Hp) (r : V) (a b c e : Int) : Prop := ∃ t u v : Addr, r = .ref t ∧ SqT K H t [.ref u, .ref v] ∧ SqT K H u [.int a, .int b] ∧ SqT K H v [.int c, .int e]
/-- two pairs that the program has made -/
def CellsAt (H : Hp) (t : Addr) (a b c e : Int) : Prop := ∃ u v : Addr, H t = some (.tup [.ref u, .ref v]) ∧ H u = some (.tup [.int a, .int b]) ∧ H v = some (.tup [.int c, .int e])
def TabAt (C : Addr) (H : Hp) (p : Addr) (a b c e : Int) : Prop := ∃ dx t : Addr, H p = some (.ins C dx [("cells", .ref t)]) ∧ CellsAt H t a b c e
theorem CellsAt.same {H H' : Hp} {t : Addr} {a b c e : Int} (h : CellsAt H t a b c e) (s : Same H H') : CellsAt H' t a b c e := by
  obtain ⟨u, v, h1, h2, h3⟩ := h
  exact ⟨u, v, s _ _ h1, s _ _ h2, s _ _ h3⟩
theorem CellsAt.k {K : PySem.W.Frag} {H : Hp} {t : Addr} {a b c e : Int} (h : CellsAt H t a b c e) : CellsK K H (.ref t) a b c e := by
  obtain ⟨u, v, h1, h2, h3⟩ := h
  exact ⟨t, u, v, rfl, SqT.of h1, SqT.of h2, SqT.of h3⟩
theorem TabAt.same {C : Addr} {H H' : Hp} {p : Addr} {a b c e : Int} (h : TabAt C H p a b c e) (s : Same H H') : TabAt C H' p a b c e := by
  obtain ⟨dx, t, h1, h2⟩ := h
  exact ⟨dx, t, s _ _ h1, h2.same s⟩
theorem CellsAt.keep {H H' : Hp} {bg sb t : Addr} {a b c e : Int} (h : CellsAt H t a b c e) (B : Bag H bg sb) (k : Keep bg H H') : CellsAt H' t a b c e := by
  obtain ⟨u, v, h1, h2, h3⟩ := h
  exact ⟨u, v, k _ _ (B.tup h1) h1, k _ _ (B.tup h2) h2, k _ _ (B.tup h3) h3⟩
theorem TabAt.keep {C : Addr} {H H' : Hp} {bg sb p : Addr} {a b c e : Int} (h : TabAt C H p a b c e) (B : Bag H bg sb) (k : Keep bg H H') : TabAt C H' p a b c e := by
  obtain ⟨dx, t, h1, h2⟩ := h
  refine ⟨dx, t, k _ _ ?_ h1, h2.keep B k⟩
  obtain ⟨ns, i, j, m, c', B⟩ := B
  exact ne_of h1 B.hb (by intro z; cases z)
section
variable {base : Heap} {K : PySem.W.Frag} {mg : Str → Option Value} {P : Program} {w : World}
def spTInit (K : PySem.W.Frag) (C : Addr) : Sp := fun vs H Q _ => ∃ (p dx : Addr) (r : V) (a b c e : Int), vs = [.ref p, r] ∧ H p = some (.ins C dx []) ∧ CellsK K H r a b c e ∧ ∀ H', TabAt C H' p a b c e → (∀ q o, H q = some o → q ≠ p → H' q = some o) → Q .non H'
theorem ok_Table_init (T : Txt K mg) : FnOk P w K mg base CX0 1 T.f_Table_init T.d_Table_init ["self", "rows"] (spTInit K T.C_Table) := by
  refine T.F_Table_init.ok sc_Table_init (fun vs H Q E h => ?_) (fun cdv A outer s H vs Q E hr h => ?_)
  · obtain ⟨p, dx, r, a, b, c, e, rfl, _⟩ := h
    rfl
  · obtain ⟨p, dx, r, a, b, c, e, rfl, hp, ⟨t, u, v, rfl, ht, hu, hv⟩, q⟩ := h
    refine ⟨_, PSs.nox (pss_cons (ps_asg (pv 1) (pg_tup (by rfl) (pgs_cons (pg_tup (by rfl) (pgs_cons (pg_name (i := 2) sc_Table_init.nd rfl (Or.inl rfl)) (pgs_cons (pg_name (i := 3) sc_Table_init.nd rfl (Or.inl rfl)) pgs_nil))) (pgs_cons (pg_tup (by rfl) (pgs_cons (pg_name (i := 4) sc_Table_init.nd rfl (Or.inl rfl)) (pgs_cons (pg_name (i := 5) sc_Table_init.nd rfl (Or.inl rfl)) pgs_nil))) pgs_nil))))
      (pss_one (ps_fld (pv 0) (pe_tup (pa_cons (pe_tup (pa_cons (pv 2) (pa_cons (pv 3) pa_nil))) (pa_cons (pe_tup (pa_cons (pv 4) (pa_cons (pv 5) pa_nil))) pa_nil))) rfl))), ?_⟩
    refine ⟨_, rfl, t, _, rfl, ht, rfl, .ref u, _, rfl, u, _, rfl, hu, rfl, .int a, _, rfl, .int b, _, rfl, rfl, .ref v, _, rfl, v, _, rfl, hv, rfl, .int c, _, rfl, .int e, _, rfl, rfl, rfl, ?_⟩
    refine ⟨_, rfl, _, rfl, by show 2 ≤ sizeLine; decide, fun u1 n1 => ⟨_, rfl, _, rfl, by show 2 ≤ sizeLine; decide, fun v1 n2 => ⟨by show 2 ≤ sizeLine; decide, fun t1 n3 => ?_⟩⟩⟩
    have e1 := same_new (o := .tup [.int a, .int b]) n1
    have e2 := same_new (o := .tup [.int c, .int e]) n2
    have e3 := same_new (o := .tup [.ref u1, .ref v1]) n3
    have ee := e1.trans (e2.trans e3)
    refine ⟨_, rfl, p, T.C_Table, dx, [], rfl, ee _ _ hp, T.cl_Table, T.n_Table_cells, (by show 0 < 1000; decide), ?_⟩
    have np1 : u1 ≠ p := (ne_of_none hp n1).symm
    have np2 : v1 ≠ p := (ne_of_none (e1 _ _ hp) n2).symm
    have np3 : t1 ≠ p := (ne_of_none ((e1.trans e2) _ _ hp) n3).symm
    refine q _ ⟨dx, t1, upd_same, u1, v1, (upd_ne np3).trans upd_same, (upd_ne np1).trans ((e2.trans e3) _ _ upd_same), (upd_ne np2).trans (e3 _ _ upd_same)⟩ fun q1 o h1 h2 => (upd_ne h2).trans (ee _ _ h1)
theorem mk_tab {C : Addr} {H : Hp} {r : V} {a b c e : Int} {R : Addr → Hp → Prop} {E : XK} (hr : CellsK K H r a b c e) (q : ∀ x H', H x = none → Same H H' → TabAt C H' x a b c e → R x H') :
    ∀ x dx, H x = none → H dx = none → dx ≠ x → spTInit K C [.ref x, r] (upd (upd H dx (.own x)) x (.ins C dx [])) (fun v H2 => v = .non ∧ R x H2) E := by
  intro x dx nx nd ne
  have s1 : Same H (upd (upd H dx (.own x)) x (.ins C dx [])) := fun b o z => by
    rw [upd_ne (ne_of_none z nx), upd_ne (ne_of_none z nd)]
    exact z
  obtain ⟨t, u, v, rfl, h1, h2, h3⟩ := hr
  exact ⟨x, dx, _, a, b, c, e, rfl, upd_same, ⟨t, u, v, rfl, Evl.ex_t s1 h1, Evl.ex_t s1 h2, Evl.ex_t s1 h3⟩, fun H' hT hk => ⟨rfl, q x H' nx (fun p o z => hk p o (s1 p o z) (ne_of_none z nx)) hT⟩⟩
def spRows (C : Addr) : Sp := fun vs H Q _ => ∃ (p : Addr) (a b c e : Int), vs = [.ref p] ∧ TabAt C H p a b c e ∧ ∀ t, CellsAt H t a b c e → Q (.ref t) H
theorem ok_Table_rows (T : Txt K mg) : FnOk P w K mg base CX0 1 T.f_Table_rows T.d_Table_rows ["self"] (spRows T.C_Table) := by
  refine T.F_Table_rows.ok sc_Table_rows (fun vs H Q E h => ?_) (fun cdv A outer s H vs Q E hr h => ?_)
  · obtain ⟨p, a, b, c, e, rfl, _⟩ := h
    rfl
  · obtain ⟨p, a, b, c, e, rfl, ⟨dx, t, hp, ht⟩, q⟩ := h
    exact ⟨_, (pss_one (ps_ret (pe_fld (pv 0) rfl))), _, rfl, p, T.C_Table, dx, _, _, rfl, hp, T.cl_Table, T.n_Table_cells, rfl, q t ht⟩
end
/-! ### the formulas of a table -/
def Bd (n : Nat) (xs : List Int) : Prop := ∀ x ∈ xs, x.natAbs < 2 ^ n
theorem bd_w {n m : Nat} {x : Int} (h : x.natAbs < 2 ^ n) (l : n ≤ m) : x.natAbs < 2 ^ m := Nat.lt_of_lt_of_le h (Nat.pow_le_pow_right (by decide) l)
theorem bd_a {n : Nat} {x y : Int} (h1 : x.natAbs < 2 ^ n) (h2 : y.natAbs < 2 ^ n) : (x + y).natAbs < 2 ^ (n + 1) := by
  rw [Nat.pow_succ]
  omega
section
variable {base : Heap} {K : PySem.W.Frag} {mg : Str → Option Value} {P : Program} {w : World}
def spArea (C : Addr) : Sp := fun vs H Q _ => ∃ (p : Addr) (a b c e d : Int), vs = [.ref p, .int d] ∧ TabAt C H p a b c e ∧ -(2 ^ 64) < d ∧ d < 2 ^ 64 ∧ NewPair H (a + d * e) (b + c) Q
theorem ok_Table_area_for (T : Txt K mg) : FnOk P w K mg base CX0 1 T.f_Table_area_for T.d_Table_area_for ["self", "root"] (spArea T.C_Table) := by
  refine T.F_Table_area_for.ok sc_Table_area_for (fun vs H Q E h => ?_) (fun cdv A outer s H vs Q E hr h => ?_)
  · obtain ⟨p, a, b, c, e, d, rfl, _⟩ := h
    rfl
  · obtain ⟨p, a, b, c, e, d, rfl, ⟨dx, t, hp, u, v, ht, hu, hv⟩, d1, d2, q⟩ := h
    refine ⟨_, (pss_cons (ps_asg (pe_fld (pv 0) rfl) (pg_tup (by rfl) (pgs_cons (pg_tup (by rfl) (pgs_cons (pg_name (i := 2) sc_Table_area_for.nd rfl (Or.inl rfl)) (pgs_cons (pg_name (i := 3) sc_Table_area_for.nd rfl (Or.inl rfl)) pgs_nil))) (pgs_cons (pg_tup (by rfl) (pgs_cons (pg_name (i := 4) sc_Table_area_for.nd rfl (Or.inl rfl)) (pgs_cons (pg_name (i := 5) sc_Table_area_for.nd rfl (Or.inl rfl)) pgs_nil))) pgs_nil))))
      (pss_one (ps_ret (pe_tup (pa_cons (pe_op op_add (pv 2) (pe_op op_mul (pv 1) (pv 5))) (pa_cons (pe_op op_add (pv 3) (pv 4)) pa_nil)))))), ?_⟩
    refine ⟨_, rfl, p, T.C_Table, dx, _, _, rfl, hp, T.cl_Table, T.n_Table_cells, rfl, t, _, rfl, SqT.of ht, rfl, .ref u, _, rfl, u, _, rfl, SqT.of hu, rfl, .int a, _, rfl, .int b, _, rfl, rfl, .ref v, _, rfl, v, _, rfl, SqT.of hv, rfl, .int c, _, rfl, .int e, _, rfl, rfl, rfl, ?_⟩
    exact ⟨_, rfl, _, rfl, _, rfl, d, e, rfl, rfl, .inl ⟨d1, d2⟩, a, _, rfl, rfl, _, rfl, _, rfl, b, c, rfl, rfl, by show 2 ≤ sizeLine; decide, fun p hp => q p _ hp (same_new hp) upd_same⟩
def spMarks (C : Addr) : Sp := fun vs H Q _ => ∃ (p : Addr) (a b c e : Int) (k : Bool), vs = [.ref p, .bl k] ∧ TabAt C H p a b c e ∧
  ∀ p H', H p = none → Same H H' → H' p = some (.tup (if k then [.int a, .int (b + c), .int e] else [.int a, .int b, .int c, .int e])) → Q (.ref p) H'
theorem ok_Table_marks (T : Txt K mg) : FnOk P w K mg base CX0 1 T.f_Table_marks T.d_Table_marks ["self", "turning"] (spMarks T.C_Table) := by
  refine T.F_Table_marks.ok sc_Table_marks (fun vs H Q E h => ?_) (fun cdv A outer s H vs Q E hr h => ?_)
  · obtain ⟨p, a, b, c, e, k, rfl, _⟩ := h
    rfl
  · obtain ⟨p, a, b, c, e, k, rfl, ⟨dx, t, hp, u, v, ht, hu, hv⟩, q⟩ := h
    refine ⟨_, (pss_cons (ps_asg (pe_fld (pv 0) rfl) (pg_tup (by rfl) (pgs_cons (pg_tup (by rfl) (pgs_cons (pg_name (i := 2) sc_Table_marks.nd rfl (Or.inl rfl)) (pgs_cons (pg_name (i := 3) sc_Table_marks.nd rfl (Or.inl rfl)) pgs_nil))) (pgs_cons (pg_tup (by rfl) (pgs_cons (pg_name (i := 4) sc_Table_marks.nd rfl (Or.inl rfl)) (pgs_cons (pg_name (i := 5) sc_Table_marks.nd rfl (Or.inl rfl)) pgs_nil))) pgs_nil))))
      (pss_cons (ps_if (pt_val (pv 1)) (pss_one (ps_ret (pe_tup (pa_cons (pv 2) (pa_cons (pe_op op_add (pv 3) (pv 4)) (pa_cons (pv 5) pa_nil)))))) pss_nil)
      (pss_one (ps_ret (pe_tup (pa_cons (pv 2) (pa_cons (pv 3) (pa_cons (pv 4) (pa_cons (pv 5) pa_nil))))))))), ?_⟩
    refine ⟨_, rfl, p, T.C_Table, dx, _, _, rfl, hp, T.cl_Table, T.n_Table_cells, rfl, t, _, rfl, SqT.of ht, rfl, .ref u, _, rfl, u, _, rfl, SqT.of hu, rfl, .int a, _, rfl, .int b, _, rfl, rfl, .ref v, _, rfl, v, _, rfl, SqT.of hv, rfl, .int c, _, rfl, .int e, _, rfl, rfl, rfl, ?_⟩
    refine ⟨_, rfl, k, rfl, ?_⟩
    cases k with
    | true => exact iteT ⟨_, rfl, _, rfl, _, rfl, b, c, rfl, rfl, _, rfl, by show 3 ≤ sizeLine; decide, fun p hp => q p _ hp (same_new hp) upd_same⟩
    | false => exact iteF ⟨_, rfl, _, rfl, _, rfl, _, rfl, by show 4 ≤ sizeLine; decide, fun p hp => q p _ hp (same_new hp) upd_same⟩
def spWeight (K : PySem.W.Frag) (C : Addr) : Sp := fun vs H Q _ => ∃ (p : Addr) (r : V) (a b c e x y : Int), vs = [.ref p, r] ∧ TabAt C H p a b c e ∧ PairAt K H r x y ∧ Bd 9000 [a, b, c, e, x, y] ∧ Q (.int (a * x * x + (b + c) * x * y + e * y * y)) H
theorem ok_Table_weight (T : Txt K mg) : FnOk P w K mg base CX0 1 T.f_Table_weight T.d_Table_weight ["self", "pair"] (spWeight K T.C_Table) := by
  refine T.F_Table_weight.ok sc_Table_weight (fun vs H Q E h => ?_) (fun cdv A outer s H vs Q E hr h => ?_)
  · obtain ⟨p, r, a, b, c, e, x, y, rfl, _⟩ := h
    rfl
  · obtain ⟨p, r, a, b, c, e, x, y, rfl, ⟨dx, t, hp, u, v, ht, hu, hv⟩, ⟨tr, rfl, hr1⟩, bd, q⟩ := h
    have ba := bd a (by simp)
    have bb := bd b (by simp)
    have bc := bd c (by simp)
    have be := bd e (by simp)
    have bx := bd x (by simp)
    have bY := bd y (by simp)
    refine ⟨_, (pss_cons (ps_asg (pv 1) (pg_tup (by rfl) (pgs_cons (pg_name (i := 2) sc_Table_weight.nd rfl (Or.inl rfl)) (pgs_cons (pg_name (i := 3) sc_Table_weight.nd rfl (Or.inl rfl)) pgs_nil))))
      (pss_cons (ps_asg (pe_fld (pv 0) rfl) (pg_tup (by rfl) (pgs_cons (pg_tup (by rfl) (pgs_cons (pg_name (i := 4) sc_Table_weight.nd rfl (Or.inl rfl)) (pgs_cons (pg_name (i := 5) sc_Table_weight.nd rfl (Or.inl rfl)) pgs_nil))) (pgs_cons (pg_tup (by rfl) (pgs_cons (pg_name (i := 6) sc_Table_weight.nd rfl (Or.inl rfl)) (pgs_cons (pg_name (i := 7) sc_Table_weight.nd rfl (Or.inl rfl)) pgs_nil))) pgs_nil))))
      (pss_one (ps_ret (pe_op op_add (pe_op op_add (pe_op op_mulW (pe_op op_mulW (pv 4) (pv 2)) (pv 2)) (pe_op op_mulW (pe_op op_mulW (pe_op op_add (pv 5) (pv 6)) (pv 2)) (pv 3))) (pe_op op_mulW (pe_op op_mulW (pv 7) (pv 3)) (pv 3))))))), ?_⟩
    refine ⟨_, rfl, tr, _, rfl, hr1, rfl, .int x, _, rfl, .int y, _, rfl, rfl, ?_⟩
    refine ⟨_, rfl, p, T.C_Table, dx, _, _, rfl, hp, T.cl_Table, T.n_Table_cells, rfl, t, _, rfl, SqT.of ht, rfl, .ref u, _, rfl, u, _, rfl, SqT.of hu, rfl, .int a, _, rfl, .int b, _, rfl, rfl, .ref v, _, rfl, v, _, rfl, SqT.of hv, rfl, .int c, _, rfl, .int e, _, rfl, rfl, rfl, ?_⟩
    exact ⟨_, rfl, _, rfl, a, x, rfl, rfl, wide_mul ba bx (by decide) (by decide) (by decide), _, rfl, _, x, rfl, rfl, wide_mul (wide_lt ba bx) bx (by decide) (by decide) (by decide),
      _, rfl, _, rfl, b, c, rfl, rfl, _, rfl, _, x, rfl, rfl, wide_mul (bd_a bb bc) bx (by decide) (by decide) (by decide), _, rfl, _, y, rfl, rfl, wide_mul (wide_lt (bd_a bb bc) bx) bY (by decide) (by decide) (by decide), _, _, rfl, rfl,
      _, rfl, _, rfl, e, y, rfl, rfl, wide_mul be bY (by decide) (by decide) (by decide), _, rfl, _, y, rfl, rfl, wide_mul (wide_lt be bY) bY (by decide) (by decide) (by decide), _, _, rfl, rfl, q⟩
def spDet (C : Addr) : Sp := fun vs H Q _ => ∃ (p : Addr) (a b c e : Int), vs = [.ref p] ∧ TabAt C H p a b c e ∧ Bd 9000 [a, b, c, e] ∧ Q (.int (a * e - b * c)) H
theorem ok_Table_determinant (T : Txt K mg) : FnOk P w K mg base CX0 1 T.f_Table_determinant T.d_Table_determinant ["self"] (spDet T.C_Table) := by
  refine T.F_Table_determinant.ok sc_Table_determinant (fun vs H Q E h => ?_) (fun cdv A outer s H vs Q E hr h => ?_)
  · obtain ⟨p, a, b, c, e, rfl, _⟩ := h
    rfl
  · obtain ⟨p, a, b, c, e, rfl, ⟨dx, t, hp, u, v, ht, hu, hv⟩, bd, q⟩ := h
    have ba := bd a (by simp)
    have bb := bd b (by simp)
    have bc := bd c (by simp)
    have be := bd e (by simp)
    refine ⟨_, (pss_cons (ps_asg (pe_fld (pv 0) rfl) (pg_tup (by rfl) (pgs_cons (pg_tup (by rfl) (pgs_cons (pg_name (i := 1) sc_Table_determinant.nd rfl (Or.inl rfl)) (pgs_cons (pg_name (i := 2) sc_Table_determinant.nd rfl (Or.inl rfl)) pgs_nil))) (pgs_cons (pg_tup (by rfl) (pgs_cons (pg_name (i := 3) sc_Table_determinant.nd rfl (Or.inl rfl)) (pgs_cons (pg_name (i := 4) sc_Table_determinant.nd rfl (Or.inl rfl)) pgs_nil))) pgs_nil))))
      (pss_one (ps_ret (pe_op op_sub (pe_op op_mulW (pv 1) (pv 4)) (pe_op op_mulW (pv 2) (pv 3)))))), ?_⟩
    refine ⟨_, rfl, p, T.C_Table, dx, _, _, rfl, hp, T.cl_Table, T.n_Table_cells, rfl, t, _, rfl, SqT.of ht, rfl, .ref u, _, rfl, u, _, rfl, SqT.of hu, rfl, .int a, _, rfl, .int b, _, rfl, rfl, .ref v, _, rfl, v, _, rfl, SqT.of hv, rfl, .int c, _, rfl, .int e, _, rfl, rfl, rfl, ?_⟩
    exact ⟨_, rfl, _, rfl, a, e, rfl, rfl, wide_mul ba be (by decide) (by decide) (by decide), _, rfl, _, rfl, b, c, rfl, rfl, wide_mul bb bc (by decide) (by decide) (by decide), _, _, rfl, rfl, q⟩
def NewTab (C : Addr) (H : Hp) (a b c e : Int) (Q : VK) : Prop := ∀ x H', H x = none → Same H H' → TabAt C H' x a b c e → Q (.ref x) H'
def spOuter (K : PySem.W.Frag) (C : Addr) : Sp := fun vs H Q _ => ∃ (u v : V) (a b c e : Int), vs = [u, v] ∧ PairAt K H u a b ∧ PairAt K H v c e ∧ Bd 9000 [a, b, c, e] ∧ NewTab C H (c * a) (e * a) (c * b) (e * b) Q
theorem ok_outer (T : Txt K mg) : FnOk P w K mg base CX0 3 T.f_outer T.d_outer ["one", "other"] (spOuter K T.C_Table) := by
  refine T.F_outer.ok sc_outer (fun vs H Q E h => ?_) (fun cdv A outer s H vs Q E hr h => ?_)
  · obtain ⟨u, v, a, b, c, e, rfl, _⟩ := h
    rfl
  · obtain ⟨u, v, a, b, c, e, rfl, ⟨t, rfl, ht⟩, ⟨t2, rfl, ht2⟩, bd, q⟩ := h
    have ba := bd a (by simp)
    have bb := bd b (by simp)
    have bc := bd c (by simp)
    have be := bd e (by simp)
    refine ⟨_, (pss_cons (ps_asg (pv 0) (pg_tup (by rfl) (pgs_cons (pg_name (i := 2) sc_outer.nd rfl (Or.inl rfl)) (pgs_cons (pg_name (i := 3) sc_outer.nd rfl (Or.inl rfl)) pgs_nil))))
      (pss_one (ps_ret (pe_make T.M_Table (ok_Table_init T) (hr.mono (by decide)) (by rfl) T.g_Table T.b_Table_init .nil pass0 (pa_cons (pe_tup (pa_cons (pe_call (ok_scaled T) (hr.mono (by decide)) (by rfl) T.g_scaled T.F_scaled.kp T.b_scaled .nil pass0 (pa_cons (pv 1) (pa_cons (pv 2) pa_nil))) (pa_cons (pe_call (ok_scaled T) (hr.mono (by decide)) (by rfl) T.g_scaled T.F_scaled.kp T.b_scaled .nil pass0 (pa_cons (pv 1) (pa_cons (pv 3) pa_nil))) pa_nil))) pa_nil))))), ?_⟩
    refine ⟨_, rfl, t, _, rfl, ht, rfl, .int a, _, rfl, .int b, _, rfl, rfl, ?_⟩
    refine ⟨_, rfl, _, rfl, _, c, e, a, rfl, ⟨t2, rfl, ht2⟩, bc, be, ba, fun p1 H1 n1 e1 f1 => ?_⟩
    refine ⟨_, rfl, _, rfl, _, c, e, b, rfl, ⟨t2, rfl, Evl.ex_t e1 ht2⟩, bc, be, bb, fun p2 H2 n2 e2 f2 => ?_⟩
    refine ⟨by show 2 ≤ sizeLine; decide, fun p3 n3 => ?_⟩
    have e3 := same_new (o := .tup [.ref p1, .ref p2]) n3
    refine mk_tab (K := K) ⟨p3, p1, p2, rfl, SqT.of upd_same, SqT.of ((e2.trans e3) _ _ f1), SqT.of (e3 _ _ f2)⟩ fun x H' nx sx hx => ?_
    exact q x H' ((e1.trans (e2.trans e3)).free nx) ((e1.trans (e2.trans e3)).trans sx) hx
end
/-! ### the law -/
theorem wn {x : Int} (h : x.natAbs ≤ 10 ^ 18) : x.natAbs < 2 ^ 9000 := Nat.lt_of_le_of_lt h (Nat.lt_of_lt_of_le (show 10 ^ 18 < 2 ^ 100 by decide) (Nat.pow_le_pow_right (by decide) (by decide)))
theorem Bd.nil {n : Nat} : Bd n [] := fun _ h => nomatch h
theorem Bd.cons {n : Nat} {x : Int} {xs : List Int} (h : x.natAbs < 2 ^ n) (t : Bd n xs) : Bd n (x :: xs) := fun y hy => by
  rcases List.mem_cons.mp hy with rfl | e
  · exact h
  · exact t y e
def tDraw0 (i : Nat) : TE := tCall spOf [] E0 (tCons (tVar i) (tCons (tLst (tCons (tCall spAnyPair [] E0 (tCons (tVar i) tNil)) (tCons (tTup (tCons (tCall spANumber [] E0 (tCons (tVar i) tNil)) (tCons (tC (.int 0)) tNil))) tNil))) tNil))
theorem draw0_ok {i : Nat} {σ : L2.St} {H : Hp} {Q : VK} {b sb : Addr} (hσ : σ[i]? = some (some (.ref b))) (B : Bag H b sb)
    (q : ∀ p x y H', H' p = some (.tup [.int x, .int y]) → p ≠ b → x.natAbs ≤ 10 ^ 18 → y.natAbs ≤ 10 ^ 18 → Bag H' b sb → Keep b H H' → Q (.ref p) H') : tDraw0 i σ H Q := by
  refine ⟨.ref b, hσ, .ref b, hσ, b, sb, rfl, B, fun x1 z1 p1 H1 a1 a2 a3 a4 n1 h1 B1 k1 => ?_⟩
  refine ⟨.ref b, hσ, b, sb, rfl, B1, fun x2 H2 a5 a6 B2 k2 => ⟨by show 2 ≤ sizeLine; decide, fun p2 hp2 => ?_⟩⟩
  have B4 := B2.new (o := .tup [.int x2, .int 0]) hp2
  refine ⟨by show 2 ≤ sizeLine; decide, fun l hl => ?_⟩
  have B5 := B4.new (o := .lst [.ref p1, .ref p2]) hl
  refine ⟨b, sb, l, _, rfl, B5, upd_same, B4.ne hl, by simp, by simp, fun j v H6 hv B6 k6 => ?_⟩
  have k5 : Keep b H2 H6 := (keep_new hp2).trans ((keep_new hl).trans k6)
  have kk : Keep b H H6 := k1.trans (k2.trans k5)
  match j, hv with
  | 0, hv =>
    cases hv
    exact q p1 x1 z1 H6 ((k2.trans k5) _ _ (B.ne n1) h1) (B.ne n1) (by omega) (by omega) B6 kk
  | 1, hv =>
    cases hv
    exact q p2 x2 0 H6 (((keep_new hl).trans k6) _ _ (B2.ne hp2) upd_same) (B2.ne hp2) (by omega) (by decide) B6 kk
  | n + 2, hv => simp at hv
theorem nc : ∀ {t : Addr} {m : Str}, ¬ m = "cells" → ([(("cells" : Str), V.ref t)] : List (Str × V)).lookup m = none := by
  intro t m h
  rw [List.lookup_cons, show (m == "cells") = false from beq_eq_false_iff_ne.mpr h]
  rfl
section
variable {base : Heap} {K : PySem.W.Frag} {mg : Str → Option Value} {P : Program} {w : World}
def spLaw (K : PySem.W.Frag) : Sp := fun vs H Q _ => ∃ (a : Addr) (ns : List Int), vs = [.ref a] ∧ SqL K H a (ns.map V.int) ∧ ns.length ≤ 63 ∧ ∀ H', Q (.bl true) H'
theorem ok_law {f : Addr} {fd : FuncData} (F : Fun K "law" "law" s_law f fd) (T : Txt K mg) : FnOk P w K mg base CX0 5 f fd ["_law_script"] (spLaw K) := by
  refine F.ok sc_law (fun vs H Q E h => ?_) (fun cdv A outer s H vs Q E hr h => ?_)
  · obtain ⟨a, ns, rfl, _⟩ := h
    rfl
  · obtain ⟨a, ns, rfl, hS, hlen, q⟩ := h
    refine ⟨_, (pss_cons (ps_set (i := 1) sc_law.nd rfl (Or.inl rfl) (pe_call (ok_source T) (hr.mono (by decide)) (by rfl) T.g_source T.F_source.kp T.b_source .nil pass0 (pa_cons (pv 0) pa_nil)))
      (pss_cons (ps_for PassesOwn.never rfl (pi_range1 (by rfl) T.n_range (pa_cons pe_int pa_nil)) (pg_name (i := 2) sc_law.nd rfl (Or.inl rfl)) (pss_cons (ps_asg (pe_tup (pa_cons (pe_call (ok_of T) (hr.mono (by decide)) (by rfl) T.g_of T.F_of.kp T.b_of .nil pass0 (pa_cons (pv 1) (pa_cons (pe_lst (pa_cons (pe_call (ok_any_pair T) (hr.mono (by decide)) (by rfl) T.g_any_pair T.F_any_pair.kp T.b_any_pair .nil pass0 (pa_cons (pv 1) pa_nil)) (pa_cons (pe_tup (pa_cons (pe_call (ok_a_number T) (hr.mono (by decide)) (by rfl) T.g_a_number T.F_a_number.kp T.b_a_number .nil pass0 (pa_cons (pv 1) pa_nil)) (pa_cons pe_int pa_nil))) pa_nil))) pa_nil))) (pa_cons (pe_call (ok_any_pair T) (hr.mono (by decide)) (by rfl) T.g_any_pair T.F_any_pair.kp T.b_any_pair .nil pass0 (pa_cons (pv 1) pa_nil)) (pa_cons (pe_call (ok_a_root T) (hr.mono (by decide)) (by rfl) T.g_a_root T.F_a_root.kp T.b_a_root .nil pass0 (pa_cons (pv 1) pa_nil)) pa_nil)))) (pg_tup (by rfl) (pgs_cons (pg_tup (by rfl) (pgs_cons (pg_name (i := 10) sc_law.nd rfl (Or.inl rfl)) (pgs_cons (pg_name (i := 11) sc_law.nd rfl (Or.inl rfl)) pgs_nil))) (pgs_cons (pg_tup (by rfl) (pgs_cons (pg_name (i := 12) sc_law.nd rfl (Or.inl rfl)) (pgs_cons (pg_name (i := 13) sc_law.nd rfl (Or.inl rfl)) pgs_nil))) (pgs_cons (pg_name (i := 5) sc_law.nd rfl (Or.inl rfl)) pgs_nil)))))
      (pss_cons (ps_set (i := 3) sc_law.nd rfl (Or.inl rfl) (pe_make T.M_Table (ok_Table_init T) (hr.mono (by decide)) (by rfl) T.g_Table T.b_Table_init .nil pass0 (pa_cons (pe_tup (pa_cons (pe_tup (pa_cons (pv 10) (pa_cons (pv 11) pa_nil))) (pa_cons (pe_tup (pa_cons (pv 12) (pa_cons (pv 13) pa_nil))) pa_nil))) pa_nil)))
      (pss_cons (ps_if (pt_not (pt_val (pe_call (ok_like T) (hr.mono (by decide)) (by rfl) T.g_like T.F_like.kp T.b_like .nil pass0 (pa_cons (pe_lst (pa_cons (pe_meth0 (pv 3) T.cl_Table T.m_Table_marks (ok_Table_marks T) (hr.mono (by decide)) T.b_Table_marks (show Vals [.bl false] [.bool false] from .cons rfl .nil) pass0) (pa_cons (pe_methK0 (pv 3) T.cl_Table T.m_Table_marks (ok_Table_marks T) (hr.mono (by decide)) T.kb_Table_marks_turning pass0 (pk_cons pe_bl pk_nil)) (pa_cons (pe_methK0 (pv 3) T.cl_Table T.m_Table_marks (ok_Table_marks T) (hr.mono (by decide)) T.kb_Table_marks_turning pass0 (pk_cons pe_bl pk_nil)) pa_nil)))) (pa_cons (pe_op op_cat (pe_op op_rep (pe_lst (pa_cons (pe_tup (pa_cons (pv 10) (pa_cons (pv 11) (pa_cons (pv 12) (pa_cons (pv 13) pa_nil))))) pa_nil)) pe_int) (pe_lst (pa_cons (pe_tup (pa_cons (pv 10) (pa_cons (pe_op op_add (pv 11) (pv 12)) (pa_cons (pv 13) pa_nil)))) pa_nil))) pa_nil))))) (pss_one (ps_ret pe_bl)) pss_nil)
      (pss_cons (ps_if (pt_not (pt_val (pe_call (ok_like T) (hr.mono (by decide)) (by rfl) T.g_like T.F_like.kp T.b_like .nil pass0 (pa_cons (pe_lst (pa_cons (pe_meth (pv 3) T.cl_Table T.m_Table_area_for (ok_Table_area_for T) (hr.mono (by decide)) T.b_Table_area_for .nil pass0 (pa_cons (pv 5) pa_nil)) (pa_cons (pe_meth0 (pv 3) T.cl_Table T.m_Table_determinant (ok_Table_determinant T) (hr.mono (by decide)) T.b_Table_determinant .nil pass0) pa_nil))) (pa_cons (pe_lst (pa_cons (pe_tup (pa_cons (pe_op op_add (pv 10) (pe_op op_mul (pv 5) (pv 13))) (pa_cons (pe_op op_add (pv 11) (pv 12)) pa_nil))) (pa_cons (pe_op op_sub (pe_op op_mulW (pv 10) (pv 13)) (pe_op op_mulW (pv 11) (pv 12))) pa_nil))) pa_nil))))) (pss_one (ps_ret pe_bl)) pss_nil)
      (pss_cons (ps_asg (pe_call (ok_of T) (hr.mono (by decide)) (by rfl) T.g_of T.F_of.kp T.b_of .nil pass0 (pa_cons (pv 1) (pa_cons (pe_lst (pa_cons (pe_call (ok_any_pair T) (hr.mono (by decide)) (by rfl) T.g_any_pair T.F_any_pair.kp T.b_any_pair .nil pass0 (pa_cons (pv 1) pa_nil)) (pa_cons (pe_tup (pa_cons (pe_call (ok_a_number T) (hr.mono (by decide)) (by rfl) T.g_a_number T.F_a_number.kp T.b_a_number .nil pass0 (pa_cons (pv 1) pa_nil)) (pa_cons (pe_call (ok_a_number T) (hr.mono (by decide)) (by rfl) T.g_a_number T.F_a_number.kp T.b_a_number .nil pass0 (pa_cons (pv 1) pa_nil)) pa_nil))) pa_nil))) pa_nil))) (pg_tup (by rfl) (pgs_cons (pg_name (i := 6) sc_law.nd rfl (Or.inl rfl)) (pgs_cons (pg_name (i := 7) sc_law.nd rfl (Or.inl rfl)) pgs_nil))))
      (pss_cons (ps_set (i := 4) sc_law.nd rfl (Or.inl rfl) (pe_op op_add (pe_op op_add (pe_op op_mulW (pe_op op_mulW (pv 10) (pv 6)) (pv 6)) (pe_op op_mulW (pe_op op_mulW (pe_op op_add (pv 11) (pv 12)) (pv 6)) (pv 7))) (pe_op op_mulW (pe_op op_mulW (pv 13) (pv 7)) (pv 7))))
      (pss_cons (ps_if (pt_not (pt_val (pe_call (ok_like T) (hr.mono (by decide)) (by rfl) T.g_like T.F_like.kp T.b_like .nil pass0 (pa_cons (pe_lst (pa_cons (pe_meth (pv 3) T.cl_Table T.m_Table_weight (ok_Table_weight T) (hr.mono (by decide)) T.b_Table_weight .nil pass0 (pa_cons (pe_tup (pa_cons (pv 6) (pa_cons (pv 7) pa_nil))) pa_nil)) (pa_cons (pe_methK0 (pv 3) T.cl_Table T.m_Table_weight (ok_Table_weight T) (hr.mono (by decide)) T.kb_Table_weight_pair pass0 (pk_cons (pe_tup (pa_cons pe_int (pa_cons pe_int pa_nil))) pk_nil)) (pa_cons (pe_meth (pv 3) T.cl_Table T.m_Table_weight (ok_Table_weight T) (hr.mono (by decide)) T.b_Table_weight .nil pass0 (pa_cons (pe_tup (pa_cons pe_int (pa_cons pe_int pa_nil))) pa_nil)) pa_nil)))) (pa_cons (pe_lst (pa_cons (pv 4) (pa_cons pe_int (pa_cons (pv 10) pa_nil)))) pa_nil))))) (pss_one (ps_ret pe_bl)) pss_nil)
      (pss_cons (ps_par (i := 8) (j := 9) (by rfl) sc_law.nd rfl rfl (by decide) rfl rfl (pa_cons (pe_call (ok_any_pair T) (hr.mono (by decide)) (by rfl) T.g_any_pair T.F_any_pair.kp T.b_any_pair .nil pass0 (pa_cons (pv 1) pa_nil)) (pa_cons (pe_tup (pa_cons (pe_call (ok_a_number T) (hr.mono (by decide)) (by rfl) T.g_a_number T.F_a_number.kp T.b_a_number .nil pass0 (pa_cons (pv 1) pa_nil)) (pa_cons (pe_call (ok_a_number T) (hr.mono (by decide)) (by rfl) T.g_a_number T.F_a_number.kp T.b_a_number .nil pass0 (pa_cons (pv 1) pa_nil)) pa_nil))) pa_nil)) (by rfl))
      (pss_cons (ps_set (i := 4) sc_law.nd rfl (Or.inl rfl) (pe_tup (pa_cons (pe_tup (pa_cons (pe_op op_mulW (pe_ix ix_tup (pv 8) pe_int (fun _ _ => rfl)) (pe_ix ix_tup (pv 9) pe_int (fun _ _ => rfl))) (pa_cons (pe_op op_mulW (pe_ix ix_tup (pv 8) pe_int (fun _ _ => rfl)) (pe_ix ix_tup (pv 9) pe_int (fun _ _ => rfl))) pa_nil))) (pa_cons (pe_tup (pa_cons (pe_op op_mulW (pe_ix ix_tup (pv 8) pe_int (fun _ _ => rfl)) (pe_ix ix_tup (pv 9) pe_int (fun _ _ => rfl))) (pa_cons (pe_op op_mulW (pe_ix ix_tup (pv 8) pe_int (fun _ _ => rfl)) (pe_ix ix_tup (pv 9) pe_int (fun _ _ => rfl))) pa_nil))) pa_nil))))
      (pss_one (ps_if (pt_not (pt_val (pe_call (ok_like T) (hr.mono (by decide)) (by rfl) T.g_like T.F_like.kp T.b_like .nil pass0 (pa_cons (pe_lst (pa_cons (pe_meth0 (pe_call (ok_outer T) (hr.mono (by decide)) (by rfl) T.g_outer T.F_outer.kp T.b_outer .nil pass0 (pa_cons (pv 8) (pa_cons (pv 9) pa_nil))) T.cl_Table T.m_Table_rows (ok_Table_rows T) (hr.mono (by decide)) T.b_Table_rows .nil pass0) (pa_cons (pe_meth0 (pe_kwOnly (ok_outer T) (hr.mono (by decide)) (by rfl) T.g_outer T.F_outer.kp T.kb_outer_other_one pass0 (pk_cons (pv 9) (pk_cons (pv 8) pk_nil))) T.cl_Table T.m_Table_rows (ok_Table_rows T) (hr.mono (by decide)) T.b_Table_rows .nil pass0) pa_nil))) (pa_cons (pe_lst (pa_cons (pv 4) (pa_cons (pv 4) pa_nil))) pa_nil))))) (pss_one (ps_ret pe_bl)) pss_nil))))))))))))
      (pss_one (ps_ret (pe_cmpR (op_eqD hr.units) (pe_meth0 (pe_call (ok_outer T) (hr.mono (by decide)) (by rfl) T.g_outer T.F_outer.kp T.b_outer .nil pass0 (pa_cons (pe_tup (pa_cons pe_int (pa_cons pe_int pa_nil))) (pa_cons (pe_tup (pa_cons pe_int (pa_cons (pe_un un_neg pe_int) pa_nil))) pa_nil))) T.cl_Table T.m_Table_rows (ok_Table_rows T) (hr.mono (by decide)) T.b_Table_rows .nil pass0) (pe_tup (pa_cons (pe_tup (pa_cons pe_int (pa_cons (pe_un un_neg pe_int) pa_nil))) (pa_cons (pe_tup (pa_cons pe_int (pa_cons (pe_un un_neg pe_int) pa_nil))) pa_nil))) (nomark _)))))), ?_⟩
    refine ⟨.ref a, rfl, a, ns, rfl, hS, hlen, fun bg sb H1 hb s1 B1 => ?_⟩
    refine ⟨6, rfl, by decide, by decide, for_range (lo := 0) (n := 6) (fun i σ H' => ∃ y2 y3 y4 y5 y6 y7 y8 y9 y10 y11 y12 y13, σ = [some (.ref a), some (.ref bg), y2, y3, y4, y5, y6, y7, y8, y9, y10, y11, y12, y13] ∧ Bag H' bg sb) ⟨none, none, none, none, none, none, none, none, none, none, none, none, rfl, B1⟩ ?_ ?_⟩
    · rintro i σ H2 hi ⟨y2, y3, y4, y5, y6, y7, y8, y9, y10, y11, y12, y13, rfl, B2⟩
      refine draw0_ok (i := 1) (b := bg) (sb := sb) rfl B2 fun p1 av bv H3 f1 _ a1 b1 B3 k3 => ?_
      refine ⟨.ref bg, rfl, bg, sb, rfl, B3, fun cv ev p2 H4 c1 c2 e1 e2 n2 f2 B4 k4 => ?_⟩
      refine ⟨.ref bg, rfl, bg, sb, rfl, B4, fun d H5 hd B5 k5 => ⟨by show 3 ≤ sizeLine; decide, fun t0 n0 => ?_⟩⟩
      have g1 := tup_keep B4 k5 _ _ (tup_keep B3 k4 _ _ f1)
      have g2 := tup_keep B4 k5 _ _ f2
      have e0 := same_new (o := .tup [.ref p1, .ref p2, .int d]) n0
      refine ⟨t0, _, rfl, SqT.of upd_same, rfl, .ref p1, _, rfl, p1, _, rfl, SqT.of (e0 _ _ g1), rfl, .int av, _, rfl, .int bv, _, rfl, rfl, .ref p2, _, rfl, p2, _, rfl, SqT.of (e0 _ _ g2), rfl, .int cv, _, rfl, .int ev, _, rfl, rfl, .int d, _, rfl, rfl, ?_⟩
      have ba := wn a1
      have bb := wn b1
      have bc := wn (show cv.natAbs ≤ 10 ^ 18 by omega)
      have be := wn (show ev.natAbs ≤ 10 ^ 18 by omega)
      have bd4 : Bd 9000 [av, bv, cv, ev] := .cons ba (.cons bb (.cons bc (.cons be .nil)))
      have d1 : -(2 ^ 64) < d := by have := hd.1; omega
      have d2 : d < 2 ^ 64 := by have := hd.2.1; omega
      -- table
      refine ⟨_, rfl, _, rfl, by show 2 ≤ sizeLine; decide, fun u1 m1 => ⟨_, rfl, _, rfl, by show 2 ≤ sizeLine; decide, fun v1 m2 => ⟨by show 2 ≤ sizeLine; decide, fun t1 m3 => ?_⟩⟩⟩
      have r1 := same_new (o := .tup [.int av, .int bv]) m1
      have r2 := same_new (o := .tup [.int cv, .int ev]) m2
      have r3 := same_new (o := .tup [.ref u1, .ref v1]) m3
      refine mk_tab (K := K) ⟨t1, u1, v1, rfl, SqT.of upd_same, SqT.of ((r2.trans r3) _ _ upd_same), SqT.of (r3 _ _ upd_same)⟩ fun x H6 nx sx hx => ?_
      have B6 := B5.same (e0.trans (r1.trans (r2.trans (r3.trans sx))))
      obtain ⟨dx, tx, hp, hc⟩ := id hx
      -- marks
      refine ⟨_, rfl, x, dx, _, rfl, hp, nc (by decide +kernel), x, av, bv, cv, ev, false, rfl, hx, fun q1 H7 n7 e7 f7 => ?_⟩
      refine ⟨_, rfl, x, dx, _, rfl, e7 _ _ hp, nc (by decide +kernel), rfl, x, av, bv, cv, ev, false, rfl, hx.same e7, fun q2 H8 n8 e8 f8 => ?_⟩
      refine ⟨_, rfl, x, dx, _, rfl, (e7.trans e8) _ _ hp, nc (by decide +kernel), rfl, x, av, bv, cv, ev, true, rfl, hx.same (e7.trans e8), fun q3 H9 n9 e9 f9 => ?_⟩
      refine ⟨by show 3 ≤ sizeLine; decide, fun L1 hL1 => ?_⟩
      have e10 := same_new (o := .lst [.ref q1, .ref q2, .ref q3]) hL1
      refine ⟨_, rfl, _, rfl, _, rfl, _, rfl, by show 4 ≤ sizeLine; decide, fun w1 nw1 => ⟨by show 1 ≤ sizeLine; decide, fun M1 hM1 => ⟨M1, 2, _, rfl, rfl, upd_same, by decide, by decide, by show 2 ≤ sizeLine; decide, fun M2 hM2 => ?_⟩⟩⟩
      have e11 := same_new (o := .tup [.int av, .int bv, .int cv, .int ev]) nw1
      have e12 := same_new (o := .lst [.ref w1]) hM1
      have e13 := same_new (o := .lst [.ref w1, .ref w1]) hM2
      refine ⟨_, rfl, _, rfl, _, rfl, bv, cv, rfl, rfl, _, rfl, by show 3 ≤ sizeLine; decide, fun w2 nw2 => ⟨by show 1 ≤ sizeLine; decide, fun M3 hM3 => ?_⟩⟩
      have e14 := same_new (o := .tup [.int av, .int (bv + cv), .int ev]) nw2
      have e15 := same_new (o := .lst [.ref w2]) hM3
      refine ⟨M2, M3, [.ref w1, .ref w1], _, rfl, rfl, (e14.trans e15) _ _ upd_same, upd_same, by show 3 ≤ sizeLine; decide, fun M4 hM4 => ?_⟩
      have e16 := same_new (o := .lst [.ref w1, .ref w1, .ref w2]) hM4
      have u16 := e11.trans (e12.trans (e13.trans (e14.trans (e15.trans e16))))
      have u17 := (e12.trans (e13.trans (e14.trans (e15.trans e16)))) _ _ (upd_same (a := w1) (o := .tup [.int av, .int bv, .int cv, .int ev]))
      have u18 := (e15.trans e16) _ _ (upd_same (a := w2) (o := .tup [.int av, .int (bv + cv), .int ev]))
      refine ⟨.ref L1, .ref M4, rfl, .lists (u16 _ _ upd_same) upd_same (by simp) (.cons (.tups ((e8.trans (e9.trans (e10.trans u16))) _ _ f7) u17 (by simp) (.cons (.int rfl) (.cons (.int rfl) (.cons (.int rfl) (.cons (.int rfl) .nil)))))
        (.cons (.tups ((e9.trans (e10.trans u16)) _ _ f8) u17 (by simp) (.cons (.int rfl) (.cons (.int rfl) (.cons (.int rfl) (.cons (.int rfl) .nil)))))
        (.cons (.tups ((e10.trans u16) _ _ f9) u18 (by simp) (.cons (.int rfl) (.cons (.int rfl) (.cons (.int rfl) .nil)))) .nil))), fun H17 s17 => ⟨_, rfl, iteF ?_⟩⟩
      have w17 := e7.trans (e8.trans (e9.trans (e10.trans (u16.trans s17))))
      have hx17 := hx.same w17
      have hp17 := w17 _ _ hp
      have B17 := B6.same w17
      -- area, determinant
      refine ⟨_, rfl, x, dx, _, rfl, hp17, nc (by decide +kernel), _, rfl, x, av, bv, cv, ev, d, rfl, hx17, d1, d2, fun q4 H18 n18 e18 f18 => ?_⟩
      refine ⟨_, rfl, x, dx, _, rfl, e18 _ _ hp17, nc (by decide +kernel), x, av, bv, cv, ev, rfl, hx17.same e18, bd4, ?_⟩
      refine ⟨by show 2 ≤ sizeLine; decide, fun L2 hL2 => ?_⟩
      have e19 := same_new (o := .lst [.ref q4, .int (av * ev - bv * cv)]) hL2
      refine ⟨_, rfl, _, rfl, _, rfl, d, ev, rfl, rfl, .inl ⟨d1, d2⟩, av, _, rfl, rfl, _, rfl, _, rfl, bv, cv, rfl, rfl, by show 2 ≤ sizeLine; decide, fun w3 nw3 => ?_⟩
      have e20 := same_new (o := .tup [.int (av + d * ev), .int (bv + cv)]) nw3
      refine ⟨_, rfl, _, rfl, av, ev, rfl, rfl, wide_mul ba be (by decide) (by decide) (by decide), _, rfl, _, rfl, bv, cv, rfl, rfl, wide_mul bb bc (by decide) (by decide) (by decide), _, _, rfl, rfl, by show 2 ≤ sizeLine; decide, fun L3 hL3 => ?_⟩
      have e21 := same_new (o := .lst [.ref w3, .int (av * ev - bv * cv)]) hL3
      refine ⟨.ref L2, .ref L3, rfl, .lists ((e20.trans e21) _ _ upd_same) upd_same (by simp) (.cons (.pair ((e19.trans (e20.trans e21)) _ _ f18) (e21 _ _ upd_same) rfl rfl) (.cons (.int rfl) .nil)), fun H22 s22 => ⟨_, rfl, iteF ?_⟩⟩
      have w22 := e18.trans (e19.trans (e20.trans (e21.trans s22)))
      -- weights
      refine draw_ok (i := 1) (b := bg) (sb := sb) rfl (B17.same w22) fun pp xv yv H23 fp _ ax ay B23 k23 => ?_
      refine ⟨pp, _, rfl, SqT.of fp, rfl, .int xv, _, rfl, .int yv, _, rfl, rfl, ?_⟩
      have hx23 := (hx17.same w22).keep (B17.same w22) k23
      have bx := wn ax
      have bY := wn ay
      have bd6 : Bd 9000 [av, bv, cv, ev, xv, yv] := .cons ba (.cons bb (.cons bc (.cons be (.cons bx (.cons bY .nil)))))
      have b00 : Bd 9000 [av, bv, cv, ev, 0, 0] := .cons ba (.cons bb (.cons bc (.cons be (.cons (wn (by decide)) (.cons (wn (by decide)) .nil)))))
      have b10 : Bd 9000 [av, bv, cv, ev, 1, 0] := .cons ba (.cons bb (.cons bc (.cons be (.cons (wn (by decide)) (.cons (wn (by decide)) .nil)))))
      refine ⟨_, rfl, _, rfl, av, xv, rfl, rfl, wide_mul ba bx (by decide) (by decide) (by decide), _, rfl, _, xv, rfl, rfl, wide_mul (wide_lt ba bx) bx (by decide) (by decide) (by decide),
        _, rfl, _, rfl, bv, cv, rfl, rfl, _, rfl, _, xv, rfl, rfl, wide_mul (bd_a bb bc) bx (by decide) (by decide) (by decide), _, rfl, _, yv, rfl, rfl, wide_mul (wide_lt (bd_a bb bc) bx) bY (by decide) (by decide) (by decide), _, _, rfl, rfl,
        _, rfl, _, rfl, ev, yv, rfl, rfl, wide_mul be bY (by decide) (by decide) (by decide), _, rfl, _, yv, rfl, rfl, wide_mul (wide_lt be bY) bY (by decide) (by decide) (by decide), _, _, rfl, rfl, ?_⟩
      obtain ⟨dx2, tx2, hp2, hc2⟩ := id hx23
      refine ⟨_, rfl, x, dx2, _, rfl, hp2, nc (by decide +kernel), _, rfl, _, rfl, by show 2 ≤ sizeLine; decide, fun w4 nw4 => ?_⟩
      have e24 := same_new (o := .tup [.int xv, .int yv]) nw4
      refine ⟨x, .ref w4, av, bv, cv, ev, xv, yv, rfl, hx23.same e24, ⟨w4, rfl, SqT.of upd_same⟩, bd6, ?_⟩
      refine ⟨_, rfl, x, dx2, _, rfl, e24 _ _ hp2, nc (by decide +kernel), by show 2 ≤ sizeLine; decide, fun w5 nw5 => ?_⟩
      have e25 := e24.trans (same_new (o := .tup [.int 0, .int 0]) nw5)
      refine ⟨rfl, x, .ref w5, av, bv, cv, ev, 0, 0, rfl, hx23.same e25, ⟨w5, rfl, SqT.of upd_same⟩, b00, ?_⟩
      refine ⟨_, rfl, x, dx2, _, rfl, e25 _ _ hp2, nc (by decide +kernel), by show 2 ≤ sizeLine; decide, fun w6 nw6 => ?_⟩
      have e26 := e25.trans (same_new (o := .tup [.int 1, .int 0]) nw6)
      refine ⟨x, .ref w6, av, bv, cv, ev, 1, 0, rfl, hx23.same e26, ⟨w6, rfl, SqT.of upd_same⟩, b10, ?_⟩
      refine ⟨by show 3 ≤ sizeLine; decide, fun L4 hL4 => ⟨_, rfl, _, rfl, by show 3 ≤ sizeLine; decide, fun L5 hL5 => ?_⟩⟩
      have e27 := same_new (o := .lst [.int (av * xv * xv + (bv + cv) * xv * yv + ev * yv * yv), .int (av * 0 * 0 + (bv + cv) * 0 * 0 + ev * 0 * 0), .int (av * 1 * 1 + (bv + cv) * 1 * 0 + ev * 0 * 0)]) hL4
      have e28 := same_new (o := .lst [.int (av * xv * xv + (bv + cv) * xv * yv + ev * yv * yv), .int 0, .int av]) hL5
      refine ⟨.ref L4, .ref L5, rfl, .lists (e28 _ _ upd_same) upd_same (by simp) (.cons (.int rfl) (.cons (.int (by simp)) (.cons (.int (by simp)) .nil))), fun H29 s29 => ⟨_, rfl, iteF ?_⟩⟩
      have B29 := B23.same (e26.trans (e27.trans (e28.trans s29)))
      -- outer
      refine ⟨.ref bg, rfl, bg, sb, rfl, B29, fun o1 o2 p3 H30 oa ob oc od n30 f30 B30 k30 => ?_⟩
      refine ⟨.ref bg, rfl, bg, sb, rfl, B30, fun m1 H31 ma mb B31 k31 => ⟨.ref bg, rfl, bg, sb, rfl, B31, fun m2 H32 mc md B32 k32 => ⟨by show 2 ≤ sizeLine; decide, fun p4 n33 => ⟨_, _, rfl, ?_⟩⟩⟩⟩
      have e33 := same_new (o := .tup [.int m1, .int m2]) n33
      have g3 := e33 _ _ (tup_keep B31 k32 _ _ (tup_keep B30 k31 _ _ f30))
      have bo1 := wn (show o1.natAbs ≤ 10 ^ 18 by omega)
      have bo2 := wn (show o2.natAbs ≤ 10 ^ 18 by omega)
      have bm1 := wn (show m1.natAbs ≤ 10 ^ 18 by omega)
      have bm2 := wn (show m2.natAbs ≤ 10 ^ 18 by omega)
      have g4 := upd_same (H := H32) (a := p4) (o := .tup [.int m1, .int m2])
      refine ⟨_, rfl, p3, _, 0, .int o1, rfl, rfl, SqT.of g3, atI_nat (j := 0) rfl, _, rfl, p4, _, 0, .int m1, rfl, rfl, SqT.of g4, atI_nat (j := 0) rfl, o1, m1, rfl, rfl, wide_mul bo1 bm1 (by decide) (by decide) (by decide),
        _, rfl, p3, _, 0, .int o1, rfl, rfl, SqT.of g3, atI_nat (j := 0) rfl, _, rfl, p4, _, 1, .int m2, rfl, rfl, SqT.of g4, atI_nat (j := 1) rfl, o1, m2, rfl, rfl, wide_mul bo1 bm2 (by decide) (by decide) (by decide), by show 2 ≤ sizeLine; decide, fun w7 nw7 => ?_⟩
      have e34 := same_new (o := .tup [.int (o1 * m1), .int (o1 * m2)]) nw7
      refine ⟨_, rfl, p3, _, 1, .int o2, rfl, rfl, SqT.of (e34 _ _ g3), atI_nat (j := 1) rfl, _, rfl, p4, _, 0, .int m1, rfl, rfl, SqT.of (e34 _ _ g4), atI_nat (j := 0) rfl, o2, m1, rfl, rfl, wide_mul bo2 bm1 (by decide) (by decide) (by decide),
        _, rfl, p3, _, 1, .int o2, rfl, rfl, SqT.of (e34 _ _ g3), atI_nat (j := 1) rfl, _, rfl, p4, _, 1, .int m2, rfl, rfl, SqT.of (e34 _ _ g4), atI_nat (j := 1) rfl, o2, m2, rfl, rfl, wide_mul bo2 bm2 (by decide) (by decide) (by decide), by show 2 ≤ sizeLine; decide, fun w8 nw8 => ?_⟩
      have e35 := same_new (o := .tup [.int (o2 * m1), .int (o2 * m2)]) nw8
      refine ⟨by show 2 ≤ sizeLine; decide, fun du ndu => ?_⟩
      have e36 := same_new (o := .tup [.ref w7, .ref w8]) ndu
      have w36 := e34.trans (e35.trans e36)
      have bdo : Bd 9000 [o1, o2, m1, m2] := .cons bo1 (.cons bo2 (.cons bm1 (.cons bm2 .nil)))
      have g7 := (e35.trans e36) _ _ (upd_same (a := w7) (o := .tup [.int (o1 * m1), .int (o1 * m2)]))
      have g8 := e36 _ _ (upd_same (a := w8) (o := .tup [.int (o2 * m1), .int (o2 * m2)]))
      refine ⟨_, rfl, _, rfl, .ref p3, .ref p4, o1, o2, m1, m2, rfl, ⟨p3, rfl, SqT.of (w36 _ _ g3)⟩, ⟨p4, rfl, SqT.of (w36 _ _ g4)⟩, bdo, fun x1 H37 nx1 e37 hx1 => ?_⟩
      obtain ⟨dz1, tz1, hz1, hcz1⟩ := id hx1
      refine ⟨x1, dz1, _, rfl, hz1, nc (by decide +kernel), x1, _, _, _, _, rfl, hx1, fun r1 hr1 => ?_⟩
      refine ⟨_, rfl, _, rfl, rfl, .ref p3, .ref p4, o1, o2, m1, m2, rfl, ⟨p3, rfl, SqT.of (e37 _ _ (w36 _ _ g3))⟩, ⟨p4, rfl, SqT.of (e37 _ _ (w36 _ _ g4))⟩, bdo, fun x2 H38 nx2 e38 hx2 => ?_⟩
      obtain ⟨dz2, tz2, hz2, hcz2⟩ := id hx2
      refine ⟨x2, dz2, _, rfl, hz2, nc (by decide +kernel), x2, _, _, _, _, rfl, hx2, fun r2 hr2 => ?_⟩
      refine ⟨by show 2 ≤ sizeLine; decide, fun L6 hL6 => ⟨_, rfl, _, rfl, by show 2 ≤ sizeLine; decide, fun L7 hL7 => ?_⟩⟩
      have e39 := same_new (o := .lst [.ref r1, .ref r2]) hL6
      have e40 := same_new (o := .lst [.ref du, .ref du]) hL7
      have w40 := e39.trans e40
      have z7 := (e37.trans (e38.trans w40)) _ _ g7
      have z8 := (e37.trans (e38.trans w40)) _ _ g8
      have zd := (e37.trans (e38.trans w40)) _ _ (upd_same (a := du) (o := .tup [.ref w7, .ref w8]))
      obtain ⟨ua, va, c1a, c2a, c3a⟩ := hr1.same (e38.trans w40)
      obtain ⟨ub, vb, c1b, c2b, c3b⟩ := hr2.same w40
      refine ⟨.ref L6, .ref L7, rfl, .lists (e40 _ _ upd_same) upd_same (by simp) (.cons (.tups c1a zd (by simp) (.cons (.pair c2a z7 (Int.mul_comm _ _) (Int.mul_comm _ _)) (.cons (.pair c3a z8 (Int.mul_comm _ _) (Int.mul_comm _ _)) .nil)))
        (.cons (.tups c1b zd (by simp) (.cons (.pair c2b z7 (Int.mul_comm _ _) (Int.mul_comm _ _)) (.cons (.pair c3b z8 (Int.mul_comm _ _) (Int.mul_comm _ _)) .nil))) .nil)), fun H41 s41 => ⟨_, rfl, iteF ?_⟩⟩
      exact ⟨_, _, _, _, _, _, _, _, _, _, _, _, rfl, B32.same (e33.trans (w36.trans (e37.trans (e38.trans (w40.trans s41)))))⟩
    · rintro σ H2 ⟨y2, y3, y4, y5, y6, y7, y8, y9, y10, y11, y12, y13, rfl, B2⟩
      refine ⟨by show 2 ≤ sizeLine; decide, fun t1 n1 => ⟨1, rfl, by show 2 ≤ sizeLine; decide, fun t2 n2 => ?_⟩⟩
      have e1 := same_new (o := .tup [.int 3, .int (-1)]) n2
      refine ⟨.ref t1, .ref t2, 1, 2, 3, -1, rfl, ⟨t1, rfl, SqT.of (e1 _ _ upd_same)⟩, ⟨t2, rfl, SqT.of upd_same⟩, .cons (wn (by decide)) (.cons (wn (by decide)) (.cons (wn (by decide)) (.cons (wn (by decide)) .nil))), fun x H3 n3 e3 hx => ?_⟩
      obtain ⟨dx, tx, hp, hc⟩ := id hx
      refine ⟨x, dx, _, rfl, hp, nc (by decide +kernel), x, _, _, _, _, rfl, hx, fun r hr => ?_⟩
      refine ⟨1, rfl, by show 2 ≤ sizeLine; decide, fun t3 n4 => ⟨2, rfl, by show 2 ≤ sizeLine; decide, fun t4 n5 => ⟨by show 2 ≤ sizeLine; decide, fun t5 n6 => ?_⟩⟩⟩
      have e4 := same_new (o := .tup [.int 3, .int (-1)]) n4
      have e5 := same_new (o := .tup [.int 6, .int (-2)]) n5
      have e6 := same_new (o := .tup [.ref t3, .ref t4]) n6
      obtain ⟨ua, va, c1, c2, c3⟩ := hr.same (e4.trans (e5.trans e6))
      refine ⟨.tuple [.tuple [.int 3, .int (-1)], .tuple [.int 6, .int (-2)]], .tuple [.tuple [.int 3, .int (-1)], .tuple [.int 6, .int (-2)]], .tup (SqT.of c1) (.cons (.tup (SqT.of c2) (.cons (.int 3) (.cons (.int (-1)) .nil))) (.cons (.tup (SqT.of c3) (.cons (.int 6) (.cons (.int (-2)) .nil))) .nil)),
        .tup (SqT.of upd_same) (.cons (.tup (SqT.of ((e5.trans e6) _ _ upd_same)) (.cons (.int 3) (.cons (.int (-1)) .nil))) (.cons (.tup (SqT.of (e6 _ _ upd_same)) (.cons (.int 6) (.cons (.int (-2)) .nil))) .nil)), rfl, rfl, ?_⟩
      rw [show PyData.eqv (.tuple [.tuple [.int 3, .int (-1)], .tuple [.int 6, .int (-2)]]) (.tuple [.tuple [.int 3, .int (-1)], .tuple [.int 6, .int (-2)]]) = true by decide +kernel]
      exact q _
end
theorem all_mk {l : PySem.W.OpenLaw} {w : World} {K : PySem.W.Frag} {h : Heap} {mg : Str → Option Value} {fa : Addr} (X : K.In h) (G : h.Ns mainGlobals mg) (hfa : mg "law" = some (.ref fa))
    {C_Table : Addr} (aC_Table : PySem.W.nsIn K mainGlobals "Table" = some (some (.ref C_Table))) (pg_Table : PySem.W.plainGet K C_Table Str.empty = true) (hd_Table : PySem.W.hasDictIn K C_Table = true) (po_Table : PySem.W.plainOver K C_Table = true) (sa_Table : PySem.W.findIn K (.ref C_Table) "__setattr__" = some (some (.builtin "object.__setattr__"))) (mk_Table : PySem.W.makesIn K C_Table = true) (kc_Table : PySem.W.keepIn K (.ref C_Table) = true) (sf_Table : PySem.W.selfFirst K C_Table = true) (nq_Table : PySem.W.noSeq K C_Table = true) (n_Table_cells : PySem.W.findIn K (.ref C_Table) "cells" = some none)
    {od0 an0 : Option Addr} {sl0 : Array (Option Value)} {oc0 kV0 dc0 pm0 cd0 ct0 : Value} {f0 : Addr}
    (a0 : PySem.W.nsIn K mainGlobals "scaled" = some (some (.ref f0))) (l0 : K.lookup f0 = some ⟨oc0, od0, .func (PySem.W.fnOf "scaled" "scaled" (defArgs s_scaled) (defBody s_scaled) (defScope s_scaled) .none kV0 dc0 pm0 an0 cd0 ct0), sl0⟩) (c0 : PySem.W.codeIn K cd0 "scaled" = true) (k0 : PySem.W.keepIn K (.ref f0) = true)
    {od1 an1 : Option Addr} {sl1 : Array (Option Value)} {oc1 dc1 pm1 cd1 ct1 : Value} {f1 : Addr} {T1 r01 : Addr} {tc1 : Value} {td1 : Option Addr} {tn1 : Nat} {ts1 : Array (Option Value)} {kV1 : Value}
    (a1 : PySem.W.findIn K (.ref C_Table) "__init__" = some (some (.ref f1))) (i1 : PySem.W.isFn K (.ref f1) = true) (l1 : K.lookup f1 = some ⟨oc1, od1, .func (PySem.W.fnOf "__init__" "Table.__init__" (defArgs s_Table_init) (defBody s_Table_init) (defScope s_Table_init) (.ref T1) kV1 dc1 pm1 an1 cd1 ct1), sl1⟩) (c1 : PySem.W.codeIn K cd1 "Table.__init__" = true) (k1 : PySem.W.keepIn K (.ref f1) = true)
    (t1 : K.lookup T1 = some ⟨tc1, td1, .seq #[.ref r01] tn1, ts1⟩)
    {y11 y12 : Addr} {y1d y1e y1f : Option Addr} {y1m y1n y1o : Nat} {y1s y1t y1u : Array (Option Value)} {y1v y1w y1x y1y : Tok}
    (y1a : K.lookup r01 = some ⟨.type "tuple", y1d, .seq #[.ref y11, .ref y12] y1m, y1s⟩) (y1b : K.lookup y11 = some ⟨.type "tuple", y1e, .seq #[.int 0 y1v, .int 0 y1w] y1n, y1t⟩) (y1c : K.lookup y12 = some ⟨.type "tuple", y1f, .seq #[.int 0 y1x, .int 0 y1y] y1o, y1u⟩)
    {od2 an2 : Option Addr} {sl2 : Array (Option Value)} {oc2 dc2 pm2 cd2 ct2 : Value} {f2 : Addr} {kV2 : Value}
    (a2 : PySem.W.findIn K (.ref C_Table) "rows" = some (some (.ref f2))) (i2 : PySem.W.isFn K (.ref f2) = true) (l2 : K.lookup f2 = some ⟨oc2, od2, .func (PySem.W.fnOf "rows" "Table.rows" (defArgs s_Table_rows) (defBody s_Table_rows) (defScope s_Table_rows) .none kV2 dc2 pm2 an2 cd2 ct2), sl2⟩) (c2 : PySem.W.codeIn K cd2 "Table.rows" = true) (k2 : PySem.W.keepIn K (.ref f2) = true)
    {od3 an3 : Option Addr} {sl3 : Array (Option Value)} {oc3 dc3 pm3 cd3 ct3 : Value} {f3 : Addr} {kV3 : Value}
    (a3 : PySem.W.findIn K (.ref C_Table) "area_for" = some (some (.ref f3))) (i3 : PySem.W.isFn K (.ref f3) = true) (l3 : K.lookup f3 = some ⟨oc3, od3, .func (PySem.W.fnOf "area_for" "Table.area_for" (defArgs s_Table_area_for) (defBody s_Table_area_for) (defScope s_Table_area_for) .none kV3 dc3 pm3 an3 cd3 ct3), sl3⟩) (c3 : PySem.W.codeIn K cd3 "Table.area_for" = true) (k3 : PySem.W.keepIn K (.ref f3) = true)
    {od4 an4 : Option Addr} {sl4 : Array (Option Value)} {oc4 dc4 pm4 cd4 ct4 : Value} {f4 : Addr} {D4 : Addr}
    (a4 : PySem.W.findIn K (.ref C_Table) "marks" = some (some (.ref f4))) (i4 : PySem.W.isFn K (.ref f4) = true) (l4 : K.lookup f4 = some ⟨oc4, od4, .func (PySem.W.fnOf "marks" "Table.marks" (defArgs s_Table_marks) (defBody s_Table_marks) (defScope s_Table_marks) .none (.ref D4) dc4 pm4 an4 cd4 ct4), sl4⟩) (c4 : PySem.W.codeIn K cd4 "Table.marks" = true) (k4 : PySem.W.keepIn K (.ref f4) = true)
    (kd4 : PySem.W.nsIn K D4 "turning" = some (some (.bool false)))
    {od5 an5 : Option Addr} {sl5 : Array (Option Value)} {oc5 dc5 pm5 cd5 ct5 : Value} {f5 : Addr} {kV5 : Value}
    (a5 : PySem.W.findIn K (.ref C_Table) "weight" = some (some (.ref f5))) (i5 : PySem.W.isFn K (.ref f5) = true) (l5 : K.lookup f5 = some ⟨oc5, od5, .func (PySem.W.fnOf "weight" "Table.weight" (defArgs s_Table_weight) (defBody s_Table_weight) (defScope s_Table_weight) .none kV5 dc5 pm5 an5 cd5 ct5), sl5⟩) (c5 : PySem.W.codeIn K cd5 "Table.weight" = true) (k5 : PySem.W.keepIn K (.ref f5) = true)
    {od6 an6 : Option Addr} {sl6 : Array (Option Value)} {oc6 dc6 pm6 cd6 ct6 : Value} {f6 : Addr} {kV6 : Value}
    (a6 : PySem.W.findIn K (.ref C_Table) "determinant" = some (some (.ref f6))) (i6 : PySem.W.isFn K (.ref f6) = true) (l6 : K.lookup f6 = some ⟨oc6, od6, .func (PySem.W.fnOf "determinant" "Table.determinant" (defArgs s_Table_determinant) (defBody s_Table_determinant) (defScope s_Table_determinant) .none kV6 dc6 pm6 an6 cd6 ct6), sl6⟩) (c6 : PySem.W.codeIn K cd6 "Table.determinant" = true) (k6 : PySem.W.keepIn K (.ref f6) = true)
    {od7 an7 : Option Addr} {sl7 : Array (Option Value)} {oc7 kV7 dc7 pm7 cd7 ct7 : Value} {f7 : Addr}
    (a7 : PySem.W.nsIn K mainGlobals "outer" = some (some (.ref f7))) (l7 : K.lookup f7 = some ⟨oc7, od7, .func (PySem.W.fnOf "outer" "outer" (defArgs s_outer) (defBody s_outer) (defScope s_outer) .none kV7 dc7 pm7 an7 cd7 ct7), sl7⟩) (c7 : PySem.W.codeIn K cd7 "outer" = true) (k7 : PySem.W.keepIn K (.ref f7) = true)
    {od8 an8 : Option Addr} {sl8 : Array (Option Value)} {oc8 kV8 dc8 pm8 cd8 ct8 : Value} {f8 : Addr}
    (a8 : PySem.W.nsIn K mainGlobals "_law_source" = some (some (.ref f8))) (l8 : K.lookup f8 = some ⟨oc8, od8, .func (PySem.W.fnOf "_law_source" "_law_source" (defArgs s_source) (defBody s_source) (defScope s_source) .none kV8 dc8 pm8 an8 cd8 ct8), sl8⟩) (c8 : PySem.W.codeIn K cd8 "_law_source" = true) (k8 : PySem.W.keepIn K (.ref f8) = true)
    {od9 an9 : Option Addr} {sl9 : Array (Option Value)} {oc9 kV9 dc9 pm9 cd9 ct9 : Value} {f9 : Addr}
    (a9 : PySem.W.nsIn K mainGlobals "_law_pull" = some (some (.ref f9))) (l9 : K.lookup f9 = some ⟨oc9, od9, .func (PySem.W.fnOf "_law_pull" "_law_pull" (defArgs s_pull) (defBody s_pull) (defScope s_pull) .none kV9 dc9 pm9 an9 cd9 ct9), sl9⟩) (c9 : PySem.W.codeIn K cd9 "_law_pull" = true) (k9 : PySem.W.keepIn K (.ref f9) = true)
    {od10 an10 : Option Addr} {sl10 : Array (Option Value)} {oc10 kV10 dc10 pm10 cd10 ct10 : Value} {f10 : Addr}
    (a10 : PySem.W.nsIn K mainGlobals "_law_of" = some (some (.ref f10))) (l10 : K.lookup f10 = some ⟨oc10, od10, .func (PySem.W.fnOf "_law_of" "_law_of" (defArgs s_of) (defBody s_of) (defScope s_of) .none kV10 dc10 pm10 an10 cd10 ct10), sl10⟩) (c10 : PySem.W.codeIn K cd10 "_law_of" = true) (k10 : PySem.W.keepIn K (.ref f10) = true)
    {od11 an11 : Option Addr} {sl11 : Array (Option Value)} {oc11 kV11 dc11 pm11 cd11 ct11 : Value} {f11 : Addr}
    (a11 : PySem.W.nsIn K mainGlobals "_law_any_pair" = some (some (.ref f11))) (l11 : K.lookup f11 = some ⟨oc11, od11, .func (PySem.W.fnOf "_law_any_pair" "_law_any_pair" (defArgs s_any_pair) (defBody s_any_pair) (defScope s_any_pair) .none kV11 dc11 pm11 an11 cd11 ct11), sl11⟩) (c11 : PySem.W.codeIn K cd11 "_law_any_pair" = true) (k11 : PySem.W.keepIn K (.ref f11) = true)
    {od12 an12 : Option Addr} {sl12 : Array (Option Value)} {oc12 kV12 dc12 pm12 cd12 ct12 : Value} {f12 : Addr}
    (a12 : PySem.W.nsIn K mainGlobals "_law_a_number" = some (some (.ref f12))) (l12 : K.lookup f12 = some ⟨oc12, od12, .func (PySem.W.fnOf "_law_a_number" "_law_a_number" (defArgs s_a_number) (defBody s_a_number) (defScope s_a_number) .none kV12 dc12 pm12 an12 cd12 ct12), sl12⟩) (c12 : PySem.W.codeIn K cd12 "_law_a_number" = true) (k12 : PySem.W.keepIn K (.ref f12) = true)
    {od13 an13 : Option Addr} {sl13 : Array (Option Value)} {oc13 kV13 dc13 pm13 cd13 ct13 : Value} {f13 : Addr}
    (a13 : PySem.W.nsIn K mainGlobals "_law_roots" = some (some (.ref f13))) (l13 : K.lookup f13 = some ⟨oc13, od13, .func (PySem.W.fnOf "_law_roots" "_law_roots" (defArgs s_roots) (defBody s_roots) (defScope s_roots) .none kV13 dc13 pm13 an13 cd13 ct13), sl13⟩) (c13 : PySem.W.codeIn K cd13 "_law_roots" = true) (k13 : PySem.W.keepIn K (.ref f13) = true)
    {od14 an14 : Option Addr} {sl14 : Array (Option Value)} {oc14 kV14 dc14 pm14 cd14 ct14 : Value} {f14 : Addr}
    (a14 : PySem.W.nsIn K mainGlobals "_law_a_root" = some (some (.ref f14))) (l14 : K.lookup f14 = some ⟨oc14, od14, .func (PySem.W.fnOf "_law_a_root" "_law_a_root" (defArgs s_a_root) (defBody s_a_root) (defScope s_a_root) .none kV14 dc14 pm14 an14 cd14 ct14), sl14⟩) (c14 : PySem.W.codeIn K cd14 "_law_a_root" = true) (k14 : PySem.W.keepIn K (.ref f14) = true)
    {od15 an15 : Option Addr} {sl15 : Array (Option Value)} {oc15 kV15 dc15 pm15 cd15 ct15 : Value} {f15 : Addr}
    (a15 : PySem.W.nsIn K mainGlobals "_law_like" = some (some (.ref f15))) (l15 : K.lookup f15 = some ⟨oc15, od15, .func (PySem.W.fnOf "_law_like" "_law_like" (defArgs s_like) (defBody s_like) (defScope s_like) .none kV15 dc15 pm15 an15 cd15 ct15), sl15⟩) (c15 : PySem.W.codeIn K cd15 "_law_like" = true) (k15 : PySem.W.keepIn K (.ref f15) = true)
    {od16 an16 : Option Addr} {sl16 : Array (Option Value)} {oc16 kV16 dc16 pm16 cd16 ct16 : Value} {f16 : Addr}
    (a16 : PySem.W.nsIn K mainGlobals "law" = some (some (.ref f16))) (l16 : K.lookup f16 = some ⟨oc16, od16, .func (PySem.W.fnOf "law" "law" (defArgs s_law) (defBody s_law) (defScope s_law) .none kV16 dc16 pm16 an16 cd16 ct16), sl16⟩) (c16 : PySem.W.codeIn K cd16 "law" = true) (k16 : PySem.W.keepIn K (.ref f16) = true)
    (z0 : PySem.W.nsIn K mainGlobals "isinstance" = some none)
    (z1 : PySem.W.nsIn K mainGlobals "range" = some none)
    (z2 : PySem.W.nsIn K mainGlobals "str" = some none)
    (z3 : PySem.W.nsIn K mainGlobals "sum" = some none)
    (z4 : PySem.W.nsIn K mainGlobals "any" = some none)
    (z5 : PySem.W.nsIn K mainGlobals "list" = some none)
    (z6 : PySem.W.nsIn K mainGlobals "tuple" = some none)
    (z7 : PySem.W.nsIn K mainGlobals "len" = some none)
    (z8 : PySem.W.nsIn K mainGlobals "all" = some none)
    (z9 : PySem.W.nsIn K mainGlobals "bool" = some none)
    : ∃ fd : FuncData, (∀ (s : Shared) (v : Value), BindsTo s fd ⟨[v], []⟩ [("_law_script", v)]) ∧ ∀ base : Heap, K.In base → base.Ns mainGlobals mg → FnOk l.prog w K mg base CX0 5 fa fd ["_law_script"] (spLaw K) := by
  have e := hfa.symm.trans (PySem.W.mg_of X G a16)
  cases e
  have F0 := fun_mk (st := s_scaled) l0 c0 k0
  have b0 := F0.binds (ps := ["pair", "number"]) fun _ _ _ _ _ _ us hl => match us, hl with | [_, _], _ => rfl
  have F1 : FunD K "__init__" "Table.__init__" (defArgs s_Table_init) (defBody s_Table_init) (defScope s_Table_init) [.ref r01] [] f1 _ := ⟨⟨_, _, _, _, _, _, _, _, _, _, rfl, l1, c1, .inr ⟨by simp, T1, _, [.ref r01], _, rfl, t1, rfl, .cons rfl .nil⟩, .inl rfl⟩, k1⟩
  have b1 := bd_given l1 t1 (ps := ["self", "rows"]) (fun us hl => match us, hl with | [_, _], _ => ⟨_, rfl, rfl⟩)
  have e1 := bd_dflt l1 t1 (ps := ["self", "rows"]) (fun us hl => match us, hl with | [_], _ => ⟨_, rfl, rfl⟩)
  have F2 := fun_mk (st := s_Table_rows) l2 c2 k2
  have b2 := F2.binds (ps := ["self"]) fun _ _ _ _ _ _ us hl => match us, hl with | [_], _ => rfl
  have F3 := fun_mk (st := s_Table_area_for) l3 c3 k3
  have b3 := F3.binds (ps := ["self", "root"]) fun _ _ _ _ _ _ us hl => match us, hl with | [_, _], _ => rfl
  have F4 := fun_mk (st := s_Table_marks) l4 c4 k4
  have b4 := bd_kw l4 kd4 (ps := ["self", "turning"]) (fun us hl => match us, hl with | [_], _ => ⟨_, _, _, _, _, _, rfl, rfl, rfl⟩)
  have F5 := fun_mk (st := s_Table_weight) l5 c5 k5
  have b5 := F5.binds (ps := ["self", "pair"]) fun _ _ _ _ _ _ us hl => match us, hl with | [_, _], _ => rfl
  have F6 := fun_mk (st := s_Table_determinant) l6 c6 k6
  have b6 := F6.binds (ps := ["self"]) fun _ _ _ _ _ _ us hl => match us, hl with | [_], _ => rfl
  have F7 := fun_mk (st := s_outer) l7 c7 k7
  have b7 := F7.binds (ps := ["one", "other"]) fun _ _ _ _ _ _ us hl => match us, hl with | [_, _], _ => rfl
  have F8 := fun_mk (st := s_source) l8 c8 k8
  have b8 := F8.binds (ps := ["_law_script"]) fun _ _ _ _ _ _ us hl => match us, hl with | [_], _ => rfl
  have F9 := fun_mk (st := s_pull) l9 c9 k9
  have b9 := F9.binds (ps := ["_law_bag", "_law_size"]) fun _ _ _ _ _ _ us hl => match us, hl with | [_, _], _ => rfl
  have F10 := fun_mk (st := s_of) l10 c10 k10
  have b10 := F10.binds (ps := ["_law_bag", "_law_some"]) fun _ _ _ _ _ _ us hl => match us, hl with | [_, _], _ => rfl
  have F11 := fun_mk (st := s_any_pair) l11 c11 k11
  have b11 := F11.binds (ps := ["_law_bag"]) fun _ _ _ _ _ _ us hl => match us, hl with | [_], _ => rfl
  have F12 := fun_mk (st := s_a_number) l12 c12 k12
  have b12 := F12.binds (ps := ["_law_bag"]) fun _ _ _ _ _ _ us hl => match us, hl with | [_], _ => rfl
  have F13 := fun_mk (st := s_roots) l13 c13 k13
  have b13 := F13.binds (ps := []) fun _ _ _ _ _ _ us hl => match us, hl with | [], _ => rfl
  have F14 := fun_mk (st := s_a_root) l14 c14 k14
  have b14 := F14.binds (ps := ["_law_bag"]) fun _ _ _ _ _ _ us hl => match us, hl with | [_], _ => rfl
  have F15 := fun_mk (st := s_like) l15 c15 k15
  have b15 := F15.binds (ps := ["_law_found", "_law_due"]) fun _ _ _ _ _ _ us hl => match us, hl with | [_, _], _ => rfl
  have F16 := fun_mk (st := s_law) l16 c16 k16
  have T : Txt K mg := {
    f_scaled := f0
    d_scaled := _
    F_scaled := F0
    g_scaled := PySem.W.mg_of X G a0
    b_scaled := b0
    C_Table := C_Table
    cl_Table := .mk pg_Table hd_Table po_Table sa_Table
    g_Table := PySem.W.mg_of X G aC_Table
    sf_Table := sf_Table
    nq_Table := nq_Table
    n_Table_cells := n_Table_cells
    M_Table := .mk mk_Table a1 i1 kc_Table
    f_Table_init := f1
    d_Table_init := _
    r0_Table_init := r01
    F_Table_init := F1
    b_Table_init := b1
    b0_Table_init := e1
    v0_Table_init := .cons rfl .nil
    z0_Table_init := .mk y1a y1b y1c
    m_Table_rows := .mk a2 i2 k2
    f_Table_rows := f2
    d_Table_rows := _
    F_Table_rows := F2
    b_Table_rows := b2
    m_Table_area_for := .mk a3 i3 k3
    f_Table_area_for := f3
    d_Table_area_for := _
    F_Table_area_for := F3
    b_Table_area_for := b3
    m_Table_marks := .mk a4 i4 k4
    f_Table_marks := f4
    d_Table_marks := _
    F_Table_marks := F4
    b_Table_marks := b4
    m_Table_weight := .mk a5 i5 k5
    f_Table_weight := f5
    d_Table_weight := _
    F_Table_weight := F5
    b_Table_weight := b5
    m_Table_determinant := .mk a6 i6 k6
    f_Table_determinant := f6
    d_Table_determinant := _
    F_Table_determinant := F6
    b_Table_determinant := b6
    f_outer := f7
    d_outer := _
    F_outer := F7
    g_outer := PySem.W.mg_of X G a7
    b_outer := b7
    f_source := f8
    d_source := _
    F_source := F8
    g_source := PySem.W.mg_of X G a8
    b_source := b8
    f_pull := f9
    d_pull := _
    F_pull := F9
    g_pull := PySem.W.mg_of X G a9
    b_pull := b9
    f_of := f10
    d_of := _
    F_of := F10
    g_of := PySem.W.mg_of X G a10
    b_of := b10
    f_any_pair := f11
    d_any_pair := _
    F_any_pair := F11
    g_any_pair := PySem.W.mg_of X G a11
    b_any_pair := b11
    f_a_number := f12
    d_a_number := _
    F_a_number := F12
    g_a_number := PySem.W.mg_of X G a12
    b_a_number := b12
    f_roots := f13
    d_roots := _
    F_roots := F13
    g_roots := PySem.W.mg_of X G a13
    b_roots := b13
    f_a_root := f14
    d_a_root := _
    F_a_root := F14
    g_a_root := PySem.W.mg_of X G a14
    b_a_root := b14
    f_like := f15
    d_like := _
    F_like := F15
    g_like := PySem.W.mg_of X G a15
    b_like := b15
    n_isinstance := PySem.W.mg_none_of X G z0
    n_range := PySem.W.mg_none_of X G z1
    n_str := PySem.W.mg_none_of X G z2
    n_sum := PySem.W.mg_none_of X G z3
    n_any := PySem.W.mg_none_of X G z4
    n_list := PySem.W.mg_none_of X G z5
    n_tuple := PySem.W.mg_none_of X G z6
    n_len := PySem.W.mg_none_of X G z7
    n_all := PySem.W.mg_none_of X G z8
    n_bool := PySem.W.mg_none_of X G z9
    kb_Table_marks_turning := kbn_Table_marks_turning F4
    kb_Table_weight_pair := kbn_Table_weight_pair F5
    kb_outer_other_one := kbn_outer_other_one F7 }
  exact ⟨PySem.W.fnOf "law" "law" (defArgs s_law) (defBody s_law) (defScope s_law) .none kV16 dc16 pm16 an16 cd16 ct16, fun s v => .of_eq rfl, fun base _ _ => ok_law F16 T⟩
end Gy
open PySem PySem.W PyProof.Rows
set_option maxRecDepth 100000 in
set_option maxHeartbeats 0 in
theorem PySem.Challenge.cw_grainyard_k12_marks_weights_and_areas_holds : PySem.Challenge.rw_grainyard_k12_marks_weights_and_areas.Holds := by
  w_on; o_law; k_head; (case hw => w_witness2)
  k_fill
  refine L2.walk_of (l := PySem.Challenge.rw_grainyard_k12_marks_weights_and_areas) (n := 63) (k := 5) (x := "_law_script") (CX := fun _ => L2.CX0) (sp := fun w => Gy.spLaw _) rfl (by decide) rfl ⟨rfl, by decide, by decide⟩ (fun w h Y => PySem.W.kIn_of Y) ?F (fun _ _ a ns hl _ hS => ⟨a, ns, rfl, hS, hl, fun _ => rfl⟩) (fun _ _ _ _ _ h => h)
  case F =>
    intro w mg fa h KX G hmg
    refine' Gy.all_mk KX G hmg ?aC_Table ?pg_Table ?hd_Table ?po_Table ?sa_Table ?mk_Table ?kc_Table ?sf_Table ?nq_Table ?n_Table_cells ?a0 ?l0 ?c0 ?k0 ?a1 ?i1 ?l1 ?c1 ?k1 ?t1 ?y1a ?y1b ?y1c ?a2 ?i2 ?l2 ?c2 ?k2 ?a3 ?i3 ?l3 ?c3 ?k3 ?a4 ?i4 ?l4 ?c4 ?k4 ?kd4 ?a5 ?i5 ?l5 ?c5 ?k5 ?a6 ?i6 ?l6 ?c6 ?k6 ?a7 ?l7 ?c7 ?k7 ?a8 ?l8 ?c8 ?k8 ?a9 ?l9 ?c9 ?k9 ?a10 ?l10 ?c10 ?k10 ?a11 ?l11 ?c11 ?k11 ?a12 ?l12 ?c12 ?k12 ?a13 ?l13 ?c13 ?k13 ?a14 ?l14 ?c14 ?k14 ?a15 ?l15 ?c15 ?k15 ?a16 ?l16 ?c16 ?k16 ?z0 ?z1 ?z2 ?z3 ?z4 ?z5 ?z6 ?z7 ?z8 ?z9
    (case aC_Table => k_is); (case pg_Table => k_is); (case hd_Table => k_is); (case po_Table => k_is); (case sa_Table => k_is); (case mk_Table => k_is); (case kc_Table => k_is); (case sf_Table => k_is); (case nq_Table => k_is); (case n_Table_cells => k_is); (case a0 => k_is); (case l0 => k_is); (case c0 => k_is); (case k0 => k_is); (case a1 => k_is); (case i1 => k_is); (case l1 => k_is); (case c1 => k_is); (case k1 => k_is); (case t1 => k_is); (case y1a => k_is); (case y1b => k_is); (case y1c => k_is); (case a2 => k_is); (case i2 => k_is); (case l2 => k_is); (case c2 => k_is); (case k2 => k_is); (case a3 => k_is); (case i3 => k_is); (case l3 => k_is); (case c3 => k_is); (case k3 => k_is); (case a4 => k_is); (case i4 => k_is); (case l4 => k_is); (case c4 => k_is); (case k4 => k_is); (case kd4 => k_is); (case a5 => k_is); (case i5 => k_is); (case l5 => k_is); (case c5 => k_is); (case k5 => k_is); (case a6 => k_is); (case i6 => k_is); (case l6 => k_is); (case c6 => k_is); (case k6 => k_is); (case a7 => k_is); (case l7 => k_is); (case c7 => k_is); (case k7 => k_is); (case a8 => k_is); (case l8 => k_is); (case c8 => k_is); (case k8 => k_is); (case a9 => k_is); (case l9 => k_is); (case c9 => k_is); (case k9 => k_is); (case a10 => k_is); (case l10 => k_is); (case c10 => k_is); (case k10 => k_is); (case a11 => k_is); (case l11 => k_is); (case c11 => k_is); (case k11 => k_is); (case a12 => k_is); (case l12 => k_is); (case c12 => k_is); (case k12 => k_is); (case a13 => k_is); (case l13 => k_is); (case c13 => k_is); (case k13 => k_is); (case a14 => k_is); (case l14 => k_is); (case c14 => k_is); (case k14 => k_is); (case a15 => k_is); (case l15 => k_is); (case c15 => k_is); (case k15 => k_is); (case a16 => k_is); (case l16 => k_is); (case c16 => k_is); (case k16 => k_is); (case z0 => k_is); (case z1 => k_is); (case z2 => k_is); (case z3 => k_is); (case z4 => k_is); (case z5 => k_is); (case z6 => k_is); (case z7 => k_is); (case z8 => k_is); (case z9 => k_is)

