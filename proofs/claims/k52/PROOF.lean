import PyProof.Rows.All
import Wide.All
import OpenK.AllK
import Wide.FinOn
import HandS.ForMost
import HandS.Wide
import HandS.WideBits
import HandS.IsInst
import HandS.Defaults
import HandS.Star
import HandS.Evl
import HandS.NoneIn
import HandS.Style
import HandS.SlotsOwn
import HandS.MakeKwOnly
import HandS.ForExc
import HandS.ExcInit
import HandS.MapJoin
import HandS.NestedK
import HandS.Lambda
import HandS.EndTab
import HandS.TryMany
import HandS.HotCalls
import HandS.ExcField
import HandS.ClsMeth
import KE.KExcSuper
import KE.KExcIs
import KE.KOpsOwn
import KE.KNestM
import HandS.Property
import KE.DataEq
import HandS.Deep
import HandS.TupAny
import HandS.Zip
import HandS.Dict
import HandS.More
import HandS.FStr
import HandS.Text
import HandS.RaiseMore
import HandS.DictComp
import HandS.DictTup
import HandS.Conv
import HandS.Comp
import KE.KDictKeyed
import KE.KeyNested
import KE.SortData
import KE.KDictItemsList
import KE.GoesMore
import HandS.Walk
import HandS.Sort
import HandS.SetFor
import HandS.Finally
import KE.KSuper
import HandS.StrMore
import PySem.Challenge.RW_grainyard_k52_tallies_and_journals
set_option Elab.async false
set_option linter.all false
set_option maxRecDepth 100000
set_option maxHeartbeats 4000000
namespace Gy
open PySem PySem.Spec PyProof.Rows L2
theorem sq_nn (x : Int) : 0 ≤ x * x := by
  rcases Int.le_total 0 x with h | h
  · exact Int.mul_nonneg h h
  · exact Int.mul_nonneg_of_nonpos_of_nonpos h h
theorem sq_le {x y : Int} (h0 : 0 ≤ x) (h : x ≤ y) : x * x ≤ y * y := Int.mul_le_mul h h h0 (Int.le_trans h0 h)
theorem sq_lt {x y : Int} (h0 : 0 ≤ x) (h : x < y) : x * x < y * y := by
  have h1 : (x + 1) * (x + 1) ≤ y * y := sq_le (by omega) (by omega)
  grind
theorem lt_of_sq {x y : Int} (h0 : 0 ≤ y) (h : x * x < y * y) : x < y := by
  rcases Int.lt_or_le x y with z | z
  · exact z
  · have := sq_le h0 z
    omega
theorem le_of_sq {x y : Int} (h0 : 0 ≤ y) (h : x * x ≤ y * y) : x ≤ y := by
  rcases Int.lt_or_le y x with z | z
  · have := sq_lt h0 z
    omega
  · exact z
/-- Newton's step from above -/
theorem newton_up {g n : Int} (hg : 0 < g) (hn : 0 ≤ n) : n < ((g + n / g) / 2 + 1) * ((g + n / g) / 2 + 1) := by
  have hq : 0 ≤ n / g := Int.ediv_nonneg hn (by omega)
  have h1 : n < g * (n / g + 1) := by
    have := Int.lt_ediv_add_one_mul_self n hg
    grind
  generalize n / g = q at hq h1 ⊢
  have h2 : g + q + 1 ≤ 2 * ((g + q) / 2 + 1) := by omega
  generalize (g + q) / 2 = r at h2 ⊢
  have h3 := sq_nn (g - (q + 1))
  have h4 := sq_le (show 0 ≤ g + q + 1 by omega) h2
  grind
theorem newton_dn {g n : Int} (hg : 0 < g) (h : n < g * g) : (g + n / g) / 2 < g := by
  have h1 : n / g < g := Int.ediv_lt_of_lt_mul hg h
  omega
theorem newton_nn {g n : Int} (hg : 0 < g) (hn : 0 ≤ n) : 0 ≤ (g + n / g) / 2 := by
  have hq : 0 ≤ n / g := Int.ediv_nonneg hn (by omega)
  omega
/-- no root times a square is a square -/
theorem no_square {d k : Int} (hk : 0 ≤ k) (h1 : k * k < d) (h2 : d < (k + 1) * (k + 1)) : ∀ (n : Nat) (b w : Int), 0 < b → 0 ≤ w → b.toNat ≤ n → w * w ≠ d * b * b
  | 0, b, w, hb, _, hn => by omega
  | n + 1, b, w, hb, hw, hn => fun e => by
    have hbb : 0 < b * b := Int.mul_pos hb hb
    have l1 : (k * b) * (k * b) < w * w := by
      have := Int.mul_lt_mul_of_pos_right h1 hbb
      grind
    have l2 : w * w < ((k + 1) * b) * ((k + 1) * b) := by
      have := Int.mul_lt_mul_of_pos_right h2 hbb
      grind
    have m1 : k * b < w := lt_of_sq hw l1
    have m2 : w < (k + 1) * b := lt_of_sq (Int.mul_nonneg (by omega) (by omega)) l2
    have m3 : w - k * b < b := by grind
    refine no_square hk h1 h2 n (w - k * b) (d * b - k * w) (by omega) ?_ (by omega) (by grind)
    have : (k * w) * b ≤ (d * b) * b := by
      have z := Int.mul_le_mul_of_nonneg_right (Int.le_of_lt m1) hw
      grind
    have z : k * w ≤ d * b := Int.le_of_mul_le_mul_right this hb
    omega
/-! ### defs with defaults, methods by keywords -/
inductive Dflt (K : PySem.W.Frag) (r : Addr) : Prop
  | mk {y1 y2 : Addr} {d e f : Option Addr} {m n o : Nat} {s t u : Array (Option Value)} {v w x y : Tok} (a : K.lookup r = some ⟨.type "tuple", d, .seq #[.ref y1, .ref y2] m, s⟩)
      (b : K.lookup y1 = some ⟨.type "tuple", e, .seq #[.int 0 v, .int 0 w] n, t⟩) (c : K.lookup y2 = some ⟨.type "tuple", f, .seq #[.int 0 x, .int 0 y] o, u⟩) : Dflt K r
section
variable {K : PySem.W.Frag} {f T D : Addr} {oc tc u : Value} {od td : Option Addr} {fd : FuncData} {sl ts : Array (Option Value)} {tn : Nat} {its : Array Value} {ps : List Str} {x : Str}
theorem bd_given (l : K.lookup f = some ⟨oc, od, .func fd, sl⟩) (t : K.lookup T = some ⟨tc, td, .seq its tn, ts⟩) (h : ∀ us : List Value, us.length = ps.length → ∃ k, bindArgs fd ⟨us, []⟩ = seqItems? (.ref T) >>= k ∧ k (some its) = pure (ps.zip us)) : Binds K fd ps [] := fun s us X hl => by
  rw [List.append_nil] at hl ⊢
  obtain ⟨k, e1, e2⟩ := h us hl
  refine BindsTo.of_looks fun M => ?_
  rw [e1]
  exact looks_items X t rfl (.of_pure e2)
theorem bd_dflt {v : Value} (l : K.lookup f = some ⟨oc, od, .func fd, sl⟩) (t : K.lookup T = some ⟨tc, td, .seq #[v] tn, ts⟩) (h : ∀ us : List Value, us.length + 1 = ps.length → ∃ k, bindArgs fd ⟨us, []⟩ = seqItems? (.ref T) >>= k ∧ k (some #[v]) = pure (ps.zip (us ++ [v]))) : Binds K fd ps [v] := fun s us X hl => by
  rw [List.length_append] at hl
  obtain ⟨k, e1, e2⟩ := h us hl
  refine BindsTo.of_looks fun M => ?_
  rw [e1]
  exact looks_items X t rfl (.of_pure e2)
theorem bd_kw (l : K.lookup f = some ⟨oc, od, .func fd, sl⟩) (kd : PySem.W.nsIn K D x = some (some u)) (h : ∀ us : List Value, us.length + 1 = ps.length → KwChain D [(x, u)] (bindArgs fd ⟨us, []⟩) (ps.zip (us ++ [u]))) : Binds K fd ps [u] := fun s us X hl => by
  rw [List.length_append] at hl
  refine BindsTo.of_looks fun M => ?_
  refine KwChain.looks X ?_ (h us hl)
  intro q hq
  rcases List.mem_cons.mp hq with e | e
  · rw [e]
    exact kd
  · cases e
end
section
variable {X : Cx} {CX : CXT} {k : Nat} {f C : Addr} {fd : FuncData} {ps ks : List Str} {sp : Sp} {E : XK} {m : Str} {pos apos : Pos} {o : Expr} {kws : List Keyword} {ta : TE} {tk : TA}
theorem pe_methK0 {pl : Sem Bool} {g : List Value → List Value → List Value} {gV : List V → List V → List V} (he : PE X o ta) (c : Cls X.K C) (hm : Meth X.K C m f) (F : FnOk X.prog X.w X.K X.mg X.base CX k f fd ps sp) (hr : Room k X.A) (hb : KBn X.K fd ps 1 ks g gV) (hx : Passes CX X E) (hkw : PK X kws tk)
    (hall : (backToKw pos (keywordEach kws X.env)).all (·.1.isSome) = true := by rfl)
    (hks : (backToKw pos (keywordEach kws X.env)).filterMap (·.1) = ks := by rfl)
    (hpl : ((backTo pos (starEach [] X.env)).any (·.1) || (backToKw pos (keywordEach kws X.env)).any (·.1.isNone)) = false := by rfl)
    (ht : eval (.Call (.Attribute o m apos) [] kws pos) X.env = (do
      let ov ← eval o X.env
      standAt apos.atName
      let (f, first) ← holding [ov] (getMethod ov m pl)
      callWith pos f first (backTo pos (starEach [] X.env)) (backToKw pos (keywordEach kws X.env))) := by rfl) :
    PE X (.Call (.Attribute o m apos) [] kws pos) (fun σ H Q => ta σ H fun x H1 => ∃ a dx fs, x = .ref a ∧ H1 a = some (.ins C dx fs) ∧ fs.lookup m = none ∧ tk σ H1 fun zs H2 => zs.length = ks.length ∧ sp (gV [.ref a] zs) H2 Q E) := by
  refine ⟨fun pins s σ H Q I h => ?_⟩
  refine PySem.W.methodCall_KW (pl := pl) (thn (he.run pins s σ H _ I h) fun u s1 ⟨x, H1, I1, rx, a, dx, fs, ex, ea, l, q⟩ => ?_) ht
  subst ex
  obtain rfl : u = Value.ref a := rx
  refine getmeth_ok I1 ea c hm l ?_
  refine PySem.W.callWith_KW0 (first := [.ref a]) (h₀ := X.base) I.ok.mod.kin hm.kp hall ?_ hpl
  refine thn (hkw.run pos pins s1 σ H1 _ I1 q) fun ws s2 ⟨zs, H2, I2, rz, l2, q2⟩ => ⟨I2.kIn, ?_⟩
  rw [hks]
  exact run_fnN (us := [.ref a]) (vs := [.ref a]) F hr hb hx I2 (.cons rfl .nil) rz rfl l2 q2
end
/-- a method with super(): its def at f, its code object at c -/
structure SupM (X : Cx) (f c : Addr) (ar : Arg) : Prop where
  fu : X.env.func = some f
  co : X.env.code = .ref c
  fd : ∃ (o : Obj) (fd : FuncData), X.K.lookup f = some o ∧ o.data = .func fd ∧ (fd.params.posonlyargs ++ fd.params.args).head? = some ar
  cd : ∃ (o : Obj) (vs : Array Value) (file : Str) (tk : Tok), X.K.lookup c = some o ∧ o.data = .fields vs ∧ vs[2]? = some (.str file tk) ∧ ((X.prog.main.file : Str) == file) = true
  ks : X.env.kindOf "super" = some .globalImplicit
  kc : X.env.kindOf "__class__" = some .free
  ka : X.env.kindOf ar.arg = some .local
  top : (X.prog.main.scope.names.lookup ("super" : Str)).isSome = false
  no : X.mg "super" = none
  op : PySem.W.nsIn X.K cStatics "thirdparty.any" = some none
open NdefX
/-! ### super().m(..) in a class of one's own -/
abbrev NFS (name qual : Str) (st : Stmt) (cc c : Addr) : NF := ⟨name, qual, defArgs st, defBody st, defScope st, [(("__class__" : Str), cc)], c⟩
/-- above the class at D, on the way of the class at C, m is the def at g -/
structure Above (K : PySem.W.Frag) (C D : Addr) (m : Str) (g : Addr) : Prop where
  su : PySem.W.ks_superIn K C D m = some (some (.ref g))
  mr : PySem.W.mroIn K C (.ref D) = some true
/-- a def that a bound method may hold -/
structure AsM (K : PySem.W.Frag) (g : Addr) : Prop where
  ty : PySem.W.typeIn K (.ref g) = some (.type "function")
  fi : PySem.W.fnIn K g = true
/-- a def in the class at D that says super() -/
structure SupF (P : Program) (K : PySem.W.Frag) (mg : Str → Option Value) (name qual : Str) (st : Stmt) (D : Addr) where
  f : Addr
  cc : Addr
  c : Addr
  ar : Arg
  doc : Value
  pm : Value
  ctv : Value
  lk : ∃ (od : Option Addr) (sl : Array (Option Value)), K.lookup f = some ⟨.type "function", od, .func ((NFS name qual st cc c).fd doc pm ctv), sl⟩
  cd : PySem.W.codeIn K (.ref c) qual = true
  cl : ∃ o : Obj, K.lookup cc = some o ∧ o.data = .cell (some (.ref D))
  hd : ((defArgs st).posonlyargs ++ (defArgs st).args).head? = some ar
  fl : ∃ (o : Obj) (vs : Array Value) (file : Str) (tk : Tok), K.lookup c = some o ∧ o.data = .fields vs ∧ vs[2]? = some (.str file tk) ∧ ((P.main.file : Str) == file) = true
  ks : (defScope st).names.lookup ("super" : Str) = some .globalImplicit
  kc : (defScope st).names.lookup ("__class__" : Str) = some .free
  ka : (defScope st).names.lookup ar.arg = some .local
  top : (P.main.scope.names.lookup ("super" : Str)).isSome = false
  no : mg "super" = none
  op : PySem.W.nsIn K cStatics "thirdparty.any" = some none
  at_ : PySem.W.findIn K (.ref D) name = some (some (.ref f))
  fn : PySem.W.isFn K (.ref f) = true
  kp : PySem.W.keepIn K (.ref f) = true
  ic : PySem.W.isClsIn K D = true
  har : ar.arg = "self"
theorem SupF.meth {P : Program} {K : PySem.W.Frag} {mg : Str → Option Value} {name qual : Str} {st : Stmt} {D : Addr} (S : SupF P K mg name qual st D) : Meth K D name S.f := ⟨S.at_, S.fn, S.kp⟩
abbrev SupF.fd {P : Program} {K : PySem.W.Frag} {mg : Str → Option Value} {name qual : Str} {st : Stmt} {D : Addr} (S : SupF P K mg name qual st D) : FuncData := (NFS name qual st S.cc S.c).fd S.doc S.pm S.ctv
theorem SupF.asM {P : Program} {K : PySem.W.Frag} {mg : Str → Option Value} {name qual : Str} {st : Stmt} {D : Addr} (S : SupF P K mg name qual st D) : AsM K S.f := by
  obtain ⟨od, sl, lk⟩ := S.lk
  exact ⟨beq_iff_eq.mp S.fn, by unfold PySem.W.fnIn; rw [lk]⟩
def supw {P : Program} {K : PySem.W.Frag} {mg : Str → Option Value} {h : Heap} {name qual : Str} {st : Stmt} {D : Addr} (X : K.In h) (G : h.Ns mainGlobals mg) {f c cc : Addr} {od cld cdd : Option Addr} {sl csl ccs : Array (Option Value)} {doc pm ctv clc ccl : Value} {vs : Array Value} {file : Str} {tf : Tok} {ar : Arg}
    (op : PySem.W.nsIn K cStatics "thirdparty.any" = some none) (no : PySem.W.nsIn K mainGlobals "super" = some none)
    (hh : ((defArgs st).posonlyargs ++ (defArgs st).args).head? = some ar) (har : ar.arg = "self")
    (ks : (defScope st).names.lookup ("super" : Str) = some .globalImplicit) (kc : (defScope st).names.lookup ("__class__" : Str) = some .free) (ka : (defScope st).names.lookup ar.arg = some .local)
    (top : (P.main.scope.names.lookup ("super" : Str)).isSome = false) (ic : PySem.W.isClsIn K D = true)
    (aI : PySem.W.findIn K (.ref D) name = some (some (.ref f)))
    (lI : K.lookup f = some ⟨.type "function", od, .func (PySem.W.fnX name qual (defArgs st) (defBody st) (defScope st) [(("__class__" : Str), cc)] .none .none doc pm none (.ref c) ctv), sl⟩)
    (iF : PySem.W.isFn K (.ref f) = true) (kp : PySem.W.keepIn K (.ref f) = true)
    (cI : PySem.W.codeIn K (.ref c) qual = true)
    (lc : K.lookup cc = some ⟨clc, cld, .cell (some (.ref D)), csl⟩)
    (lco : K.lookup c = some ⟨ccl, cdd, .fields vs, ccs⟩)
    (hvs : vs[2]? = some (.str file tf)) (hfile : ((P.main.file : Str) == file) = true) : SupF P K mg name qual st D where
  f := f
  cc := cc
  c := c
  ar := ar
  doc := doc
  pm := pm
  ctv := ctv
  lk := ⟨_, _, lI⟩
  cd := cI
  cl := ⟨_, lc, rfl⟩
  hd := hh
  fl := ⟨_, vs, file, tf, lco, rfl, hvs, hfile⟩
  ks := ks
  kc := kc
  ka := ka
  top := top
  no := PySem.W.mg_none_of X G no
  op := op
  at_ := aI
  fn := iF
  kp := kp
  ic := ic
  har := har
theorem cls_at {K : PySem.W.Frag} {D : Addr} {cd : ClassData} {h : Heap} (X : K.In h) (e : PySem.W.clsIn K D = some cd) : ∃ o : Obj, h.get? D = some o ∧ o.data = .cls cd := by
  unfold PySem.W.clsIn at e
  split at e
  · rename_i ho
    cases e
    exact ⟨_, X _ _ ho, rfl⟩
  · cases e
theorem fn_at {K : PySem.W.Frag} {g : Addr} {h : Heap} (X : K.In h) (e : PySem.W.typeIn K (.ref g) = some (.type "function")) : ∃ o : Obj, h.get? g = some o ∧ o.cls = .type "function" := by
  have e2 : (K.lookup g).map (·.cls) = some (.type "function") := e
  cases z : K.lookup g with
  | none =>
    rw [z] at e2
    cases e2
  | some o =>
    rw [z] at e2
    exact ⟨o, X _ _ z, Option.some.inj e2⟩
section
variable {X : Cx} {pins : List (Addr × Obj)} {σ : L2.St} {H : Hp} {s : Shared}
/-- where super() stands: the def's own words, self and its class in the slots i and j -/
structure SupH (X : Cx) (σ : L2.St) (H : Hp) (f c a C D : Addr) (ar : Arg) (i j : Nat) (m : Str) (g : Addr) : Prop where
  T : SupM X f c ar
  hi : X.N[i]? = some ar.arg
  hs : σ[i]? = some (some (.ref a))
  hj : X.N[j]? = some ("__class__" : Str)
  hsj : σ[j]? = some (some (.ref D))
  ha : ∃ dx fs, H a = some (.ins C dx fs)
  ab : Above X.K C D m g
  am : AsM X.K g
  ic : PySem.W.isClsIn X.K D = true
theorem sup_base {f c a C D g : Addr} {ar : Arg} {i j : Nat} {body : List Stmt} {m : Str} {es : List Expr} {pl : Sem Bool} {p0 p1 p2 p4 : Pos} {Qv : Value → Shared → Prop} (S : SupH X σ H f c a C D ar i j m g) (I : Inv X pins σ H s) (hm : (m == ("__class__" : Str)) = false)
    (he : eval (.Call (.Attribute (.Call (.Name "super" p0) [] [] p1) m p2) es [] p4) X.env = (do
      let ov ← attributeBase (.Call (.Name "super" p0) [] [] p1) m X.env (eval (.Call (.Name "super" p0) [] [] p1) X.env)
      standAt p2.atName
      let (g, first) ← holding [ov] (getMethod ov m pl)
      callWith p4 g first (backTo p4 (starEach es X.env)) []))
    (hq : ∀ q s', X.base.get? q = none → Inv X ((q, PySem.W.methodObj (.ref g) (.ref a)) :: pins) σ H s' → wpAny (model X.prog X.w) X.A (callWith p4 (.ref q) [] (backTo p4 (starEach es X.env)) []) Qv X.xe s') :
    _root_.PySem.wpAt (model X.prog X.w) X.A (.func body X.env) (eval (.Call (.Attribute (.Call (.Name "super" p0) [] [] p1) m p2) es [] p4) X.env) Qv X.xe s := by
  obtain ⟨T, hi, hs, hj, hsj, ⟨dx, fs, ha⟩, ab, am, ic⟩ := S
  refine ks_wpAt_MethodCall (pl := pl) ?_ he
  have KX : X.K.In s.heap := I.kIn
  obtain ⟨of, fd, hf, hfd, hp⟩ := T.fd
  obtain ⟨oc, vs, file, tk, hc, hoc, hvs, hfile⟩ := T.cd
  obtain ⟨cdD, hcd⟩ := Option.isSome_iff_exists.mp (show (PySem.W.clsIn X.K D).isSome = true from ic)
  obtain ⟨oD, hDo, hDd⟩ := cls_at KX hcd
  obtain ⟨mA, O, _, _, _, _⟩ := ins_get I.hok ha
  obtain ⟨od, J, _⟩ := O.look
  refine ks_wpAt_super_base (env := X.env) T.ks T.kc hm T.fu (KX _ _ hf) hfd hp T.co (KX _ _ hc) hoc hvs hfile T.top ?_
  obtain ⟨mb, h1, h2⟩ := I.mod.blt
  refine PySem.W.ks_loadName_global I.ok.kind T.ks (Calls.loadGlobal_builtin (by rw [I.ok.glob]; exact I.mod.glob.keeps I.bk) T.no (by rw [I.ok.blt]; exact h1.keeps I.bk) ((h2 "super" (by decide)).trans (by decide +kernel)) ⟨rfl, ?_⟩)
  obtain ⟨mm, hn, hl⟩ := I.loc
  obtain ⟨uc, rc, lc⟩ := hl j _ _ hj hsj (.inr (.inr T.kc))
  obtain ⟨ua, ra, la⟩ := hl i _ _ hi hs (.inl T.ka)
  obtain rfl : uc = Value.ref D := rc
  obtain rfl : ua = Value.ref a := ra
  obtain ⟨cc, hcc, hcell⟩ : ∃ cc, X.env.cells.lookup ("__class__" : Str) = some cc ∧ s.heap.IsCell cc (some (Value.ref D)) := by
    rcases lc with ⟨z, _⟩ | ⟨_, z⟩
    · rw [T.kc] at z
      cases z
    · exact z
  have hma : mm ar.arg = some (Value.ref a) := by
    rcases la with ⟨_, z⟩ | ⟨z, _⟩
    · exact z
    · rw [T.ka] at z
      rcases z with z | z <;> cases z
  refine wpAny_loadName_free I.ok.kind T.kc hcc hcell ?_
  refine wpAny_loadName_local I.ok.kind T.ka hn hma ?_
  refine ks_wpAny_isType_cls hDo hDd ⟨rfl, ?_⟩
  have su := ab.su
  unfold PySem.W.ks_superIn at su
  cases hC : PySem.W.clsIn X.K C with
  | none =>
    rw [hC] at su
    cases su
  | some cd =>
    rw [hC] at su
    have aC : a ≠ C := PySem.W.ks_ne KX J hC
    obtain ⟨hp', g', d, t, os⟩ := s
    refine ks_wpAny_call_super hDo hDd J.at_ J.cls (fun z e => ?_) (PySem.W.looks_mroIn KX ab.mr) fun h1 so kk => ?_
    · have w := J.no
      unfold PySem.W.notCls at w
      rw [e] at w
      exact Bool.noConfusion w
    have I1 : Inv X pins σ H ⟨h1, g', d, t, os⟩ := I.kept (t' := t) kk
    obtain ⟨og, hg1, hg2⟩ := fn_at I1.kIn am.ty
    refine ks_wpAny_getMethod_super so (PySem.W.looks_opaque I1.kIn T.op) (l₀ := cd.mro) (fun A Q E s k q => wpAny_bind ((PySem.W.looks_clsIn I1.kIn hC) A _ E s k (wpAny_pure q))) rfl I1.kIn su hg1 hg2 aC hm ?_
    exact hq h1.objs.size _ (ClX.base_none I1 (Nat.le_refl _)) (ClX.met_new (C := a) I1)
variable {CX : CXT} {k : Nat} {sp : Sp} {E : XK} {Q : VK}
theorem sup_call0 {f c a C D g : Addr} {ar : Arg} {i j : Nat} {body : List Stmt} {m : Str} {pl : Sem Bool} {p0 p1 p2 p4 : Pos} (S : SupH X σ H f c a C D ar i j m g) (I : Inv X pins σ H s) (F : FnR X.prog X.w X.K X.mg X.base CX k g sp) (hr : Room k X.A) (hx : Passes CX X E) (h : sp [.ref a] H Q E) (hm : (m == ("__class__" : Str)) = false)
    (he : eval (.Call (.Attribute (.Call (.Name "super" p0) [] [] p1) m p2) [] [] p4) X.env = (do
      let ov ← attributeBase (.Call (.Name "super" p0) [] [] p1) m X.env (eval (.Call (.Name "super" p0) [] [] p1) X.env)
      standAt p2.atName
      let (g, first) ← holding [ov] (getMethod ov m pl)
      callWith p4 g first (backTo p4 (starEach [] X.env)) [])) :
    _root_.PySem.wpAt (model X.prog X.w) X.A (.func body X.env) (eval (.Call (.Attribute (.Call (.Name "super" p0) [] [] p1) m p2) [] [] p4) X.env) (EP X pins σ Q) X.xe s :=
  sup_base S I hm he fun q s' hb I1 => PySem.W.callWith_M0 (first := []) ⟨ClX.pin_at I1, I1.kIn⟩ S.am.fi (ClX.run_cm (C := a) F hr hx I1 .nil h)
theorem sup_call1 {f c a C D g : Addr} {ar : Arg} {i j : Nat} {body : List Stmt} {m : Str} {e : Expr} {es : List Expr} {ta : TA} {pl : Sem Bool} {p0 p1 p2 p4 : Pos} (S : SupH X σ H f c a C D ar i j m g) (I : Inv X pins σ H s) (F : FnR X.prog X.w X.K X.mg X.base CX k g sp) (hr : Room k X.A) (hx : Passes CX X E)
    (ha : PA X (e :: es) ta) (h : ta σ H fun vs H1 => sp (.ref a :: vs) H1 Q E) (hm : (m == ("__class__" : Str)) = false) (hst : starEach (e :: es) X.env = (false, eval e X.env) :: starEach es X.env) (hpl : (backTo p4 (starEach es X.env)).any (·.1) = false)
    (he : eval (.Call (.Attribute (.Call (.Name "super" p0) [] [] p1) m p2) (e :: es) [] p4) X.env = (do
      let ov ← attributeBase (.Call (.Name "super" p0) [] [] p1) m X.env (eval (.Call (.Name "super" p0) [] [] p1) X.env)
      standAt p2.atName
      let (g, first) ← holding [ov] (getMethod ov m pl)
      callWith p4 g first (backTo p4 (starEach (e :: es) X.env)) [])) :
    _root_.PySem.wpAt (model X.prog X.w) X.A (.func body X.env) (eval (.Call (.Attribute (.Call (.Name "super" p0) [] [] p1) m p2) (e :: es) [] p4) X.env) (EP X pins σ Q) X.xe s :=
  sup_base S I hm he fun q s' hb I1 => ClX.callwith_cm (C := a) I1 hb S.am.fi (thn (ha.run p4 _ s' σ H _ I1 h) fun us s3 ⟨vs, H2, I3, rv, q2⟩ => ⟨⟨ClX.pin_at I3, I3.kIn⟩, ClX.run_cm (C := a) F hr hx I3 rv q2⟩) hst hpl
/-- how a def's body ends -/
def EndS (X : Cx) (Q : VK) (fl : Flow) (z : Shared) : Prop := match fl with
  | .ret u => ∃ (v : V) (τ : L2.St) (G : Hp), Inv X [] τ G z ∧ RelV v u ∧ Q v G
  | .next => ∃ (τ : L2.St) (G : Hp), Inv X [] τ G z ∧ Q .non G
  | _ => False
theorem sup_first {call : Expr} {p5 : Pos} {rest : List Stmt} {body : List Stmt} {t : TS} {Q0 : VK} (hc : _root_.PySem.wpAt (model X.prog X.w) X.A (.func body X.env) (eval call X.env) (EP X [] σ Q0) X.xe s) (hrest : PSs X rest t) (hq : ∀ v G, Q0 v G → t { nx := fun _ H' => Q .non H', rt := Q } σ G)
    (hint : interactive X.env = false) (hsw : swapsWith call none p5.line X.env = pure false) :
    _root_.PySem.wpAt (model X.prog X.w) X.A (.func body X.env) (execs (.Expr call p5 :: rest) X.env) (EndS X Q) X.xe s := by
  refine ks_wpAt_execs_cons (ks_wpAt_Expr_any (ks_wpAt_mono hc (fun u s1 hz => ?_) fun e s' hx => hx) hint hsw)
  obtain ⟨v, G, J, _, q⟩ := hz
  refine _root_.PySem.wpAt_of_wpAny (wpAny_mono (hrest.run [] s1 σ G _ J (hq v G q)) (fun fl z hz => ?_) fun e s' hx => hx)
  cases fl with
  | ret u =>
    obtain ⟨v5, τ5, G5, J5, r5, q5⟩ := hz
    exact ⟨v5, τ5, G5, J5, r5, q5⟩
  | next =>
    obtain ⟨τ5, G5, J5, q5⟩ := hz
    exact ⟨τ5, G5, J5, q5⟩
  | brk =>
    obtain ⟨_, _, _, q5⟩ := hz
    exact q5.elim
  | cont =>
    obtain ⟨_, _, _, q5⟩ := hz
    exact q5.elim
theorem sup_ret {call : Expr} {p5 : Pos} {body : List Stmt} (hc : _root_.PySem.wpAt (model X.prog X.w) X.A (.func body X.env) (eval call X.env) (EP X [] σ Q) X.xe s) :
    _root_.PySem.wpAt (model X.prog X.w) X.A (.func body X.env) (execs [.Return (some call) p5] X.env) (EndS X Q) X.xe s := by
  refine ks_wpAt_execs_cons (ks_wpAt_Return_some (ks_wpAt_mono hc (fun u s1 hz => ?_) fun e s' hx => hx))
  obtain ⟨v, G, J, r, q⟩ := hz
  exact ⟨v, σ, G, J, r, q⟩
end
section
variable {P : Program} {w : World} {K : PySem.W.Frag} {mg : Str → Option Value} {base : Heap} {name qual : Str} {st : Stmt} {D : Addr}
/-- a def that says super(), by its body -/
theorem sup_fn {N ps : List Str} {k : Nat} {sp : Sp} (S : SupF P K mg name qual st D) (NS : NScope N ps ["__class__"] (defScope st)) (len : ∀ vs H Q E, sp vs H Q E → vs.length = ps.length)
    (hbody : ∀ (A : Around) (outer : List Env) (s s1 : Shared) (H : Hp) (vs : List V) (Q : VK) (E : XK), Room k (A.deeper (envF (NFS name qual st S.cc S.c) S.f s.heap.objs.size)) → sp vs H Q E →
      SupM (ncx CX0 P w K mg base N (NFS name qual st S.cc S.c) S.f A outer s H E) S.f S.c S.ar → Inv (ncx CX0 P w K mg base N (NFS name qual st S.cc S.c) S.f A outer s H E) [] (startF N vs [some (.ref D)]) H s1 →
      _root_.PySem.wpAt (model P w) (ncx CX0 P w K mg base N (NFS name qual st S.cc S.c) S.f A outer s H E).A (.func (defBody st) (ncx CX0 P w K mg base N (NFS name qual st S.cc S.c) S.f A outer s H E).env) (execs (defBody st) (ncx CX0 P w K mg base N (NFS name qual st S.cc S.c) S.f A outer s H E).env)
        (EndS (ncx CX0 P w K mg base N (NFS name qual st S.cc S.c) S.f A outer s H E) Q) (ncx CX0 P w K mg base N (NFS name qual st S.cc S.c) S.f A outer s H E).xe s1) :
    FnOk P w K mg base CX0 (k + 1) S.f S.fd ps sp := by
  refine ⟨len, fun A outer s H args us vs Q E hr e0 hb r hsp => ?_⟩
  have KX : K.In s.heap := e0.mod.kin.keeps fun b o e => (e0.bs b o e).1
  have hl := len _ _ _ _ hsp
  have lim : s.heap.NoLimit := e0.mod.nolimit.keeps fun b o e => (e0.bs b o e).1
  obtain ⟨od, sl, lk⟩ := S.lk
  obtain ⟨oc, lcc, dcc⟩ := S.cl
  refine codeAny_call_function hr.depth (KX _ _ lk) rfl NS.co NS.gen rfl (PySem.W.codeRec_of KX S.cd) (hb _ _ _ _ ?_)
  refine wpAny_newFunctionEnv NS.nocell (fun ⟨x, _⟩ hy => NS.par x (List.of_mem_zip hy).1) (fun h1 hns hsb => ⟨lim.fresh _ hsb, ?_⟩) NS.kind
  have kp : ∀ b o, s.heap.get? b = some o → h1.get? b = some o := fun b o e => hsb.extBut b o (Nat.ne_of_lt (Heap.lt_size e)) (Heap.get?_push_of_some _ e)
  have CA : CellsAt (NFS name qual st S.cc S.c).cl ["__class__"] [some (.ref D)] s.heap H := by
    have hc : ∀ (y : Str) (c : Addr), ([(("__class__" : Str), S.cc)] : List (Str × Addr)).lookup y = some c → c = S.cc ∧ y = "__class__" := fun y c e => by
      rw [List.lookup_cons] at e
      split at e
      · rename_i z
        exact ⟨(Option.some.inj e).symm, eq_of_beq z⟩
      · cases e
    refine ⟨rfl, fun y c e => ?_, fun x y c e1 e2 => (hc x c e1).2.trans (hc y c e2).2.symm, fun i y e => ?_⟩
    · rw [(hc y c e).1]
      exact ⟨(e0.bs _ _ (e0.mod.kin _ _ lcc)).2, _, oc, KX _ _ lcc, dcc⟩
    · match i, e with
      | 0, e =>
        cases e
        exact ⟨S.cc, by simp, fun v e => by cases e; exact ⟨_, rfl, oc, KX _ _ lcc, dcc⟩⟩
  have I : Inv (ncx CX0 P w K mg base N (NFS name qual st S.cc S.c) S.f A outer s H E) [] (startF N vs [some (.ref D)]) H { s with heap := h1, toks := s.toks + (ps.zip us).length } := inv_startN NS hr.hd e0 hl r CA hns kp
  have TM : SupM (ncx CX0 P w K mg base N (NFS name qual st S.cc S.c) S.f A outer s H E) S.f S.c S.ar := ⟨rfl, rfl, ⟨_, _, lk, rfl, S.hd⟩, S.fl, S.ks, S.kc, S.ka, S.top, S.no, S.op⟩
  refine ks_codeAny_funcAt (body := defBody st) (env := envF (NFS name qual st S.cc S.c) S.f s.heap.objs.size) ?_
  refine ks_wpAt_mono (hbody A outer s _ H vs Q E (hr.deeper _) hsp TM I) (fun fl z hz => ?_) fun e s' hx => hx
  cases fl with
  | ret u =>
    obtain ⟨v, τ, G, J, rv, q⟩ := hz
    exact ⟨_, _, J.os, J.bare, J.base, J.hok, rv, q⟩
  | next =>
    obtain ⟨τ, G, J, q⟩ := hz
    exact ⟨V.non, _, J.os, J.bare, J.base, J.hok, rfl, q⟩
  | brk => exact hz.elim
  | cont => exact hz.elim
end
/-- one of two readings -/
theorem PE.or2 {X : Cx} {e : Expr} {t u : TE} (h : PE X e t) (g : PE X e u) : PE X e (fun σ H Q => t σ H Q ∨ u σ H Q) := ⟨fun pins s σ H Q I q => q.elim (h.run pins s σ H Q I) (g.run pins s σ H Q I)⟩
section
variable {P : Program} {w : World} {K : PySem.W.Frag} {mg : Str → Option Value} {base : Heap} {name qual : Str} {st : Stmt} {D : Addr}
theorem bare_fn {CX : CXT} {k : Nat} {f : Addr} {fd : FuncData} {ps : List Str} {sp : Sp} (F : FnOk P w K mg base CX k f fd ps sp) (hb : Binds K fd ps []) : FnR P w K mg base CX k f sp :=
  (F.raw hb .nil).imp fun vs H Q E h => by
    rw [List.append_nil]
    exact h
abbrev supE (m : Str) (es : List Expr) (p0 p1 p2 p4 : Pos) : Expr := .Call (.Attribute (.Call (.Name "super" p0) [] [] p1) m p2) es [] p4
abbrev SupTree (m : Str) (es : List Expr) (p0 p1 p2 p4 : Pos) (pl : Sem Bool) (env : Env) : Prop := eval (supE m es p0 p1 p2 p4) env = (do
      let ov ← attributeBase (.Call (.Name "super" p0) [] [] p1) m env (eval (.Call (.Name "super" p0) [] [] p1) env)
      standAt p2.atName
      let (g, first) ← holding [ov] (getMethod ov m pl)
      callWith p4 g first (backTo p4 (starEach es env)) [])
/-- super().m() ahead of the rest -/
theorem sup_fn0 {N ps : List Str} {k kg i j : Nat} {sp spg : Sp} {g : Addr} {m : Str} {p0 p1 p2 p4 p5 : Pos} {rest : List Stmt} {pl : Addr → Sem Bool} (S : SupF P K mg name qual st D) (NS : NScope N ps ["__class__"] (defScope st)) (len : ∀ vs H Q E, sp vs H Q E → vs.length = ps.length)
    (hi : N[i]? = some S.ar.arg) (hj : N[j]? = some ("__class__" : Str)) (hbd : defBody st = .Expr (supE m [] p0 p1 p2 p4) p5 :: rest) (F : FnR P w K mg base CX0 kg g spg) (am : AsM K g) (hk : kg ≤ k) (hm : (m == ("__class__" : Str)) = false)
    (hbody : ∀ (A : Around) (outer : List Env) (s : Shared) (H : Hp) (vs : List V) (Q : VK) (E : XK), Room k (A.deeper (envF (NFS name qual st S.cc S.c) S.f s.heap.objs.size)) → sp vs H Q E →
      ∃ t, PSs (ncx CX0 P w K mg base N (NFS name qual st S.cc S.c) S.f A outer s H E) rest t ∧ ∃ a C, (startF N vs [some (.ref D)])[i]? = some (some (.ref a)) ∧ (startF N vs [some (.ref D)])[j]? = some (some (.ref D)) ∧ (∃ dx fs, H a = some (.ins C dx fs)) ∧ Above K C D m g ∧
        spg [.ref a] H (fun _ G => t { nx := fun _ H' => Q .non H', rt := Q } (startF N vs [some (.ref D)]) G) E0)
    (he : ∀ L, SupTree m [] p0 p1 p2 p4 (pl L) (envF (NFS name qual st S.cc S.c) S.f L) := by intro _; rfl)
    (hint : ∀ L, interactive (envF (NFS name qual st S.cc S.c) S.f L) = false := by intro _; rfl)
    (hsw : ∀ L, swapsWith (supE m [] p0 p1 p2 p4) none p5.line (envF (NFS name qual st S.cc S.c) S.f L) = pure false := by intro _; rfl) : FnOk P w K mg base CX0 (k + 1) S.f S.fd ps sp := by
  refine sup_fn S NS len fun A outer s s1 H vs Q E hr h TM I => ?_
  obtain ⟨t, ht, a, C, h1, h2, h3, h4, h5⟩ := hbody A outer s H vs Q E hr h
  rw [hbd]
  exact sup_first (sup_call0 ⟨TM, hi, h1, hj, h2, h3, h4, am, S.ic⟩ I F (hr.mono hk) pass0 h5 hm (he _)) ht (fun v G q => q) (hint _) (hsw _)
/-- super().m(e) ahead of the rest -/
theorem sup_fn1 {N ps : List Str} {k kg i j : Nat} {sp spg : Sp} {g : Addr} {m : Str} {e : Expr} {p0 p1 p2 p4 p5 : Pos} {rest : List Stmt} {pl : Addr → Sem Bool} (S : SupF P K mg name qual st D) (NS : NScope N ps ["__class__"] (defScope st)) (len : ∀ vs H Q E, sp vs H Q E → vs.length = ps.length)
    (hi : N[i]? = some S.ar.arg) (hj : N[j]? = some ("__class__" : Str)) (hbd : defBody st = .Expr (supE m [e] p0 p1 p2 p4) p5 :: rest) (F : FnR P w K mg base CX0 kg g spg) (am : AsM K g) (hk : kg ≤ k) (hm : (m == ("__class__" : Str)) = false)
    (hbody : ∀ (A : Around) (outer : List Env) (s : Shared) (H : Hp) (vs : List V) (Q : VK) (E : XK), Room k (A.deeper (envF (NFS name qual st S.cc S.c) S.f s.heap.objs.size)) → sp vs H Q E →
      ∃ t ta, PSs (ncx CX0 P w K mg base N (NFS name qual st S.cc S.c) S.f A outer s H E) rest t ∧ PA (ncx CX0 P w K mg base N (NFS name qual st S.cc S.c) S.f A outer s H E) [e] ta ∧ ∃ a C, (startF N vs [some (.ref D)])[i]? = some (some (.ref a)) ∧ (startF N vs [some (.ref D)])[j]? = some (some (.ref D)) ∧ (∃ dx fs, H a = some (.ins C dx fs)) ∧ Above K C D m g ∧
        ta (startF N vs [some (.ref D)]) H fun us H1 => spg (.ref a :: us) H1 (fun _ G => t { nx := fun _ H' => Q .non H', rt := Q } (startF N vs [some (.ref D)]) G) E0)
    (hst : ∀ L, starEach [e] (envF (NFS name qual st S.cc S.c) S.f L) = [(false, eval e (envF (NFS name qual st S.cc S.c) S.f L))] := by intro _; rfl)
    (he : ∀ L, SupTree m [e] p0 p1 p2 p4 (pl L) (envF (NFS name qual st S.cc S.c) S.f L) := by intro _; rfl)
    (hint : ∀ L, interactive (envF (NFS name qual st S.cc S.c) S.f L) = false := by intro _; rfl)
    (hsw : ∀ L, swapsWith (supE m [e] p0 p1 p2 p4) none p5.line (envF (NFS name qual st S.cc S.c) S.f L) = pure false := by intro _; rfl) : FnOk P w K mg base CX0 (k + 1) S.f S.fd ps sp := by
  refine sup_fn S NS len fun A outer s s1 H vs Q E hr h TM I => ?_
  obtain ⟨t, ta, ht, hta, a, C, h1, h2, h3, h4, h5⟩ := hbody A outer s H vs Q E hr h
  rw [hbd]
  exact sup_first (sup_call1 ⟨TM, hi, h1, hj, h2, h3, h4, am, S.ic⟩ I F (hr.mono hk) pass0 hta h5 hm (hst _) rfl (he _)) ht (fun v G q => q) (hint _) (hsw _)
/-- return super().m() -/
theorem sup_fnR {N ps : List Str} {k kg i j : Nat} {sp spg : Sp} {g : Addr} {m : Str} {p0 p1 p2 p4 p5 : Pos} {pl : Addr → Sem Bool} (S : SupF P K mg name qual st D) (NS : NScope N ps ["__class__"] (defScope st)) (len : ∀ vs H Q E, sp vs H Q E → vs.length = ps.length)
    (hi : N[i]? = some S.ar.arg) (hj : N[j]? = some ("__class__" : Str)) (hbd : defBody st = [.Return (some (supE m [] p0 p1 p2 p4)) p5]) (F : FnR P w K mg base CX0 kg g spg) (am : AsM K g) (hk : kg ≤ k) (hm : (m == ("__class__" : Str)) = false)
    (hbody : ∀ (H : Hp) (vs : List V) (Q : VK) (E : XK), sp vs H Q E →
      ∃ a C, (startF N vs [some (.ref D)])[i]? = some (some (.ref a)) ∧ (startF N vs [some (.ref D)])[j]? = some (some (.ref D)) ∧ (∃ dx fs, H a = some (.ins C dx fs)) ∧ Above K C D m g ∧ spg [.ref a] H Q E0)
    (he : ∀ L, SupTree m [] p0 p1 p2 p4 (pl L) (envF (NFS name qual st S.cc S.c) S.f L) := by intro _; rfl) : FnOk P w K mg base CX0 (k + 1) S.f S.fd ps sp := by
  refine sup_fn S NS len fun A outer s s1 H vs Q E hr h TM I => ?_
  obtain ⟨a, C, h1, h2, h3, h4, h5⟩ := hbody H vs Q E h
  rw [hbd]
  exact sup_ret (sup_call0 ⟨TM, hi, h1, hj, h2, h3, h4, am, S.ic⟩ I F (hr.mono hk) pass0 h5 hm (he _))
end
def topS (i : Nat) : Stmt := PySem.Challenge.pw_grainyard_k52_tallies_and_journals.main.body.getD i (.Pass ⟨0, 0, 0, 0⟩)
abbrev s_added : Stmt := topS 1
theorem sc_added : FnScope ["pairs", "a", "b"] ["pairs"] (defScope s_added) := ⟨rfl, rfl, rfl, by decide +kernel, rfl, by decide +kernel, by decide +kernel⟩
abbrev s_scaled : Stmt := topS 2
theorem sc_scaled : FnScope ["pair", "number", "a", "b"] ["pair", "number"] (defScope s_scaled) := ⟨rfl, rfl, rfl, by decide +kernel, rfl, by decide +kernel, by decide +kernel⟩
abbrev s_turned : Stmt := topS 4
theorem sc_turned : FnScope ["sheet", "across", "along"] ["sheet"] (defScope s_turned) := ⟨rfl, rfl, rfl, by decide +kernel, rfl, by decide +kernel, by decide +kernel⟩
abbrev s_side_of : Stmt := topS 6
theorem sc_side_of : FnScope ["sheet", "side", "across", "along"] ["sheet", "side"] (defScope s_side_of) := ⟨rfl, rfl, rfl, by decide +kernel, rfl, by decide +kernel, by decide +kernel⟩
abbrev s_cuts_of : Stmt := topS 8
theorem sc_cuts_of : FnScope ["step"] ["step"] (defScope s_cuts_of) := ⟨rfl, rfl, rfl, by decide +kernel, rfl, by decide +kernel, by decide +kernel⟩
abbrev s_sawn_by : Stmt := topS 9
theorem sc_sawn_by : FnScope ["step", "cuts"] ["step"] (defScope s_sawn_by) := ⟨rfl, rfl, rfl, by decide +kernel, rfl, by decide +kernel, by decide +kernel⟩
abbrev s_Tally_init : Stmt := inClass (topS 10) 0
theorem sc_Tally_init : FnScope ["self"] ["self"] (defScope s_Tally_init) := ⟨rfl, rfl, rfl, by decide +kernel, rfl, by decide +kernel, by decide +kernel⟩
abbrev s_Tally_note : Stmt := inClass (topS 10) 1
theorem sc_Tally_note : FnScope ["self", "step", "word"] ["self", "step"] (defScope s_Tally_note) := ⟨rfl, rfl, rfl, by decide +kernel, rfl, by decide +kernel, by decide +kernel⟩
abbrev s_Tally_counts : Stmt := inClass (topS 10) 2
theorem sc_Tally_counts : FnScope ["self"] ["self"] (defScope s_Tally_counts) := ⟨rfl, rfl, rfl, by decide +kernel, rfl, by decide +kernel, by decide +kernel⟩
abbrev s_Journal_init : Stmt := inClass (topS 11) 0
theorem sc_Journal_init : NScope ["self", "__class__"] ["self"] ["__class__"] (defScope s_Journal_init) := nscope_by (by decide +kernel)
abbrev s_Journal_note : Stmt := inClass (topS 11) 1
theorem sc_Journal_note : NScope ["self", "step", "__class__"] ["self", "step"] ["__class__"] (defScope s_Journal_note) := nscope_by (by decide +kernel)
abbrev s_Journal_told : Stmt := inClass (topS 11) 2
theorem sc_Journal_told : FnScope ["self"] ["self"] (defScope s_Journal_told) := ⟨rfl, rfl, rfl, by decide +kernel, rfl, by decide +kernel, by decide +kernel⟩
abbrev s_CutTally_init : Stmt := inClass (topS 12) 0
theorem sc_CutTally_init : NScope ["self", "__class__"] ["self"] ["__class__"] (defScope s_CutTally_init) := nscope_by (by decide +kernel)
abbrev s_CutTally_note : Stmt := inClass (topS 12) 1
theorem sc_CutTally_note : NScope ["self", "step", "__class__"] ["self", "step"] ["__class__"] (defScope s_CutTally_note) := nscope_by (by decide +kernel)
abbrev s_CutTally_told : Stmt := inClass (topS 12) 2
theorem sc_CutTally_told : NScope ["self", "__class__"] ["self"] ["__class__"] (defScope s_CutTally_told) := nscope_by (by decide +kernel)
abbrev s_source : Stmt := topS 14
theorem sc_source : FnScope ["_law_script", "_law_mix", "_law_cell"] ["_law_script"] (defScope s_source) := ⟨rfl, rfl, rfl, by decide +kernel, rfl, by decide +kernel, by decide +kernel⟩
abbrev s_pull : Stmt := topS 15
theorem sc_pull : FnScope ["_law_bag", "_law_size", "_law_mix", "_law_cell", "_law_found"] ["_law_bag", "_law_size"] (defScope s_pull) := ⟨rfl, rfl, rfl, by decide +kernel, rfl, by decide +kernel, by decide +kernel⟩
abbrev s_of : Stmt := topS 16
theorem sc_of : FnScope ["_law_bag", "_law_some"] ["_law_bag", "_law_some"] (defScope s_of) := ⟨rfl, rfl, rfl, by decide +kernel, rfl, by decide +kernel, by decide +kernel⟩
abbrev s_roots : Stmt := topS 17
theorem sc_roots : FnScope ["_law_d"] [] (defScope s_roots) := ⟨rfl, rfl, rfl, by decide +kernel, rfl, by decide +kernel, by decide +kernel⟩
abbrev s_a_root : Stmt := topS 18
theorem sc_a_root : FnScope ["_law_bag"] ["_law_bag"] (defScope s_a_root) := ⟨rfl, rfl, rfl, by decide +kernel, rfl, by decide +kernel, by decide +kernel⟩
abbrev s_any_pair : Stmt := topS 19
theorem sc_any_pair : FnScope ["_law_bag", "_law_size"] ["_law_bag"] (defScope s_any_pair) := ⟨rfl, rfl, rfl, by decide +kernel, rfl, by decide +kernel, by decide +kernel⟩
abbrev s_lsign : Stmt := topS 20
theorem sc_lsign : FnScope ["_law_pair", "_law_root", "_law_value"] ["_law_pair", "_law_root"] (defScope s_lsign) := ⟨rfl, rfl, rfl, by decide +kernel, rfl, by decide +kernel, by decide +kernel⟩
abbrev s_a_length : Stmt := topS 21
theorem sc_a_length : FnScope ["_law_bag", "_law_root", "_law_pair"] ["_law_bag", "_law_root"] (defScope s_a_length) := ⟨rfl, rfl, rfl, by decide +kernel, rfl, by decide +kernel, by decide +kernel⟩
abbrev s_a_sheet : Stmt := topS 22
theorem sc_a_sheet : FnScope ["_law_bag", "_law_root", "_law_one"] ["_law_bag", "_law_root"] (defScope s_a_sheet) := ⟨rfl, rfl, rfl, by decide +kernel, rfl, by decide +kernel, by decide +kernel⟩
abbrev s_lscaled : Stmt := topS 23
theorem sc_lscaled : FnScope ["_law_pair", "_law_number"] ["_law_pair", "_law_number"] (defScope s_lscaled) := ⟨rfl, rfl, rfl, by decide +kernel, rfl, by decide +kernel, by decide +kernel⟩
abbrev s_lside_of : Stmt := topS 24
theorem sc_lside_of : FnScope ["_law_sheet", "_law_side"] ["_law_sheet", "_law_side"] (defScope s_lside_of) := ⟨rfl, rfl, rfl, by decide +kernel, rfl, by decide +kernel, by decide +kernel⟩
abbrev s_with : Stmt := topS 25
theorem sc_with : FnScope ["_law_sheet", "_law_side", "_law_pair"] ["_law_sheet", "_law_side", "_law_pair"] (defScope s_with) := ⟨rfl, rfl, rfl, by decide +kernel, rfl, by decide +kernel, by decide +kernel⟩
abbrev s_any_step : Stmt := topS 26
theorem sc_any_step : FnScope ["_law_bag", "_law_root", "_law_sheet", "_law_side", "_law_copies", "_law_way", "_law_second", "_law_pieces", "_law_whole"] ["_law_bag", "_law_root"] (defScope s_any_step) := ⟨rfl, rfl, rfl, by decide +kernel, rfl, by decide +kernel, by decide +kernel⟩
abbrev s_lis_pair : Stmt := topS 27
theorem sc_lis_pair : FnScope ["_law_x"] ["_law_x"] (defScope s_lis_pair) := ⟨rfl, rfl, rfl, by decide +kernel, rfl, by decide +kernel, by decide +kernel⟩
abbrev s_is_pairs : Stmt := topS 28
theorem sc_is_pairs : FnScope ["_law_x"] ["_law_x"] (defScope s_is_pairs) := ⟨rfl, rfl, rfl, by decide +kernel, rfl, by decide +kernel, by decide +kernel⟩
abbrev s_at_least : Stmt := topS 29
theorem sc_at_least : FnScope ["_law_x", "_law_least"] ["_law_x", "_law_least"] (defScope s_at_least) := ⟨rfl, rfl, rfl, by decide +kernel, rfl, by decide +kernel, by decide +kernel⟩
abbrev s_good_step : Stmt := topS 30
theorem sc_good_step : FnScope ["_law_step", "_law_sizes", "_law_word", "_law_side", "_law_length", "_law_other"] ["_law_step"] (defScope s_good_step) := ⟨rfl, rfl, rfl, by decide +kernel, rfl, by decide +kernel, by decide +kernel⟩
abbrev s_plus : Stmt := topS 31
theorem sc_plus : FnScope ["_law_one", "_law_other"] ["_law_one", "_law_other"] (defScope s_plus) := ⟨rfl, rfl, rfl, by decide +kernel, rfl, by decide +kernel, by decide +kernel⟩
abbrev s_cut : Stmt := topS 32
theorem sc_cut : FnScope ["_law_step", "_law_many", "_law_other"] ["_law_step"] (defScope s_cut) := ⟨rfl, rfl, rfl, by decide +kernel, rfl, by decide +kernel, by decide +kernel⟩
abbrev s_counts_right : Stmt := topS 33
theorem sc_counts_right : FnScope ["_law_counts", "_law_steps", "_law_words", "_law_names", "_law_step", "_law_word"] ["_law_counts", "_law_steps"] (defScope s_counts_right) := ⟨rfl, rfl, rfl, by decide +kernel, rfl, by decide +kernel, by decide +kernel⟩
abbrev s_like : Stmt := topS 34
theorem sc_like : FnScope ["_law_found", "_law_due", "_law_k"] ["_law_found", "_law_due"] (defScope s_like) := ⟨rfl, rfl, rfl, by decide +kernel, rfl, by decide +kernel, by decide +kernel⟩
abbrev s_law : Stmt := topS 35
theorem sc_law : FnScope ["_law_script", "_law_bag", "_law_turn", "_law_kinds", "_law_root", "_law_some", "_law_seen", "_law_sawn", "_law_k", "_law_step", "_law_at", "_law_told"] ["_law_script"] (defScope s_law) := ⟨rfl, rfl, rfl, by decide +kernel, rfl, by decide +kernel, by decide +kernel⟩
structure Txt (K : PySem.W.Frag) (mg : Str → Option Value) where
  f_added : Addr
  d_added : FuncData
  F_added : Fun K "added" "added" s_added f_added d_added
  g_added : mg "added" = some (.ref f_added)
  f_scaled : Addr
  d_scaled : FuncData
  F_scaled : Fun K "scaled" "scaled" s_scaled f_scaled d_scaled
  g_scaled : mg "scaled" = some (.ref f_scaled)
  b_scaled : Binds K d_scaled ["pair", "number"] []
  f_turned : Addr
  d_turned : FuncData
  F_turned : Fun K "turned" "turned" s_turned f_turned d_turned
  g_turned : mg "turned" = some (.ref f_turned)
  b_turned : Binds K d_turned ["sheet"] []
  f_side_of : Addr
  d_side_of : FuncData
  F_side_of : Fun K "side_of" "side_of" s_side_of f_side_of d_side_of
  g_side_of : mg "side_of" = some (.ref f_side_of)
  b_side_of : Binds K d_side_of ["sheet", "side"] []
  f_cuts_of : Addr
  d_cuts_of : FuncData
  F_cuts_of : Fun K "cuts_of" "cuts_of" s_cuts_of f_cuts_of d_cuts_of
  g_cuts_of : mg "cuts_of" = some (.ref f_cuts_of)
  b_cuts_of : Binds K d_cuts_of ["step"] []
  f_sawn_by : Addr
  d_sawn_by : FuncData
  F_sawn_by : Fun K "sawn_by" "sawn_by" s_sawn_by f_sawn_by d_sawn_by
  g_sawn_by : mg "sawn_by" = some (.ref f_sawn_by)
  b_sawn_by : Binds K d_sawn_by ["step"] []
  C_Tally : Addr
  cl_Tally : Cls K C_Tally
  g_Tally : mg "Tally" = some (.ref C_Tally)
  sf_Tally : PySem.W.selfFirst K C_Tally = true
  nq_Tally : PySem.W.noSeq K C_Tally = true
  n_Tally_notes : NoAttr K C_Tally "notes"
  n_Tally_words : NoAttr K C_Tally "words"
  n_Tally_kept : NoAttr K C_Tally "kept"
  n_Tally_sawn : NoAttr K C_Tally "sawn"
  f_Tally_init : Addr
  d_Tally_init : FuncData
  F_Tally_init : Fun K "__init__" "Tally.__init__" s_Tally_init f_Tally_init d_Tally_init
  b_Tally_init : Binds K d_Tally_init ["self"] []
  M_Tally : Mk K C_Tally f_Tally_init
  f_Tally_note : Addr
  d_Tally_note : FuncData
  F_Tally_note : Fun K "note" "Tally.note" s_Tally_note f_Tally_note d_Tally_note
  b_Tally_note : Binds K d_Tally_note ["self", "step"] []
  m_Tally_note : Meth K C_Tally "note" f_Tally_note
  f_Tally_counts : Addr
  d_Tally_counts : FuncData
  F_Tally_counts : Fun K "counts" "Tally.counts" s_Tally_counts f_Tally_counts d_Tally_counts
  b_Tally_counts : Binds K d_Tally_counts ["self"] []
  m_Tally_counts : Meth K C_Tally "counts" f_Tally_counts
  C_Journal : Addr
  cl_Journal : Cls K C_Journal
  g_Journal : mg "Journal" = some (.ref C_Journal)
  sf_Journal : PySem.W.selfFirst K C_Journal = true
  nq_Journal : PySem.W.noSeq K C_Journal = true
  n_Journal_notes : NoAttr K C_Journal "notes"
  n_Journal_words : NoAttr K C_Journal "words"
  n_Journal_kept : NoAttr K C_Journal "kept"
  n_Journal_sawn : NoAttr K C_Journal "sawn"
  S_Journal_init : SupF PySem.Challenge.pw_grainyard_k52_tallies_and_journals K mg "__init__" "Journal.__init__" s_Journal_init C_Journal
  M_Journal : Mk K C_Journal S_Journal_init.f
  S_Journal_note : SupF PySem.Challenge.pw_grainyard_k52_tallies_and_journals K mg "note" "Journal.note" s_Journal_note C_Journal
  f_Journal_told : Addr
  d_Journal_told : FuncData
  F_Journal_told : Fun K "told" "Journal.told" s_Journal_told f_Journal_told d_Journal_told
  b_Journal_told : Binds K d_Journal_told ["self"] []
  m_Journal_told : Meth K C_Journal "told" f_Journal_told
  C_CutTally : Addr
  cl_CutTally : Cls K C_CutTally
  g_CutTally : mg "CutTally" = some (.ref C_CutTally)
  sf_CutTally : PySem.W.selfFirst K C_CutTally = true
  nq_CutTally : PySem.W.noSeq K C_CutTally = true
  n_CutTally_notes : NoAttr K C_CutTally "notes"
  n_CutTally_words : NoAttr K C_CutTally "words"
  n_CutTally_kept : NoAttr K C_CutTally "kept"
  n_CutTally_sawn : NoAttr K C_CutTally "sawn"
  S_CutTally_init : SupF PySem.Challenge.pw_grainyard_k52_tallies_and_journals K mg "__init__" "CutTally.__init__" s_CutTally_init C_CutTally
  M_CutTally : Mk K C_CutTally S_CutTally_init.f
  S_CutTally_note : SupF PySem.Challenge.pw_grainyard_k52_tallies_and_journals K mg "note" "CutTally.note" s_CutTally_note C_CutTally
  S_CutTally_told : SupF PySem.Challenge.pw_grainyard_k52_tallies_and_journals K mg "told" "CutTally.told" s_CutTally_told C_CutTally
  f_source : Addr
  d_source : FuncData
  F_source : Fun K "_law_source" "_law_source" s_source f_source d_source
  g_source : mg "_law_source" = some (.ref f_source)
  b_source : Binds K d_source ["_law_script"] []
  f_pull : Addr
  d_pull : FuncData
  F_pull : Fun K "_law_pull" "_law_pull" s_pull f_pull d_pull
  g_pull : mg "_law_pull" = some (.ref f_pull)
  b_pull : Binds K d_pull ["_law_bag", "_law_size"] []
  f_of : Addr
  d_of : FuncData
  F_of : Fun K "_law_of" "_law_of" s_of f_of d_of
  g_of : mg "_law_of" = some (.ref f_of)
  b_of : Binds K d_of ["_law_bag", "_law_some"] []
  f_roots : Addr
  d_roots : FuncData
  F_roots : Fun K "_law_roots" "_law_roots" s_roots f_roots d_roots
  g_roots : mg "_law_roots" = some (.ref f_roots)
  b_roots : Binds K d_roots [] []
  f_a_root : Addr
  d_a_root : FuncData
  F_a_root : Fun K "_law_a_root" "_law_a_root" s_a_root f_a_root d_a_root
  g_a_root : mg "_law_a_root" = some (.ref f_a_root)
  b_a_root : Binds K d_a_root ["_law_bag"] []
  f_any_pair : Addr
  d_any_pair : FuncData
  F_any_pair : Fun K "_law_any_pair" "_law_any_pair" s_any_pair f_any_pair d_any_pair
  g_any_pair : mg "_law_any_pair" = some (.ref f_any_pair)
  b_any_pair : Binds K d_any_pair ["_law_bag"] []
  f_lsign : Addr
  d_lsign : FuncData
  F_lsign : Fun K "_law_sign" "_law_sign" s_lsign f_lsign d_lsign
  g_lsign : mg "_law_sign" = some (.ref f_lsign)
  b_lsign : Binds K d_lsign ["_law_pair", "_law_root"] []
  f_a_length : Addr
  d_a_length : FuncData
  F_a_length : Fun K "_law_a_length" "_law_a_length" s_a_length f_a_length d_a_length
  g_a_length : mg "_law_a_length" = some (.ref f_a_length)
  b_a_length : Binds K d_a_length ["_law_bag", "_law_root"] []
  f_a_sheet : Addr
  d_a_sheet : FuncData
  F_a_sheet : Fun K "_law_a_sheet" "_law_a_sheet" s_a_sheet f_a_sheet d_a_sheet
  g_a_sheet : mg "_law_a_sheet" = some (.ref f_a_sheet)
  b_a_sheet : Binds K d_a_sheet ["_law_bag", "_law_root"] []
  f_lscaled : Addr
  d_lscaled : FuncData
  F_lscaled : Fun K "_law_scaled" "_law_scaled" s_lscaled f_lscaled d_lscaled
  g_lscaled : mg "_law_scaled" = some (.ref f_lscaled)
  b_lscaled : Binds K d_lscaled ["_law_pair", "_law_number"] []
  f_lside_of : Addr
  d_lside_of : FuncData
  F_lside_of : Fun K "_law_side_of" "_law_side_of" s_lside_of f_lside_of d_lside_of
  g_lside_of : mg "_law_side_of" = some (.ref f_lside_of)
  b_lside_of : Binds K d_lside_of ["_law_sheet", "_law_side"] []
  f_with : Addr
  d_with : FuncData
  F_with : Fun K "_law_with" "_law_with" s_with f_with d_with
  g_with : mg "_law_with" = some (.ref f_with)
  b_with : Binds K d_with ["_law_sheet", "_law_side", "_law_pair"] []
  f_any_step : Addr
  d_any_step : FuncData
  F_any_step : Fun K "_law_any_step" "_law_any_step" s_any_step f_any_step d_any_step
  g_any_step : mg "_law_any_step" = some (.ref f_any_step)
  b_any_step : Binds K d_any_step ["_law_bag", "_law_root"] []
  f_lis_pair : Addr
  d_lis_pair : FuncData
  F_lis_pair : Fun K "_law_is_pair" "_law_is_pair" s_lis_pair f_lis_pair d_lis_pair
  g_lis_pair : mg "_law_is_pair" = some (.ref f_lis_pair)
  b_lis_pair : Binds K d_lis_pair ["_law_x"] []
  f_is_pairs : Addr
  d_is_pairs : FuncData
  F_is_pairs : Fun K "_law_is_pairs" "_law_is_pairs" s_is_pairs f_is_pairs d_is_pairs
  g_is_pairs : mg "_law_is_pairs" = some (.ref f_is_pairs)
  b_is_pairs : Binds K d_is_pairs ["_law_x"] []
  f_at_least : Addr
  d_at_least : FuncData
  F_at_least : Fun K "_law_at_least" "_law_at_least" s_at_least f_at_least d_at_least
  g_at_least : mg "_law_at_least" = some (.ref f_at_least)
  b_at_least : Binds K d_at_least ["_law_x", "_law_least"] []
  f_good_step : Addr
  d_good_step : FuncData
  F_good_step : Fun K "_law_good_step" "_law_good_step" s_good_step f_good_step d_good_step
  g_good_step : mg "_law_good_step" = some (.ref f_good_step)
  b_good_step : Binds K d_good_step ["_law_step"] []
  f_plus : Addr
  d_plus : FuncData
  F_plus : Fun K "_law_plus" "_law_plus" s_plus f_plus d_plus
  g_plus : mg "_law_plus" = some (.ref f_plus)
  b_plus : Binds K d_plus ["_law_one", "_law_other"] []
  f_cut : Addr
  d_cut : FuncData
  F_cut : Fun K "_law_cut" "_law_cut" s_cut f_cut d_cut
  g_cut : mg "_law_cut" = some (.ref f_cut)
  b_cut : Binds K d_cut ["_law_step"] []
  f_counts_right : Addr
  d_counts_right : FuncData
  F_counts_right : Fun K "_law_counts_right" "_law_counts_right" s_counts_right f_counts_right d_counts_right
  g_counts_right : mg "_law_counts_right" = some (.ref f_counts_right)
  b_counts_right : Binds K d_counts_right ["_law_counts", "_law_steps"] []
  f_like : Addr
  d_like : FuncData
  F_like : Fun K "_law_like" "_law_like" s_like f_like d_like
  g_like : mg "_law_like" = some (.ref f_like)
  b_like : Binds K d_like ["_law_found", "_law_due"] []
  n_isinstance : mg "isinstance" = none
  n_range : mg "range" = none
  n_sum : mg "sum" = none
  n_dict : mg "dict" = none
  n_list : mg "list" = none
  n_int : mg "int" = none
  n_tuple : mg "tuple" = none
  n_all : mg "all" = none
  n_len : mg "len" = none
  n_abs : mg "abs" = none
  n_str : mg "str" = none
  n_sorted : mg "sorted" = none
  n_bool : mg "bool" = none
  su_JJi : PySem.W.ks_superIn K C_Journal C_Journal "__init__" = some (some (.ref f_Tally_init))
  su_CJi : PySem.W.ks_superIn K C_CutTally C_Journal "__init__" = some (some (.ref f_Tally_init))
  su_CCi : PySem.W.ks_superIn K C_CutTally C_CutTally "__init__" = some (some (.ref S_Journal_init.f))
  su_JJn : PySem.W.ks_superIn K C_Journal C_Journal "note" = some (some (.ref f_Tally_note))
  su_CJn : PySem.W.ks_superIn K C_CutTally C_Journal "note" = some (some (.ref f_Tally_note))
  su_CCn : PySem.W.ks_superIn K C_CutTally C_CutTally "note" = some (some (.ref S_Journal_note.f))
  su_CCt : PySem.W.ks_superIn K C_CutTally C_CutTally "told" = some (some (.ref f_Journal_told))
  mr_JJ : PySem.W.mroIn K C_Journal (.ref C_Journal) = some true
  mr_CJ : PySem.W.mroIn K C_CutTally (.ref C_Journal) = some true
  mr_CC : PySem.W.mroIn K C_CutTally (.ref C_CutTally) = some true
  aJc : PySem.W.findIn K (.ref C_Journal) "counts" = some (some (.ref f_Tally_counts))
  aCc : PySem.W.findIn K (.ref C_CutTally) "counts" = some (some (.ref f_Tally_counts))
  hn : PySem.W.specialIn K (.builtin "object.__class__") "__get__" = some (some (.builtin "getset_descriptor.__get__"))
  ht : PySem.W.takesIn K (.builtin "object.__class__") = some true
  caJ : PySem.W.findIn K (.ref C_Journal) "__class__" = some (some (.builtin "object.__class__"))
  caC : PySem.W.findIn K (.ref C_CutTally) "__class__" = some (some (.builtin "object.__class__"))
  moJ : PySem.W.mroIn K C_Journal (.type "object") = some true
  moC : PySem.W.mroIn K C_CutTally (.type "object") = some true
  icT : PySem.W.isClsIn K C_Tally = true
  icJ : PySem.W.isClsIn K C_Journal = true
  icC : PySem.W.isClsIn K C_CutTally = true
  twT : PySem.W.typeIn K (.ref C_Tally) = some (.type "type")
  twJ : PySem.W.typeIn K (.ref C_Journal) = some (.type "type")
  twC : PySem.W.typeIn K (.ref C_CutTally) = some (.type "type")
  sbCJ : PySem.W.subIn K (.ref C_CutTally) (.ref C_Journal) = some true
  sbJT : PySem.W.subIn K (.ref C_Journal) (.ref C_Tally) = some true
  sbJC : PySem.W.subIn K (.ref C_Journal) (.ref C_CutTally) = some false
  neCJ : C_CutTally ≠ C_Journal
  neJT : C_Journal ≠ C_Tally
/-! ### heaps, and the bag that the draws change -/
def Keep (b : Addr) (H H' : Hp) : Prop := ∀ a o, a ≠ b → H a = some o → H' a = some o
theorem Keep.refl {b : Addr} (H : Hp) : Keep b H H := fun _ _ _ e => e
theorem Keep.trans {b : Addr} {H H1 H2 : Hp} (x : Keep b H H1) (y : Keep b H1 H2) : Keep b H H2 := fun a o n e => y a o n (x a o n e)
theorem keep_put {b : Addr} {H : Hp} {o : HO} : Keep b H (upd H b o) := fun a u n e => (upd_ne n).trans e
theorem keep_new {b p : Addr} {H : Hp} {o : HO} (hp : H p = none) : Keep b H (upd H p o) := fun a u _ e => (upd_ne (ne_of_none e hp)).trans e
theorem same_new {p : Addr} {H : Hp} {o : HO} (hp : H p = none) : Same H (upd H p o) := fun a u e => (upd_ne (ne_of_none e hp)).trans e
theorem keep_of {b : Addr} {H H' : Hp} (s : Same H H') : Keep b H H' := fun a o _ e => s a o e
theorem Same.keep {b : Addr} {H H1 H2 : Hp} (s : Same H H1) (k : Keep b H1 H2) (hb : H b = none) : Same H H2 := fun a o e => k a o (ne_of_none e hb) (s a o e)
structure BagAt (H : Hp) (b s : Addr) (ns : List Int) (i j m c : Int) : Prop where
  hb : H b = some (.lst [.ref s, .int i, .int j, .int m, .int c])
  hs : H s = some (.lst (ns.map V.int))
  i0 : 0 ≤ i
  i1 : i ≤ (ns.length : Int)
  m0 : 0 ≤ m
  m1 : m < 2147483399
def Bag (H : Hp) (b sb : Addr) : Prop := ∃ (ns : List Int) (i j m c : Int), BagAt H b sb ns i j m c
theorem BagAt.ne {H : Hp} {b s : Addr} {ns : List Int} {i j m c : Int} (B : BagAt H b s ns i j m c) : s ≠ b := ne_of B.hs B.hb (by
  intro e
  injection e with e
  cases ns with
  | nil => simp at e
  | cons x r => simp at e)
theorem BagAt.put {H : Hp} {b s : Addr} {ns : List Int} {i j m c : Int} (B : BagAt H b s ns i j m c) {i' j' m' c' : Int} (h0 : 0 ≤ i') (h1 : i' ≤ (ns.length : Int)) (h2 : 0 ≤ m') (h3 : m' < 2147483399) :
    BagAt (upd H b (.lst [.ref s, .int i', .int j', .int m', .int c'])) b s ns i' j' m' c' := ⟨upd_same, (upd_ne B.ne).trans B.hs, h0, h1, h2, h3⟩
theorem BagAt.same {H H' : Hp} {b s : Addr} {ns : List Int} {i j m c : Int} (B : BagAt H b s ns i j m c) (e : Same H H') : BagAt H' b s ns i j m c := ⟨e _ _ B.hb, e _ _ B.hs, B.i0, B.i1, B.m0, B.m1⟩
theorem Bag.same {H H' : Hp} {b sb : Addr} (B : Bag H b sb) (e : Same H H') : Bag H' b sb := by
  obtain ⟨ns, i, j, m, c, B⟩ := B
  exact ⟨ns, i, j, m, c, B.same e⟩
theorem Bag.new {H : Hp} {b sb p : Addr} {o : HO} (B : Bag H b sb) (hp : H p = none) : Bag (upd H p o) b sb := B.same (same_new hp)
theorem Bag.ne {H : Hp} {b sb p : Addr} (B : Bag H b sb) (hp : H p = none) : p ≠ b := by
  obtain ⟨ns, i, j, m, c, B⟩ := B
  exact (ne_of_none B.hb hp).symm
theorem Bag.ne2 {H : Hp} {b sb p : Addr} (B : Bag H b sb) (hp : H p = none) : p ≠ sb := by
  obtain ⟨ns, i, j, m, c, B⟩ := B
  exact (ne_of_none B.hs hp).symm
theorem Bag.tup {H : Hp} {b sb p : Addr} {xs : List V} (B : Bag H b sb) (hp : H p = some (.tup xs)) : p ≠ b := by
  obtain ⟨ns, i, j, m, c, B⟩ := B
  exact ne_of hp B.hb (by intro z; cases z)
theorem Bag.put {H : Hp} {b sb l : Addr} {o : HO} (B : Bag H b sb) (h1 : l ≠ b) (h2 : l ≠ sb) : Bag (upd H l o) b sb := by
  obtain ⟨ns, i, j, m, c, B⟩ := B
  exact ⟨ns, i, j, m, c, (upd_ne h1.symm).trans B.hb, (upd_ne h2.symm).trans B.hs, B.i0, B.i1, B.m0, B.m1⟩
theorem Keep.list {K : PySem.W.Frag} {H H' : Hp} {b p : Addr} {xs : List V} (k : Keep b H H') (hp : p ≠ b) (h : H p = some (.lst xs)) : SqL K H' p xs := SqL.of (k _ _ hp h)
theorem at_some {α : Type} {xs : List α} {i : Int} (h0 : 0 ≤ i) (h1 : i < (xs.length : Int)) : ∃ v, xs[i.toNat]? = some v ∧ atI xs i = some v := by
  obtain ⟨n, rfl⟩ := Int.eq_ofNat_of_zero_le h0
  have hl : n < xs.length := by omega
  exact ⟨xs[n], by simp [hl], atI_nat (by simp [hl])⟩
theorem at_ex {ns : List Int} {i : Int} (h0 : 0 ≤ i) (h1 : i < (ns.length : Int)) : ∃ z, atI (ns.map V.int) i = some (.int z) := by
  obtain ⟨n, rfl⟩ := Int.eq_ofNat_of_zero_le h0
  have hl : n < ns.length := by omega
  exact ⟨ns[n], atI_nat (by simp [hl])⟩
/-! ### f(k = v, ..): keywords alone -/
section
variable {X : Cx}
theorem pe_kwOnly {CX : CXT} {k : Nat} {f : Addr} {fd : FuncData} {ps ks : List Str} {sp : Sp} {E : XK} {x : Str} {p pos : Pos} {kws : List Keyword} {tk : TA} {g : List Value → List Value → List Value} {gV : List V → List V → List V}
    (F : FnOk X.prog X.w X.K X.mg X.base CX k f fd ps sp) (hr : Room k X.A) (hg : Gl X x) (hm : X.mg x = some (.ref f))
    (hk : PySem.W.keepIn X.K (.ref f) = true) (hb : KBn X.K fd ps 0 ks g gV) (hx : Passes CX X E) (hkw : PK X kws tk)
    (hall : (backToKw pos (keywordEach kws X.env)).all (·.1.isSome) = true := by rfl)
    (hks : (backToKw pos (keywordEach kws X.env)).filterMap (·.1) = ks := by rfl)
    (hdb : (x == ("__debug__" : Str)) = false := by decide)
    (hpl : ((backTo pos (starEach [] X.env)).any (·.1) || (backToKw pos (keywordEach kws X.env)).any (·.1.isNone)) = false := by rfl) :
    PE X (.Call (.Name x p) [] kws pos) (fun σ H Q => tk σ H fun zs H2 => zs.length = ks.length ∧ sp (gV [] zs) H2 Q E) := by
  refine ⟨fun pins s σ H Q I h => wpAny_Call_Name_kw (ld_glob I hg hm ?_ hdb)⟩
  refine PySem.W.callWith_KW0 (h₀ := X.base) I.ok.mod.kin hk hall ?_ hpl
  refine thn (hkw.run pos pins s σ H _ I h) fun ws s2 ⟨zs, H2, I2, rz, l2, q2⟩ => ⟨I2.kIn, ?_⟩
  rw [hks]
  exact run_fnN (us := []) (vs := []) F hr hb hx I2 .nil rz rfl l2 q2
end
/-! ### dicts whose keys are sheets -/
abbrev Sh := Int × Int × Int × Int
def shK (x : Sh) : NestedKey := .tup [.tup [.num x.1, .num x.2.1], .tup [.num x.2.2.1, .num x.2.2.2]]
theorem shK_inj {x y : Sh} (h : shK x = shK y) : x = y := by
  obtain ⟨a, b, c, e⟩ := x
  obtain ⟨a', b', c', e'⟩ := y
  simp only [shK, NestedKey.tup.injEq, List.cons.injEq, NestedKey.num.injEq, and_true] at h
  obtain ⟨⟨rfl, rfl⟩, rfl, rfl⟩ := h
  rfl
theorem shK_depth (x : Sh) : (shK x).depth ≤ 8 := by
  simp [shK, NestedKey.depth, NestedKey.depthAll]
/-- the sheet x, as a tuple of two tuples at p -/
def ShAt (H : Hp) (p : Addr) (x : Sh) : Prop := ∃ u v : Addr, H p = some (.tup [.ref u, .ref v]) ∧ H u = some (.tup [.int x.1, .int x.2.1]) ∧ H v = some (.tup [.int x.2.2.1, .int x.2.2.2])
theorem ShAt.mono {H H' : Hp} (k : ∀ p xs, H p = some (.tup xs) → H' p = some (.tup xs)) {p : Addr} {x : Sh} (h : ShAt H p x) : ShAt H' p x := by
  obtain ⟨u, v, h1, h2, h3⟩ := h
  exact ⟨u, v, k _ _ h1, k _ _ h2, k _ _ h3⟩
theorem ShAt.same {H H' : Hp} (s : Same H H') {p : Addr} {x : Sh} (h : ShAt H p x) : ShAt H' p x := h.mono fun p xs z => s p _ z
/-- the entries of such a dict, in order: the sheet, where it stands, its number -/
abbrev DEs := List (Sh × Addr × Int)
def DRel (p : Sh × Addr × Int) (q : NestedKey × Addr × Value) : Prop := q.1 = shK p.1 ∧ q.2.1 = p.2.1 ∧ RelV (.int p.2.2) q.2.2
def DsH (P : Program) (w : World) (d : Addr) (es : DEs) (h : Heap) : Prop := (d == sysModules) = false ∧ es.length ≤ sizeLine ∧ ∃ xs : List (NestedKey × Addr × Value), Paired DRel es xs ∧
  ∃ o en ep, h.get? d = some o ∧ o.ExactDict ∧ o.data = .dict en ep ∧ en.toList = xs.map (entryOfKey (nestedKind P w)) ∧ (xs.map (·.1)).Nodup
def DS (P : Program) (w : World) (d : Addr) (es : DEs) : HO := .ext (DsH P w d es)
structure DAt (P : Program) (w : World) (H : Hp) (d : Addr) (es : DEs) : Prop where
  hd : H d = some (DS P w d es)
  ks : ∀ x ∈ es, ShAt H x.2.1 x.1
/-- as it may be read: also while a loop walks it -/
structure DRd (P : Program) (w : World) (H : Hp) (d : Addr) (es : DEs) : Prop where
  hd : Rd H d (DS P w d es)
  ks : ∀ x ∈ es, ShAt H x.2.1 x.1
theorem DAt.rd {P : Program} {w : World} {H : Hp} {d : Addr} {es : DEs} (D : DAt P w H d es) : DRd P w H d es := ⟨.inl D.hd, D.ks⟩
section
variable {P : Program} {w : World} {H : Hp} {h : Heap} {d : Addr} {es : DEs}
theorem DsH.stay {h' : Heap} (z : DsH P w d es h) (k : ∀ o, h.get? d = some o → h'.get? d = some o) : DsH P w d es h' := by
  obtain ⟨z1, z2, xs, r, o, en, ep, ho, z3⟩ := z
  exact ⟨z1, z2, xs, r, o, en, ep, k o ho, z3⟩
theorem ds_obj {H' : Hp} (z : DsH P w d es h) : ObjOk P w H' h d (DS P w d es) := by
  refine ⟨z, ?_, fun h1 h2 z1 k => z1.stay k⟩
  obtain ⟨_, _, _, _, o, _, _, ho, _⟩ := z
  exact ⟨o, ho⟩
theorem ints_at (ok : HOk P w H h) {a : Addr} {x y : Int} (e : H a = some (.tup [.int x, .int y])) : NestedIs h (.tup [.num x, .num y]) (.ref a) := by
  obtain ⟨_, its, r, o, ho, hc, n, hdat⟩ := ok a _ e
  cases r with
  | cons r1 t =>
    cases t with
    | cons r2 t =>
      cases t
      obtain ⟨t1, rfl⟩ := r1
      obtain ⟨t2, rfl⟩ := r2
      exact .tup ho hc hdat (.cons (.int x t1) (.cons (.int y t2) .nil))
theorem sh_key (ok : HOk P w H h) {p : Addr} {x : Sh} (e : ShAt H p x) : (nestedKind P w).is h (shK x) p := by
  obtain ⟨u, v, h1, h2, h3⟩ := e
  obtain ⟨_, its, r, o, ho, hc, n, hdat⟩ := ok p _ h1
  cases r with
  | cons r1 t =>
    cases t with
    | cons r2 t =>
      cases t
      cases r1
      cases r2
      exact ⟨.tup ho hc hdat (.cons (ints_at ok h2) (.cons (ints_at ok h3) .nil)), shK_depth x⟩
theorem Paired.getR {α β : Type} {F : α → β → Prop} : ∀ {l₁ : List α} {l₂ : List β}, Paired F l₁ l₂ → ∀ {b : β}, b ∈ l₂ → ∃ a ∈ l₁, F a b
  | _, _, .nil, _, hb => by cases hb
  | _, _, .cons r t, b, hb => by
    rcases List.mem_cons.mp hb with e | e
    · exact ⟨_, List.mem_cons_self, e ▸ r⟩
    · obtain ⟨a, ha, f⟩ := Paired.getR t e
      exact ⟨a, List.mem_cons_of_mem _ ha, f⟩
theorem ds_of (ok : HOk P w H h) (D : DRd P w H d es) : (d == sysModules) = false ∧ es.length ≤ sizeLine ∧ ∃ xs, Paired DRel es xs ∧ h.DictOfH (nestedKind P w) d xs := by
  obtain ⟨z1, z2, xs, r, o, en, ep, ho, h1, h2, h3, h4⟩ := (D.hd.ok ok).1
  refine ⟨z1, z2, xs, r, o, en, ep, ho, h1, h2, h3, fun y hy => ?_, h4⟩
  obtain ⟨e, he, f1, f2, _⟩ := Paired.getR r hy
  rw [f1, f2]
  exact sh_key ok (D.ks e he)
/-- the number of a sheet -/
def valD (es : DEs) (x : Sh) : Option Int := (es.find? fun e => decide (e.1 = x)).map (·.2.2)
def putD (es : DEs) (x : Sh) (p : Addr) (n : Int) : DEs := if (valD es x).isSome then es.map (fun e => if e.1 = x then (e.1, e.2.1, n) else e) else es ++ [(x, p, n)]
def dropD (es : DEs) (x : Sh) : DEs := es.filter fun e => decide (e.1 ≠ x)
theorem drel_val {xs : List (NestedKey × Addr × Value)} (r : Paired DRel es xs) (x : Sh) : RelO ((valD es x).map V.int) ((atKey xs (shK x)).map (·.2)) := by
  induction r with
  | nil => exact trivial
  | @cons p q l1 l2 h t ih =>
    obtain ⟨h1, h2, h3⟩ := h
    by_cases e : p.1 = x
    · have e2 : q.1 = shK x := by rw [h1, e]
      simp only [valD, atKey, List.find?_cons, e, e2, decide_true, Option.map_some]
      exact h3
    · have e2 : ¬ q.1 = shK x := fun z => e (shK_inj (h1.symm.trans z))
      simpa only [valD, atKey, List.find?_cons, e, e2, decide_false] using ih
theorem drel_map {xs : List (NestedKey × Addr × Value)} (r : Paired DRel es xs) (x : Sh) {n : Int} {v : Value} (rv : RelV (.int n) v) : Paired DRel (es.map fun e => if e.1 = x then (e.1, e.2.1, n) else e) (xs.map (putAt (shK x) v)) := by
  induction r with
  | nil => exact .nil
  | @cons p q l1 l2 h t ih =>
    obtain ⟨h1, h2, h3⟩ := h
    refine .cons ?_ ih
    by_cases e : p.1 = x
    · have e2 : q.1 = shK x := by rw [h1, e]
      show DRel (if p.1 = x then (p.1, p.2.1, n) else p) _
      rw [if_pos e, putAt, if_pos e2]
      exact ⟨h1, h2, rv⟩
    · have e2 : ¬ q.1 = shK x := fun z => e (shK_inj (h1.symm.trans z))
      show DRel (if p.1 = x then (p.1, p.2.1, n) else p) _
      rw [if_neg e, putAt, if_neg e2]
      exact ⟨h1, h2, h3⟩
theorem Paired.snoc {α β : Type} {F : α → β → Prop} {a : α} {b : β} (f : F a b) : ∀ {l₁ : List α} {l₂ : List β}, Paired F l₁ l₂ → Paired F (l₁ ++ [a]) (l₂ ++ [b])
  | _, _, .nil => .cons f .nil
  | _, _, .cons r t => .cons r (Paired.snoc f t)
theorem drel_put {xs : List (NestedKey × Addr × Value)} (r : Paired DRel es xs) (x : Sh) (p : Addr) {n : Int} {v : Value} (rv : RelV (.int n) v) : Paired DRel (putD es x p n) (storedH xs (shK x) p v) := by
  have e := (drel_val r x).isSome_eq
  rw [Option.isSome_map, Option.isSome_map] at e
  unfold putD storedH
  rw [e]
  split
  · exact drel_map r x rv
  · exact Paired.snoc ⟨rfl, rfl, rv⟩ r
theorem drel_drop {xs : List (NestedKey × Addr × Value)} (r : Paired DRel es xs) (x : Sh) : Paired DRel (dropD es x) (withoutH xs (shK x)) := by
  induction r with
  | nil => exact .nil
  | @cons p q l1 l2 h t ih =>
    obtain ⟨h1, h2, h3⟩ := h
    by_cases e : p.1 = x
    · have e2 : q.1 = shK x := by rw [h1, e]
      simpa [dropD, withoutH, List.filter_cons, e, e2] using ih
    · have e2 : ¬ q.1 = shK x := fun z => e (shK_inj (h1.symm.trans z))
      simpa [dropD, withoutH, List.filter_cons, e, e2] using Paired.cons (F := DRel) ⟨h1, h2, h3⟩ ih
theorem putD_len (es : DEs) (x : Sh) (p : Addr) (n : Int) : (putD es x p n).length ≤ es.length + 1 := by
  unfold putD
  split <;> simp
theorem putD_mem {x : Sh} {p : Addr} {n : Int} {y : Sh × Addr × Int} (h : y ∈ putD es x p n) : (y.1 = x ∧ y.2.1 = p) ∨ ∃ z ∈ es, z.1 = y.1 ∧ z.2.1 = y.2.1 := by
  unfold putD at h
  split at h
  · obtain ⟨z, hz, rfl⟩ := List.mem_map.mp h
    refine .inr ⟨z, hz, ?_⟩
    split <;> exact ⟨rfl, rfl⟩
  · rcases List.mem_append.mp h with h | h
    · exact .inr ⟨y, h, rfl, rfl⟩
    · rw [List.mem_singleton.mp h]
      exact .inl ⟨rfl, rfl⟩
theorem dropD_mem {x : Sh} {y : Sh × Addr × Int} (h : y ∈ dropD es x) : y ∈ es := (List.mem_filter.mp h).1
theorem tup_ext {l : Addr} {φ : Heap → Prop} {o : HO} (hl : H l = some (.ext φ)) (p : Addr) (xs : List V) (e : H p = some (.tup xs)) : (upd H l o) p = some (.tup xs) := (upd_ne (ne_of e hl (by intro z; cases z))).trans e
theorem DAt.same {H' : Hp} (D : DAt P w H d es) (s : Same H H') : DAt P w H' d es := ⟨s _ _ D.hd, fun x hx => (D.ks x hx).same s⟩
theorem DAt.put {x : Sh} {p : Addr} {n : Int} (D : DAt P w H d es) (hp : ShAt H p x) : DAt P w (upd H d (DS P w d (putD es x p n))) d (putD es x p n) := by
  refine ⟨upd_same, fun y hy => ?_⟩
  refine ShAt.mono (tup_ext D.hd) ?_
  rcases putD_mem hy with ⟨e1, e2⟩ | ⟨z, hz, e1, e2⟩
  · rw [e1, e2]
    exact hp
  · rw [← e1, ← e2]
    exact D.ks z hz
theorem DAt.drop {x : Sh} (D : DAt P w H d es) : DAt P w (upd H d (DS P w d (dropD es x))) d (dropD es x) := ⟨upd_same, fun y hy => (D.ks y (dropD_mem hy)).mono (tup_ext D.hd)⟩
end
/-! the operations -/
section
variable {X : Cx} {pins : List (Addr × Obj)} {σ : L2.St} {H : Hp} {s : Shared} {d p : Addr} {es : DEs} {x : Sh} {A : Around} {E : Value → Shared → Prop}
theorem ds_getItem {n : Int} {Q : Value → Shared → Prop} (hu : A.units + 9 < cLine) (I : Inv X pins σ H s) (D : DRd X.prog X.w H d es) (hp : ShAt H p x) (hv : valD es x = some n) (q : ∀ t s', Inv X pins σ H s' → Q (.int n t) s') :
    wpAny (model X.prog X.w) A (getItem (.ref d) (.ref p)) Q E s := by
  obtain ⟨_, _, xs, r, dd⟩ := ds_of I.hok D
  have rel := drel_val r x
  rw [hv] at rel
  obtain ⟨w', hw, rw'⟩ := RelO.some_of (v := V.int n) rel
  obtain ⟨y, hy, hy2⟩ := Option.map_eq_some_iff.mp hw
  refine wpAny_getItem_heap (show A.in1.units + 8 < cLine from hu) (sh_key I.hok hp) dd hy ?_
  rw [hy2]
  obtain ⟨t, rfl⟩ := rw'
  exact q t _ (I.tok _)
theorem ds_in {Q : Value → Shared → Prop} (hu : A.units + 9 < cLine) (I : Inv X pins σ H s) (D : DRd X.prog X.w H d es) (hp : ShAt H p x) (q : ∀ s', Inv X pins σ H s' → Q (.bool (valD es x).isSome) s') :
    wpAny (model X.prog X.w) A (compareOp .In (.ref p) (.ref d)) Q E s := by
  obtain ⟨hs, _, xs, r, dd⟩ := ds_of I.hok D
  refine wpAny_in_heap (show A.in1.units + 8 < cLine from hu) (sh_key I.hok hp) hs dd ?_
  have e := (drel_val r x).isSome_eq
  rw [Option.isSome_map, Option.isSome_map] at e
  rw [← e]
  exact q _ (I.tok _)
theorem ds_getOr {n : Int} {r' : Value} {Q : Value → Shared → Prop} (hu : A.units + 9 < cLine) (I : Inv X pins σ H s) (D : DRd X.prog X.w H d es) (hp : ShAt H p x) (rn : RelV (.int n) r') (q : ∀ t s', Inv X pins σ H s' → Q (.int ((valD es x).getD n) t) s') :
    wpAny (model X.prog X.w) A (call (.builtin "dict.get") [.ref d, .ref p, r']) Q E s := by
  obtain ⟨hs, _, xs, r, dd⟩ := ds_of I.hok D
  refine call_meetsIn PySem.F.slot_dict_get dd.typeIs PySem.F.entry_dict_get (PySem.F.args_dict_get_3 _ _ _) (meetsH_dict_get_default (nestedKind X.prog X.w) d p hs r') ⟨show A.in1.units + 8 < cLine from hu, shK x, xs, sh_key I.hok hp, dd, ?_⟩
  have rel := (drel_val r x).getD rn
  have e : ((valD es x).map V.int).getD (.int n) = .int ((valD es x).getD n) := by cases valD es x <;> rfl
  rw [e] at rel
  obtain ⟨t, et⟩ := rel
  rw [et]
  exact q t _ (I.tok _)
theorem ds_setItem {n : Int} {v : Value} {Q : Unit → Shared → Prop} (hu : A.units + 9 < cLine) (I : Inv X pins σ H s) (D : DAt X.prog X.w H d es) (hp : ShAt H p x) (rv : RelV (.int n) v) (hl : es.length < sizeLine)
    (q : ∀ s', Inv X pins σ (upd H d (DS X.prog X.w d (putD es x p n))) s' → Q () s') : wpAny (model X.prog X.w) A (setItem (.ref d) (.ref p) v) Q E s := by
  obtain ⟨hs, hz, xs, r, dd⟩ := ds_of I.hok D.rd
  have hz' : xs.length ≤ sizeLine := by rw [← Paired.length r]; exact hz
  refine wpAny_setItem_heap (hsz := hz') (show A.in1.units + 8 < cLine from hu) (sh_key I.hok hp) dd fun h' dd' hsb => q _ ?_
  obtain ⟨o, en, ep, h1, h2, h3, h4, _, h5⟩ := dd'
  refine d_write I (by rw [D.hd]; exact True.intro) hsb ⟨o, h1⟩ (ds_obj ⟨hs, ?_, _, drel_put r x p rv, o, en, ep, h1, h2, h3, h4, h5⟩)
  have := putD_len es x p n
  omega
theorem ds_del {Q : Unit → Shared → Prop} {n : Int} (hu : A.units + 9 < cLine) (I : Inv X pins σ H s) (D : DAt X.prog X.w H d es) (hp : ShAt H p x) (hv : valD es x = some n)
    (q : ∀ s', Inv X pins σ (upd H d (DS X.prog X.w d (dropD es x))) s' → Q () s') : wpAny (model X.prog X.w) A (delItem (.ref d) (.ref p)) Q E s := by
  obtain ⟨hs, hz, xs, r, dd⟩ := ds_of I.hok D.rd
  have hz' : xs.length ≤ sizeLine := by rw [← Paired.length r]; exact hz
  have rel := drel_val r x
  rw [hv] at rel
  obtain ⟨w', hw, rw'⟩ := RelO.some_of (v := V.int n) rel
  obtain ⟨y, hy, hy2⟩ := Option.map_eq_some_iff.mp hw
  refine wpAny_delItem_heap (hsz := hz') (show A.in1.units + 8 < cLine from hu) (sh_key I.hok hp) hs dd hy fun h' dd' hsb => q _ ?_
  obtain ⟨o, en, ep, h1, h2, h3, h4, _, h5⟩ := dd'
  refine d_write I (by rw [D.hd]; exact True.intro) hsb ⟨o, h1⟩ (ds_obj ⟨hs, ?_, _, drel_drop r x, o, en, ep, h1, h2, h3, h4, h5⟩)
  exact Nat.le_trans (List.length_filter_le _ _) hz
end
/-! as terms -/
section
variable {X : Cx} {pos pos' apos cpos tpos : Pos} {o i e f value : Expr} {td ty tx tv : TE}
theorem pe_dnewS : PE X (.Dict [] [] pos) (fun _ H Q => ∀ p, H p = none → Q (.ref p) (upd H p (DS X.prog X.w p []))) := ⟨fun pins s σ H Q I h => by
  refine wpAny_Dict_empty ⟨.ref s.heap.objs.size, _, I.laid (a := s.heap.objs.size) (o := DS X.prog X.w s.heap.objs.size []) (t' := s.toks) (fun _ _ q => Heap.get?_push_of_some _ q) (Nat.le_refl _) (ds_obj ?_), rfl, h _ (I.hok.fresh (Nat.le_refl _))⟩
  exact ⟨beq_eq_false_iff_ne.mpr (Ne.symm (Nat.ne_of_lt I.big)), Nat.zero_le _, [], .nil, _, #[], 0, Heap.get?_push_size _ rfl, ⟨rfl, rfl, rfl⟩, rfl, rfl, List.nodup_nil⟩⟩
def tSGet (P : Program) (w : World) (td ty : TE) : TE := fun σ H Q => td σ H fun v H1 => ty σ H1 fun y H2 => ∃ d p es x n, v = .ref d ∧ y = .ref p ∧ DRd P w H2 d es ∧ ShAt H2 p x ∧ valD es x = some n ∧ Q (.int n) H2
theorem ds_dict {pins : List (Addr × Obj)} {σ : L2.St} {H : Hp} {s : Shared} {d : Addr} {es : DEs} (I : Inv X pins σ H s) (D : DRd X.prog X.w H d es) : s.TypeIs (.ref d) "dict" ∧ (∀ b, Value.ref d = .ref b → ∃ ob, s.heap.get? b = some ob ∧ ob.dict = none) := by
  obtain ⟨_, _, xs, _, dd⟩ := ds_of I.hok D
  refine ⟨dd.typeIs, fun b z => ?_⟩
  cases z
  obtain ⟨ob, _, _, h1, h2, _⟩ := dd
  exact ⟨ob, h1, h2.2.1⟩
end
/-! ### dicts of sheets: in, d[k], d[k] = v, del d[k], d.get(k, n) -/
section
variable {X : Cx} {pos pos' apos cpos tpos : Pos} {o i e f value : Expr} {td ty tx tv : TE}
def rInDS (P : Program) (w : World) (neg : Bool) : R2 := fun y v H Q => ∃ p d es x, y = .ref p ∧ v = .ref d ∧ DRd P w H d es ∧ ShAt H p x ∧ Q (.bl ((valD es x).isSome != neg)) H
theorem op_inDS (hu : X.A.units + 64 < cLine) : OpR X (compareOp .In) (rInDS X.prog X.w false) := by
  intro pins s σ H y v y' v' Q I ry rv q
  obtain ⟨p, d, es, x, rfl, rfl, D, hp, q⟩ := q
  cases ry
  cases rv
  refine ds_in (by omega) I D hp fun s' I' => ⟨.bl (valD es x).isSome, H, I', rfl, ?_⟩
  rw [show (valD es x).isSome = ((valD es x).isSome != false) by simp]
  exact q
theorem op_notInDS (hu : X.A.units + 64 < cLine) : OpR X (compareOp .NotIn) (rInDS X.prog X.w true) := by
  intro pins s σ H y v y' v' Q I ry rv q
  obtain ⟨p, d, es, x, rfl, rfl, D, hp, q⟩ := q
  cases ry
  cases rv
  obtain ⟨hs, _, xs, r, dd⟩ := ds_of I.hok D
  refine wpAny_notIn_heap (show X.A.in1.units + 8 < cLine from by show X.A.units + 1 + 8 < cLine; omega) (sh_key I.hok hp) hs dd ?_
  have z := (drel_val r x).isSome_eq
  rw [Option.isSome_map, Option.isSome_map] at z
  rw [← z]
  refine ⟨.bl (!(valD es x).isSome), H, I.tok _, rfl, ?_⟩
  rw [show (!(valD es x).isSome) = ((valD es x).isSome != true) by simp]
  exact q
theorem pe_sget (hu : X.A.units + 64 < cLine) (ho : PE X o td) (hi : PE X i ty) (hs : NoSl i) : PE X (.Subscript o i pos) (tSGet X.prog X.w td ty) := by
  refine ⟨fun pins s σ H Q I q => ?_⟩
  refine subD_of PySem.F.slot_dict_getitem.lookup hs (thn (ho.run pins s σ H _ I q) fun u s1 ⟨v, H1, I1, rv, q1⟩ => thn (hi.run pins s1 σ H1 _ I1 q1) fun iv s2 ⟨y, H2, I2, ry, d, p, es, x, n, e1, e2, D, hp, hv, q2⟩ => ?_)
  subst e1 e2
  cases rv
  cases ry
  exact ⟨(ds_dict I2 D).1, ds_getItem (by omega) I2 D hp hv fun t s3 I3 => ⟨.int n, H2, I3, ⟨t, rfl⟩, q2⟩⟩
def sSPut (P : Program) (w : World) (td ty tv : TE) : TS := fun D σ H => tv σ H fun v H1 => td σ H1 fun v2 H2 => ty σ H2 fun y H3 => ∃ d p es x n, v = .int n ∧ v2 = .ref d ∧ y = .ref p ∧ DAt P w H3 d es ∧ ShAt H3 p x ∧ es.length < sizeLine ∧ D.nx σ (upd H3 d (DS P w d (putD es x p n)))
theorem ps_sput (hu : X.A.units + 64 < cLine) (ho : PE X o td) (hi : PE X i ty) (hv : PE X value tv) (hs : swapsWith value (some (.Subscript o i pos')) pos.line X.env = pure false) : PS X (.Assign [.Subscript o i pos'] value pos) (sSPut X.prog X.w td ty tv) := by
  refine ⟨fun pins s σ H D I q => ?_⟩
  refine wpAny_Assign_Subscript (thn (hv.run pins s σ H _ I q) fun r s1 ⟨v, H1, I1, rv, q1⟩ => thn (ho.run pins s1 σ H1 _ I1 q1) fun u s2 ⟨v2, H2, I2, rv2, q2⟩ => thn (hi.run pins s2 σ H2 _ I2 q2) fun iv s3 ⟨y, H3, I3, ry, d, p, es, x, n, e1, e2, e3, DA, hp, hl, q3⟩ => ?_) hs
  subst e1 e2 e3
  cases rv2
  cases ry
  exact ds_setItem (by omega) I3 DA hp rv hl fun s4 I4 => ⟨σ, _, I4, q3⟩
def sSDel (P : Program) (w : World) (td ty : TE) : TS := fun D σ H => td σ H fun v2 H2 => ty σ H2 fun y H3 => ∃ d p es x n, v2 = .ref d ∧ y = .ref p ∧ DAt P w H3 d es ∧ ShAt H3 p x ∧ valD es x = some n ∧ D.nx σ (upd H3 d (DS P w d (dropD es x)))
theorem ps_sdel (hu : X.A.units + 64 < cLine) (ho : PE X o td) (hi : PE X i ty) : PS X (.Delete [.Subscript o i tpos] pos) (sSDel X.prog X.w td ty) := by
  refine ⟨fun pins s σ H D I q => ?_⟩
  refine wpAny_Delete (wpAny_deleteEach_cons (wpAny_delete_Subscript (thn (ho.run pins s σ H _ I q) fun u s1 ⟨v2, H1, I1, rv2, q1⟩ => thn (hi.run pins s1 σ H1 _ I1 q1) fun iv s2 ⟨y, H2, I2, ry, d, p, es, x, n, e2, e3, DA, hp, hv, q2⟩ => ?_)))
  subst e2 e3
  cases rv2
  cases ry
  exact ds_del (by omega) I2 DA hp hv fun s3 I3 => wpAny_deleteEach_nil ⟨σ, _, I3, q2⟩
def sSAug (P : Program) (w : World) (td ty tv : TE) (rd : V → V → Hp → VK → Prop) : TS := fun D σ H => td σ H fun v2 H1 => ty σ H1 fun y H2 => ∃ d p es x n, v2 = .ref d ∧ y = .ref p ∧ DAt P w H2 d es ∧ ShAt H2 p x ∧ valD es x = some n ∧
  tv σ H2 fun y2 H3 => rd (.int n) y2 H3 fun z H4 => ∃ es2 m, z = .int m ∧ DAt P w H4 d es2 ∧ ShAt H4 p x ∧ es2.length < sizeLine ∧ D.nx σ (upd H4 d (DS P w d (putD es2 x p m)))
theorem ps_saug {op : Operator} {rd : V → V → Hp → VK → Prop} (hu : X.A.units + 64 < cLine) (ho : PE X o td) (hi : PE X i ty) (hv : PE X value tv) (hop : InOp X op rd)
    (ha : ∀ ov iv new, augStore i ov iv new = (do holding [new, ov, iv] (setItem ov iv new); release [new, ov, iv] []; pure .next)) : PS X (.AugAssign (.Subscript o i tpos) op value pos) (sSAug X.prog X.w td ty tv rd) := by
  refine ⟨fun pins s σ H D I q => ?_⟩
  refine wpAny_AugAssign_SubscriptAny (thn (ho.run pins s σ H _ I q) fun u s1 ⟨v2, H1, I1, rv2, q1⟩ => thn (hi.run pins s1 σ H1 _ I1 q1) fun iv s2 ⟨y, H2, I2, ry, d, p, es, x, n, e2, e3, DA, hp, hval, q2⟩ => ?_) ha
  subst e2 e3
  cases rv2
  cases ry
  refine ds_getItem (by omega) I2 DA.rd hp hval fun t s3 I3 => thn (hv.run pins s3 σ H2 _ I3 q2) fun w2 s4 ⟨y2, H3, I4, ry2, q3⟩ => ?_
  refine thn (hop pins s4 σ H3 (.int n) y2 (.int n t) w2 _ I4 ⟨t, rfl⟩ ry2 q3) fun w3 s5 ⟨z, H4, I5, rz, es2, m, ez, DA2, hp2, hl, q4⟩ => ?_
  subst ez
  exact ds_setItem (by omega) I5 DA2 hp2 rz hl fun s6 I6 => ⟨σ, _, I6, q4⟩
def tSGet2 (P : Program) (w : World) (td ty tx : TE) : TE := fun σ H Q => td σ H fun v H1 => ∃ d es, v = .ref d ∧ DRd P w H1 d es ∧ ty σ H1 fun y H2 => tx σ H2 fun z H3 => ∃ p x n es3, y = .ref p ∧ z = .int n ∧ DRd P w H3 d es3 ∧ ShAt H3 p x ∧ Q (.int ((valD es3 x).getD n)) H3
theorem pe_sget2 (hu : X.A.units + 64 < cLine) (ho : PE X o td) (he : PE X e ty) (hf : PE X f tx) (m : M2 X o "get" apos e f cpos) : PE X (.Call (.Attribute o "get" apos) [e, f] [] cpos) (tSGet2 X.prog X.w td ty tx) := by
  refine ⟨fun pins s σ H Q I q => ?_⟩
  refine wpAny_Call_method m.base m.few m.line PySem.F.plainAttrs_dict PySem.F.slot_dict_get PySem.F.type_dict_get (thn (ho.run pins s σ H _ I q) fun u s1 ⟨v, H1, I1, rv, d, es, ev, DA, q1⟩ => ?_)
  subst ev
  cases rv
  obtain ⟨t1, t2⟩ := ds_dict I1 DA
  refine ⟨t1, t2, ?_⟩
  rw [m.trees]
  refine Calls.callWith_builtin rfl (Calls.evalArgs_plain (Calls.spliced_cons (thn (he.run pins s1 σ H1 _ I1 q1) fun iv s2 ⟨y, H2, I2, ry, q2⟩ => ?_)))
  refine Calls.spliced_cons (thn (hf.run pins s2 σ H2 _ I2 q2) fun fv s3 ⟨z, H3, I3, rz, p, x, n, es3, ey, ez, DA3, hp, q3⟩ => Calls.spliced_nil ?_)
  subst ey ez
  cases ry
  exact ds_getOr (by omega) I3 DA3 hp rz fun t s4 I4 => ⟨.int _, H3, I4, ⟨t, rfl⟩, q3⟩
end
/-! ### many new objects at once -/
def addAll (H : Hp) : List (Addr × HO) → Hp
  | [] => H
  | z :: zs => addAll (upd H z.1 z.2) zs
theorem addAll_other {a : Addr} : ∀ {zs : List (Addr × HO)} {H : Hp}, (∀ z ∈ zs, z.1 ≠ a) → addAll H zs a = H a
  | [], _, _ => rfl
  | z :: zs, H, h => by
    show addAll (upd H z.1 z.2) zs a = H a
    rw [addAll_other fun y hy => h y (List.mem_cons_of_mem _ hy), upd_ne (Ne.symm (h z List.mem_cons_self))]
theorem addAll_at {a : Addr} {o : HO} : ∀ {zs : List (Addr × HO)} {H : Hp}, (zs.map (·.1)).Nodup → (a, o) ∈ zs → addAll H zs a = some o
  | [], _, _, h => by cases h
  | z :: zs, H, n, h => by
    rw [List.map_cons, List.nodup_cons] at n
    show addAll (upd H z.1 z.2) zs a = some o
    rcases List.mem_cons.mp h with e | e
    · rw [← e, addAll_other fun y hy z' => n.1 (List.mem_map.mpr ⟨y, hy, by rw [z', ← e]⟩), upd_same]
    · exact addAll_at n.2 e
theorem addAll_mem {a : Addr} {o : HO} : ∀ {zs : List (Addr × HO)} {H : Hp}, addAll H zs a = some o → (a, o) ∈ zs ∨ H a = some o
  | [], _, h => .inr h
  | z :: zs, H, h => by
    rcases addAll_mem (zs := zs) (H := upd H z.1 z.2) h with e | e
    · exact .inl (List.mem_cons_of_mem _ e)
    · by_cases ha : a = z.1
      · subst ha
        rw [upd_same] at e
        cases e
        exact .inl List.mem_cons_self
      · rw [upd_ne ha] at e
        exact .inr e
theorem addAll_same {zs : List (Addr × HO)} {H : Hp} (n : ∀ z ∈ zs, H z.1 = none) : Same H (addAll H zs) := fun a o e => (addAll_other fun z hz => (ne_of_none e (n z hz)).symm).trans e
section
variable {X : Cx} {pins : List (Addr × Obj)} {σ : L2.St} {H : Hp} {s : Shared}
theorem Inv.lays {h' : Heap} {t' : Nat} {zs : List (Addr × HO)} (I : Inv X pins σ H s) (k : ∀ b u, s.heap.get? b = some u → h'.get? b = some u) (hp : ∀ z ∈ zs, s.heap.objs.size ≤ z.1)
    (new : ∀ z ∈ zs, ObjOk X.prog X.w (addAll H zs) h' z.1 z.2) : Inv X pins σ (addAll H zs) { s with heap := h', toks := t' } := by
  have hn : ∀ z ∈ zs, H z.1 = none := fun z hz => I.hok.fresh (hp z hz)
  have sm := addAll_same hn
  refine I.call (ch := []) (g' := s.gens) (d' := s.drawn) ⟨fun b u q _ _ _ => k b u q, fun b u q _ _ _ => ⟨u.slots, k b u q⟩, fun b u q n _ => ?_, fun b u q _ => ⟨u, k b u q⟩, fun b xs q => sm _ _ q, fun b u v q => sm _ _ q, fun b ps q => ⟨#[], by rw [sm _ _ q]; simp⟩⟩ (fun b o q => ?_) I.bare (fun _ z => nomatch z)
  · rw [addAll_other fun z hz e => ?_]
    · exact n
    · have y := hp z hz
      rw [e] at y
      exact absurd (Nat.lt_of_lt_of_le (Heap.lt_size q) y) (Nat.lt_irrefl _)
  · rcases addAll_mem q with z | z
    · exact new _ z
    · exact (I.hok b o z).stay (fun c v _ y => k c v y) (fun c y => sm _ _ y) fun c xs y => sm _ _ y
end
/-! ### dicts of sheets: items, keys, values as lists; sorted -/
theorem Paired.getL {α β : Type} {F : α → β → Prop} : ∀ {l₁ : List α} {l₂ : List β}, Paired F l₁ l₂ → ∀ {j : Nat} {a : α}, l₁[j]? = some a → ∃ b, l₂[j]? = some b ∧ F a b
  | _, _, .nil, j, a, h => by simp at h
  | _, _, .cons r t, 0, a, h => by cases h; exact ⟨_, rfl, r⟩
  | _, _, .cons r t, j + 1, a, h => Paired.getL t (j := j) (by simpa using h)
theorem Paired.byIx {α β : Type} {F : α → β → Prop} : ∀ {l₁ : List α} {l₂ : List β}, l₁.length = l₂.length → (∀ (j : Nat) (a : α) (b : β), l₁[j]? = some a → l₂[j]? = some b → F a b) → Paired F l₁ l₂
  | [], [], _, _ => .nil
  | a :: l₁, b :: l₂, h, f => .cons (f 0 a b rfl rfl) (Paired.byIx (by simpa using h) fun j x y h1 h2 => f (j + 1) x y (by simpa using h1) (by simpa using h2))
  | [], _ :: _, h, _ => by simp at h
  | _ :: _, [], h, _ => by simp at h
section
variable {P : Program} {w : World} {es : DEs}
theorem ds_ent {xs : List (NestedKey × Addr × Value)} {en : Array DictEntry} (he : en.toList = xs.map (entryOfKey (nestedKind P w))) (r : Paired DRel es xs) {j : Nat} {e : Sh × Addr × Int} (h : es[j]? = some e) :
    ∃ hs v, en[j]? = some ⟨hs, .ref e.2.1, v⟩ ∧ RelV (.int e.2.2) v := by
  obtain ⟨y, hy, h1, h2, h3⟩ := Paired.getL r h
  refine ⟨(nestedKind P w).hash y.1, y.2.2, ?_, h3⟩
  rw [entry_at he j, hy, ← h2]
  rfl
theorem ds_size {xs : List (NestedKey × Addr × Value)} {en : Array DictEntry} (he : en.toList = xs.map (entryOfKey (nestedKind P w))) (r : Paired DRel es xs) : en.size = es.length := (size_of_entries he).trans (Paired.length r).symm
end
section
variable {X : Cx}
def rItemsDS (P : Program) (w : World) : V → List V → Hp → VK → Prop := fun x xs H Q => ∃ d es, x = .ref d ∧ xs = [] ∧ DAt P w H d es ∧ ∀ p, H p = none → Q (.ref p) (upd H p (DX.itemsO p d))
theorem mt_itemsDS : MtR X "dict.items" (rItemsDS X.prog X.w) := by
  intro pins s σ H x xs v us Q I rx rxs q
  obtain ⟨d, es, rfl, rfl, D, q⟩ := q
  cases rx
  cases rxs
  obtain ⟨hs, _, ys, r, o, en, ep, ho, hx, hdat, _⟩ := (I.hok d _ D.hd).1
  refine DT.callItems (es := en) (ep := ep) hs ⟨o, ho, hx, hdat⟩ ?_
  exact ⟨.ref s.heap.objs.size, upd H s.heap.objs.size (DX.itemsO s.heap.objs.size d), I.laid (t' := s.toks) (fun b u z => Heap.get?_push_of_some _ z) (Nat.le_refl _) (DX.itemsO_ok (Heap.get?_push_size _ rfl)), rfl, q _ (I.hok.fresh (Nat.le_refl _))⟩
/-- rows: a list of tuples of a sheet and its number -/
def RowsAt (H : Hp) (as : List Addr) (es : DEs) : Prop := Paired (fun a (e : Sh × Addr × Int) => H a = some (.tup [.ref e.2.1, .int e.2.2])) as es
theorem RowsAt.mono {H H' : Hp} {as : List Addr} {es : DEs} (h : RowsAt H as es) (k : ∀ p xs, H p = some (.tup xs) → H' p = some (.tup xs)) : RowsAt H' as es := Paired.mapP h fun a e z => k _ _ z
def rListItems (P : Program) (w : World) : List V → Hp → VK → Prop := fun vs H Q => ∃ p d es, vs = [.ref p] ∧ H p = some (DX.itemsO p d) ∧ DAt P w H d es ∧
  ∀ l as H', H l = none → Same H H' → H' l = some (.lst (as.map V.ref)) → RowsAt H' as es → Q (.ref l) H'
theorem call_list_itemsDS (hc : X.calm = true) : CallR X (.type "list") (rListItems X.prog X.w) := by
  intro pins s σ H vs us Q I r q
  obtain ⟨p, d, es, rfl, hp, D, q⟩ := q
  obtain ⟨u, rfl, rx⟩ := r.one
  cases rx
  obtain ⟨hs, hz, ys, rel, o, en, ep, ho, hx, hdat, he, _⟩ := (I.hok d _ D.hd).1
  have view : s.heap.IsItemsView p d := (I.hok p _ hp).1
  have hsz := ds_size he rel
  refine PySem.W.dil_call (es := en) (ep := ep) (I.ok.hd hc) view ⟨o, ho, hx, hdat⟩ (by omega) fun h' tk acc c as hk hS hl hG hacc => ?_
  have hal : as.length = es.length := by omega
  have ab : ∀ a ∈ as, s.heap.objs.size < a := hG.above
  have nd : as.Nodup := hG.rise.imp fun h => Nat.ne_of_lt h
  have hin : ∀ z ∈ (s.heap.objs.size, HO.lst (as.map V.ref)) :: (as.zip es).map (fun z => (z.1, HO.tup [.ref z.2.2.1, .int z.2.2.2])), s.heap.objs.size ≤ z.1 := by
    intro z hz
    rcases List.mem_cons.mp hz with e | e
    · rw [e]
      exact Nat.le_refl _
    · obtain ⟨y, hy, rfl⟩ := List.mem_map.mp e
      exact Nat.le_of_lt (ab _ (List.of_mem_zip hy).1)
  have hm : ((as.zip es).map (fun z : Addr × Sh × Addr × Int => (z.1, HO.tup [.ref z.2.2.1, .int z.2.2.2]))).map (·.1) = as := by
    rw [List.map_map]
    show (as.zip es).map (fun z => z.1) = as
    exact List.map_fst_zip (by omega)
  have hnd : (((s.heap.objs.size, HO.lst (as.map V.ref)) :: (as.zip es).map (fun z => (z.1, HO.tup [.ref z.2.2.1, .int z.2.2.2]))).map (·.1)).Nodup := by
    rw [List.map_cons, hm, List.nodup_cons]
    exact ⟨fun z => Nat.lt_irrefl _ (ab _ z), nd⟩
  have J := Inv.lays (t' := tk) I hk hin fun z hz => by
    rcases List.mem_cons.mp hz with e | e
    · rw [e]
      refine ⟨by rw [List.length_map]; omega, acc.toList, c, ?_, by rw [Array.toArray_toList]; exact hS⟩
      rw [hacc]
      exact vals_refs as
    · obtain ⟨y, hy, rfl⟩ := List.mem_map.mp e
      obtain ⟨j, hj⟩ := List.mem_iff_getElem?.mp hy
      rw [List.getElem?_zip_eq_some] at hj
      obtain ⟨hlt, hpair⟩ := hG.pairs j _ hj.1
      obtain ⟨hsh, v, hv, rv⟩ := ds_ent he rel hj.2
      have e1 : en[j] = ⟨hsh, .ref y.2.2.1, v⟩ := by
        rw [Array.getElem?_eq_getElem hlt] at hv
        exact Option.some.inj hv
      rw [e1] at hpair
      exact ⟨by show 2 ≤ sizeLine; decide, [.ref y.2.2.1, v], .cons rfl (.cons rv .nil), _, hpair, rfl, _, rfl⟩
  have fr := fun z hz => I.hok.fresh (hin z hz)
  refine ⟨.ref s.heap.objs.size, _, J, rfl, q _ as _ (I.hok.fresh (Nat.le_refl _)) (addAll_same fr) (addAll_at hnd List.mem_cons_self) ?_⟩
  refine Paired.byIx hal fun j a e h1 h2 => addAll_at hnd (List.mem_cons_of_mem _ (List.mem_map.mpr ⟨(a, e), ?_, rfl⟩))
  exact List.mem_of_getElem? (List.getElem?_zip_eq_some.mpr ⟨h1, h2⟩)
theorem refs_by {ys : List (NestedKey × Addr × Value)} {en : Array DictEntry} {es : DEs} {acc : Array Value} (he : en.toList = ys.map (entryOfKey (nestedKind X.prog X.w))) (rel : Paired DRel es ys)
    (hl : acc.size = en.size) (hv : ∀ (j : Nat) (v : Value), acc[j]? = some v → ∃ e : DictEntry, en[j]? = some e ∧ v = e.key) : acc.toList = (es.map fun e => e.2.1).map Value.ref := by
  have hs := ds_size he rel
  apply List.ext_getElem?
  intro j
  rw [List.getElem?_map, List.getElem?_map, Array.getElem?_toList]
  cases hj : acc[j]? with
  | none =>
    have : acc.size ≤ j := by simpa using hj
    rw [List.getElem?_eq_none (by omega)]
    rfl
  | some v =>
    obtain ⟨e, h1, rfl⟩ := hv j v hj
    have : j < acc.size := by
      rcases Nat.lt_or_ge j acc.size with z | z
      · exact z
      · rw [Array.getElem?_eq_none z] at hj
        cases hj
    obtain ⟨e2, h2⟩ : ∃ e2, es[j]? = some e2 := ⟨es[j]'(by omega), List.getElem?_eq_getElem (by omega)⟩
    obtain ⟨hsh, v, h3, _⟩ := ds_ent he rel h2
    rw [h1] at h3
    rw [h2, Option.some.inj h3]
    rfl
/-- list(d) -/
def rListKeys (P : Program) (w : World) : List V → Hp → VK → Prop := fun vs H Q => ∃ d es, vs = [.ref d] ∧ DAt P w H d es ∧ ∀ p, H p = none → Q (.ref p) (upd H p (.lst (es.map fun e => V.ref e.2.1)))
theorem call_list_DS (hc : X.calm = true) : CallR X (.type "list") (rListKeys X.prog X.w) := by
  intro pins s σ H vs us Q I r q
  obtain ⟨d, es, rfl, D, q⟩ := q
  obtain ⟨u, rfl, rx⟩ := r.one
  cases rx
  obtain ⟨hs, hz, ys, rel, o, en, ep, ho, hx, hdat, he, _⟩ := (I.hok d _ D.hd).1
  have hsz := ds_size he rel
  refine PySem.W.kdl_call (kdl_raw hs hx hdat) (I.ok.hd hc) ho (by omega) fun h' tk acc c kp e it => ?_
  have ea := refs_by (X := X) he rel it.1 fun j v hv => it.2 j v hv
  refine ⟨.ref s.heap.objs.size, _, I.laid (t' := tk) (o := .lst (es.map fun e => V.ref e.2.1)) kp (Nat.le_refl _) ?_, rfl, q _ (I.hok.fresh (Nat.le_refl _))⟩
  refine ⟨by rw [List.length_map]; exact hz, acc.toList, c, ?_, by rw [Array.toArray_toList]; exact e⟩
  rw [ea, show (es.map fun e => V.ref e.2.1) = (es.map fun e => e.2.1).map V.ref by rw [List.map_map]; rfl]
  exact vals_refs _
end
/-! the order of sheets -/
def encS (x : Sh) : PyData := .tuple [.tuple [.int x.1, .int x.2.1], .tuple [.int x.2.2.1, .int x.2.2.2]]
def ltS (x y : Sh) : Prop := x.1 < y.1 ∨ (x.1 = y.1 ∧ (x.2.1 < y.2.1 ∨ (x.2.1 = y.2.1 ∧ (x.2.2.1 < y.2.2.1 ∨ (x.2.2.1 = y.2.2.1 ∧ x.2.2.2 < y.2.2.2)))))
instance (x y : Sh) : Decidable (ltS x y) := by unfold ltS; infer_instance
def leS (x y : Sh) : Bool := !decide (ltS y x)
theorem lt_encS (x y : Sh) : PySem.W.dataLt (encS x) (encS y) = decide (ltS x y) := by
  unfold encS
  rw [PySem.W.dataLt_pair (by simp [PySem.W.alike, PySem.W.alikeAll]) (by simp [PySem.W.alike, PySem.W.alikeAll]), PySem.W.dataLt_ii, PySem.W.dataLt_ii]
  simp only [PyData.eqv, PyData.eqvAll, Bool.and_true, Bool.and_eq_true, beq_iff_eq]
  obtain ⟨a, b, c, e⟩ := x
  obtain ⟨a', b', c', e'⟩ := y
  dsimp only
  rw [Bool.eq_iff_iff, decide_eq_true_iff]
  unfold ltS
  dsimp only
  by_cases h1 : a = a' ∧ b = b'
  · rw [if_pos h1]
    by_cases h2 : c = c' ∧ e = e'
    · rw [if_pos h2]
      constructor
      · intro z
        cases z
      · omega
    · rw [if_neg h2, decide_eq_true_iff]
      omega
  · rw [if_neg h1, decide_eq_true_iff]
    omega
theorem le_encS {β : Type} (f : β → Sh) : PySem.W.dataLe false (fun b => encS (f b)) = fun a b => leS (f a) (f b) := by
  funext a b
  show (!PySem.W.dataLt (encS (f b)) (encS (f a))) = _
  rw [lt_encS]
  rfl
theorem leS_trans (x y z : Sh) (h1 : leS x y = true) (h2 : leS y z = true) : leS x z = true := by
  unfold leS at *
  simp only [Bool.not_eq_true', decide_eq_false_iff_not] at *
  unfold ltS at *
  omega
theorem leS_total (x y : Sh) : (leS x y || leS y x) = true := by
  unfold leS
  rw [Bool.or_eq_true]
  simp only [Bool.not_eq_true', decide_eq_false_iff_not]
  unfold ltS
  omega
theorem leS_antisymm {x y : Sh} (h1 : leS x y = true) (h2 : leS y x = true) : x = y := by
  unfold leS at *
  simp only [Bool.not_eq_true', decide_eq_false_iff_not] at *
  obtain ⟨a, b, c, e⟩ := x
  obtain ⟨a', b', c', e'⟩ := y
  unfold ltS at *
  dsimp only at *
  have : a = a' ∧ b = b' ∧ c = c' ∧ e = e' := by omega
  obtain ⟨rfl, rfl, rfl, rfl⟩ := this
  rfl
section
variable {X : Cx}
theorem sh_reads {P : Program} {w : World} {H : Hp} {h : Heap} (ok : HOk P w H h) {p : Addr} {x : Sh} (e : ShAt H p x) : Reads h (.ref p) (encS x) [] := by
  have two : ∀ {a : Addr} {y z : Int}, H a = some (.tup [.int y, .int z]) → Reads h (.ref a) (.tuple [.int y, .int z]) [] := by
    intro a y z e
    obtain ⟨_, its, r, o, ho, hc, n, hdat⟩ := ok a _ e
    cases r with
    | cons r1 t =>
      cases t with
      | cons r2 t =>
        cases t
        obtain ⟨t1, rfl⟩ := r1
        obtain ⟨t2, rfl⟩ := r2
        exact Reads.tuple ho hc hdat (.cons (as := []) (bs := []) (.int y t1) (.cons (as := []) (bs := []) (.int z t2) .nil))
  obtain ⟨u, v, h1, h2, h3⟩ := e
  obtain ⟨_, its, r, o, ho, hc, n, hdat⟩ := ok p _ h1
  cases r with
  | cons r1 t =>
    cases t with
    | cons r2 t =>
      cases t
      cases r1
      cases r2
      exact Reads.tuple ho hc hdat (.cons (as := []) (bs := []) (two h2) (.cons (as := []) (bs := []) (two h3) .nil))
theorem each_refs {β : Type} {f : β → Addr} : ∀ {vs : List Value} {bs : List β}, PySem.W.EachIs (fun v b => v = Value.ref (f b)) vs bs → vs = bs.map fun b => Value.ref (f b)
  | _, _, .nil => rfl
  | _, _, .cons h t => by rw [List.map_cons, ← each_refs t, h]
theorem each_of {β : Type} {F : Value → β → Prop} {f : β → Addr} : ∀ {bs : List β}, (∀ b ∈ bs, F (.ref (f b)) b) → PySem.W.EachIs F (bs.map fun b => Value.ref (f b)) bs
  | [], _ => .nil
  | b :: bs, h => .cons (h b List.mem_cons_self) (each_of fun c hc => h c (List.mem_cons_of_mem _ hc))
/-- what sorting gives, behind the gathering of the items -/
theorem sort_tail {pins : List (Addr × Obj)} {σ : L2.St} {H : Hp} {s : Shared} {Q : VK} (hu : X.A.units + 64 < cLine) (I : Inv X pins σ H s) {bs : List (Sh × Addr)} (hz : bs.length ≤ sizeLine) (hk : ∀ b ∈ bs, ShAt H b.2 b.1)
    (q : ∀ p, H p = none → Q (.ref p) (upd H p (.lst ((bs.mergeSort fun a b => leS a.1 b.1).map fun b => V.ref b.2)))) {h' : Heap} {tk : Nat} (hk' : ∀ b u, s.heap.get? b = some u → h'.get? b = some u) :
    wpAny (model X.prog X.w) X.A.in1 (call (.builtin "list.sort") [.ref h'.objs.size]) (fun _ s' => EP X pins σ Q (.ref h'.objs.size) s') X.xe { s with heap := h'.push (PyProof.Rows.seqObj "list" (bs.map fun b => Value.ref b.2).toArray 0), toks := tk } := by
  have I1 : Inv X pins σ H { s with heap := h', toks := tk } := I.kept hk'
  have hoL : (h'.push (PyProof.Rows.seqObj "list" (bs.map fun b => Value.ref b.2).toArray 0)).get? h'.objs.size = some (PyProof.Rows.seqObj "list" (bs.map fun b => Value.ref b.2).toArray 0) := Heap.get?_push_size _ rfl
  refine PySem.W.list_sort_data (enc := fun b : Sh × Addr => encS b.1) (R := fun v b => v = Value.ref b.2) hoL (each_of fun b hb => rfl) (each_of fun b hb => ⟨[], ?_, by simp⟩) (PySem.W.AllAlike.of fun _ _ => by simp [PySem.W.alike, PySem.W.alikeAll, encS]) (PySem.W.Sortable.tuples fun _ => ⟨_, _, rfl⟩) hz (fun b _ => ?_) fun out hlen eo => ?_
  · exact PyProof.Rows.Reads.keeps (fun c u e => Heap.get?_push_of_some _ e) (sh_reads I1.hok (hk b hb))
  · have : (encS b.1).depth = 2 := by simp [encS, PyData.depth, PyData.depthAll]
    show X.A.units + 1 + 1 + _ < cLine
    omega
  · rw [le_encS (fun b : Sh × Addr => b.1)] at eo
    have eo := each_refs eo
    obtain ⟨e', he'⟩ := PyProof.Rows.sortedHeap_at (vs := bs.map fun b => Value.ref b.2) (out := out.toArray) hoL
    refine ⟨.ref h'.objs.size, _, I1.laid (t' := tk) (o := .lst ((bs.mergeSort fun a b => leS a.1 b.1).map fun b => V.ref b.2)) (fun b u e => ?_) (Nat.le_refl _) ⟨?_, out, e', ?_, he'⟩, rfl, q _ (I1.hok.fresh (Nat.le_refl _))⟩
    · have hb : b < h'.objs.size := Heap.lt_size e
      rw [PyProof.Rows.sortedHeap_old (Nat.ne_of_lt hb) (by rw [Heap.size_push]; exact Nat.lt_succ_of_lt hb)]
      exact Heap.get?_push_of_some _ e
    · rw [List.length_map, List.length_mergeSort]
      exact hz
    · rw [eo, show ((bs.mergeSort fun a b => leS a.1 b.1).map fun b => V.ref b.2) = ((bs.mergeSort fun a b => leS a.1 b.1).map (·.2)).map V.ref by rw [List.map_map]; rfl, show ((bs.mergeSort fun a b => leS a.1 b.1).map fun b => Value.ref b.2) = ((bs.mergeSort fun a b => leS a.1 b.1).map (·.2)).map Value.ref by rw [List.map_map]; rfl]
      exact vals_refs _
/-- sorted(d) -/
def rSortedDS (P : Program) (w : World) : List V → Hp → VK → Prop := fun vs H Q => ∃ d es, vs = [.ref d] ∧ DAt P w H d es ∧ ∀ p, H p = none → Q (.ref p) (upd H p (.lst (((es.map fun e => (e.1, e.2.1)).mergeSort fun a b => leS a.1 b.1).map fun b => V.ref b.2)))
theorem cr_sortedDS (hc : X.calm = true) (hu : X.A.units + 64 < cLine) : CallR X (.builtin "sorted") (rSortedDS X.prog X.w) := by
  intro pins s σ H vs us Q I r q
  obtain ⟨d, es, rfl, D, q⟩ := q
  obtain ⟨u, rfl, rx⟩ := r.one
  cases rx
  obtain ⟨hs, hz, ys, rel, o, en, ep, ho, hx, hdat, he, _⟩ := (I.hok d _ D.hd).1
  have hsz := ds_size he rel
  refine Calls.call_function_entry PyProof.Rows.kind_sorted PyProof.Rows.plain_sorted PyProof.Rows.entry_sorted (PyProof.Rows.args_sorted1 _) ?_
  unfold Builtin.«sorted»
  refine wpAny_bind (m := checkCount "sorted" 1 1 _) (wpAny_pure ?_)
  refine wpAny_bind (PySem.W.kdu_collect (A := X.A.in1) (kdl_raw hs hx hdat) (I.ok.hd hc) ho (by omega) fun h' tk acc kp it => ?_)
  have ea := refs_by (X := X) he rel it.1 fun j v hv => it.2 j v hv
  have eb : acc.toList = (es.map fun e => (e.1, e.2.1)).map fun b => Value.ref b.2 := by rw [ea, List.map_map, List.map_map]; rfl
  refine wpAny_bind (wpAny_newList ?_ (by rw [ea, List.length_map, List.length_map]; exact hz))
  rw [eb]
  refine wpAny_bind (wpAny_holding (wpAny_mono (sort_tail hu I (bs := es.map fun e => (e.1, e.2.1)) (by rw [List.length_map]; exact hz) (fun b hb => ?_) q (tk := tk) kp) (fun v s' z => wpAny_pure ⟨_, rfl, z⟩) fun _ _ z => z))
  obtain ⟨e, he2, rfl⟩ := List.mem_map.mp hb
  exact D.ks e he2
end
/-! ### enumerate of an empty tuple; a walk of one kind or another -/
section
variable {X : Cx}
/-- enumerate(v), where iter(v) is told by B -/
theorem enum_new {P : Program} {w : World} {A : Around} {E : Value → Shared → Prop} {s : Shared} {v : Value} {Q : Fin → Shared → Prop} (h : wpAny (model P w) A (pyIter v) (fun it s1 => wpAny (model P w) A (newObj (.type "enumerate") (.fields #[.none, .bool false, it, rawInt 0, .none, .none])) (fun e s2 => Q (.done (.ret e)) s2) E s1) E s) :
    wpAny (model P w) A (Builtin.«enumerate.__new__» ⟨[.type "enumerate", v], []⟩) Q E s := by
  have cls : Builtin.SmallTypes.newClass "enumerate" ⟨[.type "enumerate", v], []⟩ = pure (.type "enumerate", [v]) := by
    simp only [Builtin.SmallTypes.newClass, PySem.sub_enumerate]
    rfl
  unfold Builtin.«enumerate.__new__»
  refine wpAny_bind (wpAny_of_eq cls ?_)
  show wpAny _ _ (Builtin.SmallTypes.calledThroughType (.type "enumerate") >>= _) _ _ _
  refine wpAny_bind (wpAny_bind (wpAny_stack_any fun st => wpAny_pure ?_))
  dsimp only
  split <;> try split
  all_goals
    refine wpAny_bind (wpAny_of_eq (a := (v, none)) rfl ?_)
    refine wpAny_bind (wpAny_mono h (fun it s1 h1 => ?_) fun _ _ z => z)
    exact wpAny_bind (wpAny_mono h1 (fun e s2 h2 => wpAny_pure h2) fun _ _ z => z)
/-- nothing to draw -/
def ItN (K : PySem.W.Frag) (a : Addr) : It where
  go := fun _ _ => False
  yld := fun _ _ _ _ => False
  stop := fun _ H => SqT K H a []
theorem turnN {P : Program} {w : World} {K : PySem.W.Frag} {tg : Expr} {a e it : Addr} (na : a ≠ it) : Turn P w K tg (ItN K a) [e, it] e (fun i h => i = 0 ∧ IsEnum h e it 0 .none ∧ h.IsTupleIter it a 0) where
  mem := List.mem_cons_self
  obj := by
    rintro i h ⟨_, he, oi, h1, _, h3⟩ b hb
    rcases List.mem_cons.mp hb with rfl | hb
    · exact ⟨_, he, fun _ z => nomatch z⟩
    · rw [List.mem_singleton.mp hb]
      exact ⟨oi, h1, fun _ z => by rw [h3] at z; cases z⟩
  keep := fun i h h' st k => ⟨st.1, k e List.mem_cons_self _ st.2.1, st.2.2.at fun o z => k it (List.mem_cons_of_mem _ List.mem_cons_self) o z⟩
  item := fun _ _ _ _ _ _ _ _ _ _ _ _ _ _ go => go.elim
  done := by
    intro Y hP hw hK hc i pins s σ H E I hf st stop
    subst hP hw hK
    obtain ⟨rfl, he, hi⟩ := st
    obtain ⟨its, rv, p, _⟩ := I.tuple stop
    cases rv
    obtain ⟨f0, f1, _, f3, f4, f5⟩ := hf it (List.mem_cons_of_mem _ List.mem_cons_self)
    exact wpAny_pyNext_enum_endD (Draws.tuple (A := Y.A.in1) (I.ok.hd hc) it a na #[]) he ⟨hi, p⟩ fun h' eb => ⟨rfl, I.turned (t' := s.toks) (fun b o hb z => eb b o hb z) f0 f1 f3 f4 f5⟩
  self := fun A i s Q E st q => wpAny_pyIter_enum st.2.1 q
def iEnumN (K : PySem.W.Frag) (ta : TA) : TI := fun σ H R => ta σ H fun vs G => ∃ a, vs = [.ref a] ∧ SqT K G a [] ∧ R (ItN K a) G
theorem pi_enumN {e : Expr} {ta : TA} {p pos : Pos} {tg : Expr} (hg : Gl X "enumerate") (hm : X.mg "enumerate" = none) (ha : PA X [e] ta) (hs : starEach [e] X.env = [(false, eval e X.env)] := by rfl) : PI X tg (.Call (.Name "enumerate" p) [e] [] pos) (iEnumN X.K ta) := by
  refine ⟨fun pins s σ H R I h => Call_ (ld_blt I hg hm boot_enumerate (PyProof.Rows.callWith_type1 (thn (ha.run pos pins s σ H _ I h) ?_) hs rfl))⟩
  rintro us s1 ⟨vs, G, I1, r, a, rfl, sq, q⟩
  obtain ⟨u, rfl, ru⟩ := r.one
  cases ru
  obtain ⟨its, rv, tp, _⟩ := I1.tuple sq
  cases rv
  have la : a < s1.heap.objs.size := let ⟨_, z, _⟩ := tp; Heap.lt_size z
  refine callType_new (S := fun A R s => s.heap.IsTuple a #[] ∧ R (.ok (.ret (.ref (s.heap.objs.size + 1)))) { s with heap := (s.heap.push { cls := .type "tuple_iterator", data := .fields #[.ref a, .int 0 0] }).push { cls := .type "enumerate", data := .fields #[.none, .bool false, .ref s.heap.objs.size, rawInt 0, .none, .none] } })
    F.called_enumerate (by decide) (F.typeCall_enumerate_1 _) (F.newCall_enumerate_1 _) (fun obj => F.args_object_init_2 obj _) F.entry_enumerate_new (.of_wp fun P w A R s z => enum_new (wpAny_pyIter_tuple z.1 (wpAny_newObj_type ⟨_, rfl, ?_⟩))) ⟨tp, ?_⟩
  · have := z.2
    rwa [← Heap.size_push] at this
  have he : IsEnum ((s1.heap.push { cls := .type "tuple_iterator", data := .fields #[.ref a, .int 0 0] }).push { cls := .type "enumerate", data := .fields #[.none, .bool false, .ref s1.heap.objs.size, rawInt 0, .none, .none] }) (s1.heap.objs.size + 1) s1.heap.objs.size 0 .none := by
    have z := Heap.get?_push_size (s1.heap.push { cls := .type "tuple_iterator", data := .fields #[.ref a, .int 0 0] }) (o := { cls := .type "enumerate", data := .fields #[.none, .bool false, .ref s1.heap.objs.size, rawInt 0, .none, .none] }) rfl
    rwa [Heap.size_push] at z
  refine ⟨⟨_, he, rfl⟩, wpAny_pyIter_enum he ⟨s1.heap.objs.size + 1, [s1.heap.objs.size + 1, s1.heap.objs.size], _, _, G, rfl, I1.kept (t' := s1.toks) fun b o z => Heap.get?_push_of_some _ (Heap.get?_push_of_some _ z), turnN (Nat.ne_of_lt la), ⟨rfl, he, _, Heap.get?_push_of_some _ (Heap.get?_push_size _ rfl), rfl, rfl⟩, fun b hb => ?_, q⟩⟩
  have le : s1.heap.objs.size ≤ b := by
    rcases List.mem_cons.mp hb with rfl | hb
    · exact Nat.le_succ _
    · rw [List.mem_singleton.mp hb]
      exact Nat.le_refl _
  exact I1.fpOk le (I1.hok.fresh le)
theorem PI.or {tg e : Expr} {a b : TI} (h1 : PI X tg e a) (h2 : PI X tg e b) : PI X tg e (fun σ H R => a σ H R ∨ b σ H R) := ⟨fun pins s σ H R I h => h.elim (h1.run pins s σ H R I) (h2.run pins s σ H R I)⟩
end
/-! ### the law's own draws -/
section
variable {base : Heap} {K : PySem.W.Frag} {mg : Str → Option Value} {P : Program} {w : World}
def spPull : Sp := fun vs H Q _ => ∃ (b sb : Addr) (n : Int), vs = [.ref b, .int n] ∧ Bag H b sb ∧ 0 < n ∧ n.natAbs < 2 ^ 100 ∧ ∀ z H', 0 ≤ z → z < n → Bag H' b sb → Keep b H H' → Q (.int z) H'
theorem ok_pull (T : Txt K mg) : FnOk P w K mg base CX0 1 T.f_pull T.d_pull ["_law_bag", "_law_size"] spPull := by
  refine T.F_pull.ok sc_pull (fun vs H Q E h => ?_) (fun cdv A outer s H vs Q E hr h => ?_)
  · obtain ⟨b, sb, n, rfl, _⟩ := h
    rfl
  · obtain ⟨b, s1, n, rfl, ⟨ns, i, j, m, c, B⟩, h0, h1, q⟩ := h
    refine ⟨_, (pss_cons (ps_asg (pe_op op_add (pe_ix ix_list (pv 0) pe_int (fun _ _ => rfl)) pe_int) (pg_sub (pv 0) pe_int set_list))
      (Evl.pss_cut (ps_if (PW.pt (pw_and (pt_cmpR op_eq (pe_ix ix_list (pv 0) pe_int (fun _ _ => rfl)) pe_int (nomark _)) (pw_and1 (pt_cmpR op_lt (pe_ix ix_list (pv 0) pe_int (fun _ _ => rfl)) (pe_callB call_len_seq (by rfl) T.n_len (by decide +kernel) (pa_cons (pe_ix ix_list (pv 0) pe_int (fun _ _ => rfl)) pa_nil)) (nomark _))))) (pss_cons (ps_set (i := 3) sc_pull.nd rfl (Or.inl rfl) (pe_ix ix_list (pe_ix ix_list (pv 0) pe_int (fun _ _ => rfl)) (pe_ix ix_list (pv 0) pe_int (fun _ _ => rfl)) (fun _ _ => rfl)))
      (pss_cons (ps_asg (pe_op op_add (pe_ix ix_list (pv 0) pe_int (fun _ _ => rfl)) pe_int) (pg_sub (pv 0) pe_int set_list))
      (pss_one (ps_if (pt_cmpR op_ge (pv 3) (pe_op op_pow pe_int pe_int) (nomark _)) (pss_one (ps_asg (pv 3) (pg_sub (pv 0) pe_int set_list))) (pss_cons (ps_set (i := 2) sc_pull.nd rfl (Or.inl rfl) (pe_op op_add (pe_op op_mul (pe_ix ix_list (pv 0) pe_int (fun _ _ => rfl)) pe_int) (pe_op op_mul (pe_op op_mod (pv 3) pe_int) pe_int)))
      (pss_one (ps_asg (pe_op op_mod (pe_op op_add (pv 2) pe_int) pe_int) (pg_sub (pv 0) pe_int set_list)))))))) pss_nil)
      (pss_cons (ps_if (pt_cmpR op_gt (pe_ix ix_list (pv 0) pe_int (fun _ _ => rfl)) pe_int (nomark _)) (pss_cons (ps_set (i := 4) sc_pull.nd rfl (Or.inl rfl) (pe_op op_mod (pe_ix ix_list (pv 0) pe_int (fun _ _ => rfl)) (pv 1)))
      (pss_cons (ps_asg (pe_op op_fdivW (pe_ix ix_list (pv 0) pe_int (fun _ _ => rfl)) (pv 1)) (pg_sub (pv 0) pe_int set_list))
      (pss_one (ps_ret (pv 4))))) pss_nil)
      (pss_cons (ps_set (i := 2) sc_pull.nd rfl (Or.inl rfl) (pe_op op_add (pe_op op_mul (pe_op op_mul (pe_ix ix_list (pv 0) pe_int (fun _ _ => rfl)) (pe_ix ix_list (pv 0) pe_int (fun _ _ => rfl))) pe_int) (pe_op op_mul (pe_ix ix_list (pv 0) pe_int (fun _ _ => rfl)) pe_int)))
      (pss_cons (ps_asg (pe_op op_mod (pe_op op_add (pv 2) (pe_op op_mul pe_int (pe_ix ix_list (pv 0) pe_int (fun _ _ => rfl)))) pe_int) (pg_sub (pv 0) pe_int set_list))
      (pss_one (ps_ret (pe_op op_mod (pe_op op_fdiv (pe_ix ix_list (pv 0) pe_int (fun _ _ => rfl)) pe_int) (pv 1))))))))), ?_⟩
    -- the count of the draws
    have B1 := B.put (j' := j) (c' := c + 1) B.i0 B.i1 B.m0 B.m1
    refine ⟨.ref b, rfl, b, _, 4, .int c, rfl, rfl, SqL.of B.hb, atI_nat (j := 4) rfl, c, 1, rfl, rfl, .ref b, rfl, b, _, 4, 4, rfl, rfl, B.hb, rfl, ?_⟩
    refine ⟨fun σ H' => ∃ y2 y3 y4, σ = [some (.ref b), some (.int n), y2, y3, y4] ∧ Bag H' b s1 ∧ Keep b H H', ?_, ?_⟩
    · -- the next cell of the script
      refine ⟨.ref b, rfl, b, _, 2, .int j, rfl, rfl, SqL.of B1.hb, atI_nat (j := 2) rfl, rfl, _, rfl, ite2 (fun e => ?_) (fun e => ?_)⟩
      · refine ⟨.ref b, rfl, b, _, 1, .int i, rfl, rfl, SqL.of B1.hb, atI_nat (j := 1) rfl, .ref b, rfl, b, _, 0, .ref s1, rfl, rfl, SqL.of B1.hb, atI_nat (j := 0) rfl, s1, _, rfl, .inl (SqL.of B1.hs), i, _, rfl, rfl, _, rfl, ite2 (fun e2 => ?_) (fun e2 => ?_)⟩
        · have e3 : i < (ns.length : Int) := by
            have := of_decide_eq_true e2
            rw [List.length_map] at this
            exact this
          obtain ⟨z, hz⟩ := at_ex B.i0 e3
          have B2 := B1.put (j' := j) (c' := c + 1) (show 0 ≤ i + 1 by have := B.i0; omega) (show i + 1 ≤ (ns.length : Int) by omega) B.m0 B.m1
          refine ⟨.ref b, rfl, b, _, 0, .ref s1, rfl, rfl, SqL.of B1.hb, atI_nat (j := 0) rfl, .ref b, rfl, b, _, 1, .int i, rfl, rfl, SqL.of B1.hb, atI_nat (j := 1) rfl, s1, _, i, _, rfl, rfl, SqL.of B1.hs, hz, ?_⟩
          refine ⟨.ref b, rfl, b, _, 1, .int i, rfl, rfl, SqL.of B1.hb, atI_nat (j := 1) rfl, i, 1, rfl, rfl, .ref b, rfl, b, _, 1, 1, rfl, rfl, B1.hb, rfl, ?_⟩
          refine ⟨_, rfl, 10, 18, rfl, rfl, ⟨by decide, by decide, by decide⟩, z, _, rfl, rfl, _, rfl, ite2 (fun e4 => ?_) (fun e4 => ?_)⟩
          · have B3 := B2.put (j' := z) (c' := c + 1) (show 0 ≤ i + 1 by have := B.i0; omega) (show i + 1 ≤ (ns.length : Int) by omega) B.m0 B.m1
            refine ⟨_, rfl, .ref b, rfl, b, _, 2, 2, rfl, rfl, B2.hb, rfl, ?_⟩
            exact ⟨_, _, _, rfl, ⟨ns, _, _, _, _, B3⟩, keep_put.trans (keep_put.trans keep_put)⟩
          · refine ⟨.ref b, rfl, b, _, 3, .int m, rfl, rfl, SqL.of B2.hb, atI_nat (j := 3) rfl, m, 40014, rfl, rfl, .inr ⟨by decide, by decide⟩, _, rfl, z, 2147483399, rfl, rfl, (by show (0 : Int) < 2147483399; decide), _, 69069, rfl, rfl, .inr ⟨by decide, by decide⟩, _, _, rfl, rfl, ?_⟩
            refine ⟨_, rfl, _, 11, rfl, rfl, _, 2147483399, rfl, rfl, (by show (0 : Int) < 2147483399; decide), .ref b, rfl, b, _, 3, 3, rfl, rfl, B2.hb, rfl, ?_⟩
            have B3 := B2.put (j' := j) (m' := (m * 40014 + z % 2147483399 * 69069 + 11) % 2147483399) (c' := c + 1) (show 0 ≤ i + 1 by have := B.i0; omega) (show i + 1 ≤ (ns.length : Int) by omega) (by omega) (by omega)
            exact ⟨_, _, _, rfl, ⟨ns, _, _, _, _, B3⟩, keep_put.trans (keep_put.trans keep_put)⟩
        · exact ⟨_, _, _, rfl, ⟨ns, _, _, _, _, B1⟩, keep_put⟩
      · exact ⟨_, _, _, rfl, ⟨ns, _, _, _, _, B1⟩, keep_put⟩
    · rintro σ H' ⟨y2, y3, y4, rfl, ⟨ns2, i2, j2, m2, c2, B2⟩, k2⟩
      refine ⟨.ref b, rfl, b, _, 2, .int j2, rfl, rfl, SqL.of B2.hb, atI_nat (j := 2) rfl, j2, 0, rfl, rfl, _, rfl, ite2 (fun e => ?_) (fun e => ?_)⟩
      · have B3 := B2.put (j' := j2 / n) (c' := c2) B2.i0 B2.i1 B2.m0 B2.m1
        refine ⟨.ref b, rfl, b, _, 2, .int j2, rfl, rfl, SqL.of B2.hb, atI_nat (j := 2) rfl, .int n, rfl, j2, n, rfl, rfl, h0, ?_⟩
        refine ⟨.ref b, rfl, b, _, 2, .int j2, rfl, rfl, SqL.of B2.hb, atI_nat (j := 2) rfl, .int n, rfl, j2, n, rfl, rfl, wide_div h0 h1 (by decide) (by decide), .ref b, rfl, b, _, 2, 2, rfl, rfl, B2.hb, rfl, ?_⟩
        exact ⟨_, rfl, q _ _ (Int.emod_nonneg _ (by omega)) (Int.emod_lt_of_pos _ h0) ⟨ns2, _, _, _, _, B3⟩ (k2.trans keep_put)⟩
      · have hm : -(2 ^ 64) < m2 ∧ m2 < 2 ^ 64 := ⟨by have := B2.m0; omega, by have := B2.m1; omega⟩
        refine ⟨.ref b, rfl, b, _, 3, .int m2, rfl, rfl, SqL.of B2.hb, atI_nat (j := 3) rfl, .ref b, rfl, b, _, 3, .int m2, rfl, rfl, SqL.of B2.hb, atI_nat (j := 3) rfl, m2, m2, rfl, rfl, .inl hm, _, 7, rfl, rfl, .inr ⟨by decide, by decide⟩,
          .ref b, rfl, b, _, 3, .int m2, rfl, rfl, SqL.of B2.hb, atI_nat (j := 3) rfl, m2, 40692, rfl, rfl, .inr ⟨by decide, by decide⟩, _, _, rfl, rfl, ?_⟩
        refine ⟨_, rfl, .ref b, rfl, b, _, 4, .int c2, rfl, rfl, SqL.of B2.hb, atI_nat (j := 4) rfl, 1013904223, c2, rfl, rfl, .inl ⟨by decide, by decide⟩, _, _, rfl, rfl, _, 2147483399, rfl, rfl, (by show (0 : Int) < 2147483399; decide), .ref b, rfl, b, _, 3, 3, rfl, rfl, B2.hb, rfl, ?_⟩
        have B3 := B2.put (j' := j2) (m' := (m2 * m2 * 7 + m2 * 40692 + 1013904223 * c2) % 2147483399) (c' := c2) B2.i0 B2.i1 (Int.emod_nonneg _ (by decide)) (Int.emod_lt_of_pos _ (by decide))
        refine ⟨.ref b, rfl, b, _, 3, _, rfl, rfl, SqL.of B3.hb, atI_nat (j := 3) rfl, _, 37, rfl, rfl, ⟨by decide, by decide⟩, .int n, rfl, _, n, rfl, rfl, h0, ?_⟩
        exact q _ _ (Int.emod_nonneg _ (by omega)) (Int.emod_lt_of_pos _ h0) ⟨ns2, _, _, _, _, B3⟩ (k2.trans keep_put)
def spOf : Sp := fun vs H Q _ => ∃ (b sb l : Addr) (xs : List V), vs = [.ref b, .ref l] ∧ Bag H b sb ∧ H l = some (.lst xs) ∧ l ≠ b ∧ 0 < xs.length ∧ xs.length ≤ 1000 ∧ ∀ (i : Nat) (v : V) (H' : Hp), xs[i]? = some v → Bag H' b sb → Keep b H H' → Q v H'
theorem ok_of (T : Txt K mg) : FnOk P w K mg base CX0 2 T.f_of T.d_of ["_law_bag", "_law_some"] spOf := by
  refine T.F_of.ok sc_of (fun vs H Q E h => ?_) (fun cdv A outer s H vs Q E hr h => ?_)
  · obtain ⟨b, sb, l, xs, rfl, _⟩ := h
    rfl
  · obtain ⟨b, sb, l, xs, rfl, B, hl, nl, h0, h1, q⟩ := h
    refine ⟨_, (pss_one (ps_ret (pe_ix ix_list (pv 1) (pe_call (ok_pull T) (hr.mono (by decide)) (by rfl) T.g_pull T.F_pull.kp T.b_pull .nil pass0 (pa_cons (pv 0) (pa_cons (pe_callB call_len_seq (by rfl) T.n_len (by decide +kernel) (pa_cons (pv 1) pa_nil)) pa_nil))) (fun _ _ => rfl)))), ?_⟩
    have hn : ((xs.length : Int)).natAbs < 2 ^ 100 := Nat.lt_of_le_of_lt (show (xs.length : Int).natAbs ≤ 1000 by omega) (by decide)
    refine ⟨.ref l, rfl, .ref b, rfl, .ref l, rfl, l, xs, rfl, .inl (SqL.of hl), b, sb, _, rfl, B, (by show (0 : Int) < (xs.length : Int); omega), hn, fun z H' z0 z1 B' k' => ?_⟩
    obtain ⟨v, e1, e2⟩ := at_some z0 z1
    exact ⟨l, xs, z, v, rfl, rfl, k'.list nl hl, e2, q _ _ _ e1 B' k'⟩
end
section
variable {base : Heap} {K : PySem.W.Frag} {mg : Str → Option Value} {P : Program} {w : World}
def okR (x : Int) : Bool := !inV (.int x) [.int 4, .int 9, .int 16, .int 25, .int 36, .int 49, .int 64, .int 81]
def rootsTo : Nat → List Int
  | 0 => []
  | n + 1 => if okR (2 + (n : Int)) = true then rootsTo n ++ [2 + (n : Int)] else rootsTo n
theorem rootsTo_len : ∀ n, (rootsTo n).length ≤ n
  | 0 => Nat.le_refl _
  | n + 1 => by
    have := rootsTo_len n
    unfold rootsTo
    split
    · rw [List.length_append]
      simp
      omega
    · omega
def IsRoot (d : Int) : Prop := 2 ≤ d ∧ d ≤ 99 ∧ ∃ k : Int, 0 ≤ k ∧ k * k < d ∧ d < (k + 1) * (k + 1)
def kOf (d : Int) : Int := if d < 4 then 1 else if d < 9 then 2 else if d < 16 then 3 else if d < 25 then 4 else if d < 36 then 5 else if d < 49 then 6 else if d < 64 then 7 else if d < 81 then 8 else 9
theorem roots_are {d : Int} (h : d ∈ rootsTo 98) : IsRoot d := by
  have z : ∀ d ∈ rootsTo 98, 2 ≤ d ∧ d ≤ 99 ∧ 0 ≤ kOf d ∧ kOf d * kOf d < d ∧ d < (kOf d + 1) * (kOf d + 1) := by decide +kernel
  obtain ⟨a, b, c⟩ := z d h
  exact ⟨a, b, kOf d, c⟩
theorem isRoot_by {d : Int} (h : 2 ≤ d ∧ d ≤ 99 ∧ 0 ≤ kOf d ∧ kOf d * kOf d < d ∧ d < (kOf d + 1) * (kOf d + 1)) : IsRoot d := ⟨h.1, h.2.1, kOf d, h.2.2⟩
def spRoots : Sp := fun vs H Q _ => vs = [] ∧ ∀ p H', H p = none → Same H H' → H' p = some (.lst ((rootsTo 98).map V.int)) → Q (.ref p) H'
theorem ok_roots (T : Txt K mg) : FnOk P w K mg base CX0 1 T.f_roots T.d_roots [] spRoots := by
  refine T.F_roots.ok sc_roots (fun vs H Q E h => ?_) (fun cdv A outer s H vs Q E hr h => ?_)
  · obtain ⟨rfl, _⟩ := h
    rfl
  · obtain ⟨rfl, q⟩ := h
    refine ⟨_, (pss_one (ps_ret (pe_lc (own := [("_law_d", 0)]) (g := (gName 0)) (tt := tTest (tOp (rIn K true) _ _)) (by rfl) sc_roots.nd (pi_range2 (by rfl) T.n_range (pa_cons pe_int (pa_cons pe_int pa_nil))) (blkOk_by (own := [("_law_d", 0)]) (N := ["_law_d"]) (sc := defScope s_roots) (by decide +kernel)) (fun _ _ _ _ _ => (pg_name (i := 0) sc_roots.nd rfl (Or.inl rfl))) (fun _ _ _ _ _ => (pts_one (pt_cmpR op_notIn_seq (pv 0) (pe_tup (pa_cons pe_int (pa_cons pe_int (pa_cons pe_int (pa_cons pe_int (pa_cons pe_int (pa_cons pe_int (pa_cons pe_int (pa_cons pe_int pa_nil))))))))) (by rfl)))) (fun _ _ _ _ _ => (pv 0))))), ?_⟩
    refine ⟨2, 100, rfl, ⟨by decide, by decide, by decide, by decide⟩, fun D hD => ?_⟩
    refine lc_range (lo := 2) (n := 98) (fun i H' => Same H H' ∧ H' D = some (.lst ((rootsTo i).map V.int))) ⟨same_new hD, upd_same⟩ ?_ ?_
    · rintro i H' hi ⟨sm, hd⟩
      refine ⟨rfl, _, rfl, (by show 8 ≤ sizeLine; decide), fun t ht => ?_⟩
      refine ⟨t, _, rfl, .inr (SqT.of upd_same), rfl, rfl, _, rfl, ?_⟩
      have hd2 : (upd H' t (.tup [.int 4, .int 9, .int 16, .int 25, .int 36, .int 49, .int 64, .int 81])) D = some (.lst ((rootsTo i).map V.int)) := (upd_ne (ne_of_none hd ht)).trans hd
      refine ite2 (fun e => ?_) (fun e => ?_)
      · refine ⟨_, rfl, _, hd2, ?_, ?_, ?_⟩
        · rw [List.length_map]
          have := rootsTo_len i
          exact small1000 (by omega)
        · exact fun a o z => (upd_ne (ne_of_none z hD)).trans ((sm.trans (same_new ht)) a o z)
        · rw [upd_same]
          have e' : okR (2 + (i : Int)) = true := e
          rw [show rootsTo (i + 1) = rootsTo i ++ [2 + (i : Int)] by
            show (if okR (2 + (i : Int)) = true then rootsTo i ++ [2 + (i : Int)] else rootsTo i) = _
            rw [if_pos e'], List.map_append]
          rfl
      · refine ⟨sm.trans (same_new ht), ?_⟩
        have e' : ¬ okR (2 + (i : Int)) = true := e
        rw [show rootsTo (i + 1) = rootsTo i by
          show (if okR (2 + (i : Int)) = true then rootsTo i ++ [2 + (i : Int)] else rootsTo i) = _
          rw [if_neg e']]
        exact hd2
    · rintro H' ⟨sm, hd⟩
      exact q D H' hD sm hd
end
section
variable {base : Heap} {K : PySem.W.Frag} {mg : Str → Option Value} {P : Program} {w : World}
def spARoot : Sp := fun vs H Q _ => ∃ b sb : Addr, vs = [.ref b] ∧ Bag H b sb ∧ ∀ d H', IsRoot d → Bag H' b sb → Keep b H H' → Q (.int d) H'
theorem root_in {i : Nat} {v : V} (h : ((rootsTo 98).map V.int)[i]? = some v) : ∃ d, v = .int d ∧ IsRoot d := by
  rw [List.getElem?_map] at h
  cases e : (rootsTo 98)[i]? with
  | none =>
    rw [e] at h
    cases h
  | some d =>
    rw [e] at h
    exact ⟨d, (Option.some.inj h).symm, roots_are (List.mem_of_getElem? e)⟩
theorem ok_a_root (T : Txt K mg) : FnOk P w K mg base CX0 3 T.f_a_root T.d_a_root ["_law_bag"] spARoot := by
  refine T.F_a_root.ok sc_a_root (fun vs H Q E h => ?_) (fun cdv A outer s H vs Q E hr h => ?_)
  · obtain ⟨b, sb, rfl, _⟩ := h
    rfl
  · obtain ⟨b, sb, rfl, B, q⟩ := h
    refine ⟨_, (pss_one (ps_ret (pe_call (ok_of T) (hr.mono (by decide)) (by rfl) T.g_of T.F_of.kp T.b_of .nil pass0 (pa_cons (pv 0) (pa_cons (pe_lst (pa_cons pe_int (pa_cons pe_int (pa_cons pe_int (pa_cons pe_int (pa_cons (pe_call (ok_of T) (hr.mono (by decide)) (by rfl) T.g_of T.F_of.kp T.b_of .nil pass0 (pa_cons (pv 0) (pa_cons (pe_call0 (ok_roots T) (hr.mono (by decide)) (by rfl) T.g_roots T.F_roots.kp T.b_roots .nil pass0) pa_nil))) (pa_cons (pe_call (ok_of T) (hr.mono (by decide)) (by rfl) T.g_of T.F_of.kp T.b_of .nil pass0 (pa_cons (pv 0) (pa_cons (pe_call0 (ok_roots T) (hr.mono (by decide)) (by rfl) T.g_roots T.F_roots.kp T.b_roots .nil pass0) pa_nil))) pa_nil))))))) pa_nil))))), ?_⟩
    have hz : ((rootsTo 98).map V.int).length = 90 := by decide +kernel
    refine ⟨.ref b, rfl, .ref b, rfl, rfl, fun p H1 hp s1 h1 => ?_⟩
    refine ⟨b, sb, p, _, rfl, B.same s1, h1, B.ne hp, by omega, by omega, fun i v H2 hv B2 k2 => ?_⟩
    obtain ⟨r1, rfl, i1⟩ := root_in hv
    refine ⟨.ref b, rfl, rfl, fun p' H3 hp' s3 h3 => ?_⟩
    refine ⟨b, sb, p', _, rfl, B2.same s3, h3, B2.ne hp', by omega, by omega, fun i' v' H4 hv' B4 k4 => ?_⟩
    obtain ⟨r2, rfl, i2⟩ := root_in hv'
    refine ⟨(by show 6 ≤ sizeLine; decide), fun l hl => ?_⟩
    refine ⟨b, sb, l, _, rfl, B4.new hl, upd_same, B4.ne hl, by simp, by simp, fun i v H5 hv B5 k5 => ?_⟩
    have kk : Keep b H H5 := (keep_of s1).trans (k2.trans ((keep_of s3).trans (k4.trans ((keep_new hl).trans k5))))
    match i, hv with
    | 0, hv => cases hv; exact q 2 H5 (isRoot_by (by decide)) B5 kk
    | 1, hv => cases hv; exact q 3 H5 (isRoot_by (by decide)) B5 kk
    | 2, hv => cases hv; exact q 5 H5 (isRoot_by (by decide)) B5 kk
    | 3, hv => cases hv; exact q 99 H5 (isRoot_by (by decide)) B5 kk
    | 4, hv => cases hv; exact q r1 H5 i1 B5 kk
    | 5, hv => cases hv; exact q r2 H5 i2 B5 kk
    | n + 6, hv => simp at hv
end
section
variable {base : Heap} {K : PySem.W.Frag} {mg : Str → Option Value} {P : Program} {w : World}
def spAnyPair : Sp := fun vs H Q _ => ∃ b sb : Addr, vs = [.ref b] ∧ Bag H b sb ∧ ∀ x y p H', -(10 ^ 6) ≤ x → x ≤ 10 ^ 6 → -(10 ^ 6) ≤ y → y ≤ 10 ^ 6 → H p = none → H' p = some (.tup [.int x, .int y]) → Bag H' b sb → Keep b H H' → Q (.ref p) H'
theorem ok_any_pair (T : Txt K mg) : FnOk P w K mg base CX0 3 T.f_any_pair T.d_any_pair ["_law_bag"] spAnyPair := by
  refine T.F_any_pair.ok sc_any_pair (fun vs H Q E h => ?_) (fun cdv A outer s H vs Q E hr h => ?_)
  · obtain ⟨b, sb, rfl, _⟩ := h
    rfl
  · obtain ⟨b, sb, rfl, B, q⟩ := h
    refine ⟨_, (pss_cons (ps_set (i := 1) sc_any_pair.nd rfl (Or.inl rfl) (pe_call (ok_of T) (hr.mono (by decide)) (by rfl) T.g_of T.F_of.kp T.b_of .nil pass0 (pa_cons (pv 0) (pa_cons (pe_lst (pa_cons pe_int (pa_cons pe_int (pa_cons pe_int (pa_cons pe_int (pa_cons (pe_op op_pow pe_int pe_int) pa_nil)))))) pa_nil))))
      (pss_one (ps_ret (pe_tup (pa_cons (pe_op op_sub (pe_call (ok_pull T) (hr.mono (by decide)) (by rfl) T.g_pull T.F_pull.kp T.b_pull .nil pass0 (pa_cons (pv 0) (pa_cons (pe_op op_add (pe_op op_mul pe_int (pv 1)) pe_int) pa_nil))) (pv 1)) (pa_cons (pe_op op_sub (pe_call (ok_pull T) (hr.mono (by decide)) (by rfl) T.g_pull T.F_pull.kp T.b_pull .nil pass0 (pa_cons (pv 0) (pa_cons (pe_op op_add (pe_op op_mul pe_int (pv 1)) pe_int) pa_nil))) (pv 1)) pa_nil)))))), ?_⟩
    refine ⟨.ref b, rfl, 10, 6, rfl, rfl, ⟨by decide, by decide, by decide⟩, (by show 5 ≤ sizeLine; decide), fun l hl => ?_⟩
    refine ⟨b, sb, l, _, rfl, B.new hl, upd_same, B.ne hl, by decide, by decide, fun i v H1 hv B1 k1 => ?_⟩
    obtain ⟨n, rfl, n0, n1⟩ : ∃ n : Int, v = .int n ∧ 1 ≤ n ∧ n ≤ 10 ^ 6 := by
      match i, hv with
      | 0, hv => cases hv; exact ⟨2, rfl, by decide, by decide⟩
      | 1, hv => cases hv; exact ⟨5, rfl, by decide, by decide⟩
      | 2, hv => cases hv; exact ⟨9, rfl, by decide, by decide⟩
      | 3, hv => cases hv; exact ⟨30, rfl, by decide, by decide⟩
      | 4, hv => cases hv; exact ⟨10 ^ 6, rfl, by decide, by decide⟩
      | n + 5, hv => simp at hv
    have hn : (2 * n + 1).natAbs < 2 ^ 100 := Nat.lt_of_le_of_lt (show (2 * n + 1).natAbs ≤ 2000001 by omega) (by decide)
    refine ⟨.ref b, rfl, _, rfl, 2, n, rfl, rfl, .inl ⟨by decide, by decide⟩, _, 1, rfl, rfl, b, sb, _, rfl, B1, (show (0 : Int) < 2 * n + 1 by omega), hn, fun z H2 z0 z1 B2 k2 => ?_⟩
    refine ⟨_, rfl, z, n, rfl, rfl, .ref b, rfl, _, rfl, 2, n, rfl, rfl, .inl ⟨by decide, by decide⟩, _, 1, rfl, rfl, b, sb, _, rfl, B2, (show (0 : Int) < 2 * n + 1 by omega), hn, fun z' H3 z0' z1' B3 k3 => ?_⟩
    refine ⟨_, rfl, z', n, rfl, rfl, (by show 2 ≤ sizeLine; decide), fun p hp => ?_⟩
    have kk : Keep b H H3 := (keep_new hl).trans (k1.trans (k2.trans k3))
    have hpn : H p = none := by
      cases e : H p with
      | none => rfl
      | some o => exact absurd (kk p o (B3.ne hp) e) (by rw [hp]; simp)
    exact q _ _ p _ (by omega) (by omega) (by omega) (by omega) hpn upd_same (B3.new hp) (kk.trans (keep_new hp))
end
section
variable {base : Heap} {K : PySem.W.Frag} {mg : Str → Option Value} {P : Program} {w : World}
def spSource (K : PySem.W.Frag) : Sp := fun vs H Q _ => ∃ (a : Addr) (ns : List Int), vs = [.ref a] ∧ SqL K H a (ns.map V.int) ∧ ns.length ≤ 63 ∧ ∀ b sb H', H b = none → Same H H' → Bag H' b sb → Q (.ref b) H'
theorem ok_source (T : Txt K mg) : FnOk P w K mg base CX0 1 T.f_source T.d_source ["_law_script"] (spSource K) := by
  refine T.F_source.ok sc_source (fun vs H Q E h => ?_) (fun cdv A outer s H vs Q E hr h => ?_)
  · obtain ⟨a, ns, rfl, _⟩ := h
    rfl
  · obtain ⟨a, ns, rfl, hS, hlen, q⟩ := h
    refine ⟨_, (pss_cons (ps_set (i := 1) sc_source.nd rfl (Or.inl rfl) pe_int)
      (pss_cons (ps_for PassesOwn.never rfl (pi_list (pe_slice sl_list (pv 0) po_none (po_some pe_int))) (pg_name (i := 2) sc_source.nd rfl (Or.inl rfl)) (pss_one (ps_set (i := 1) sc_source.nd rfl (Or.inl rfl) (pe_op op_mod (pe_op op_add (pe_op op_add (pe_op op_mul (pv 1) pe_int) (pe_op op_mod (pv 2) pe_int)) pe_int) pe_int))))
      (pss_one (ps_ret (pe_lst (pa_cons (pe_callTy call_list_of (by rfl) T.n_list (by decide +kernel) (pa_cons (pe_slice sl_list (pv 0) po_none (po_some pe_int)) pa_nil)) (pa_cons pe_int (pa_cons pe_int (pa_cons (pv 1) (pa_cons pe_int pa_nil)))))))))), ?_⟩
    have hcut : cutV (ns.map V.int) none (some 63) = ns.map V.int := by
      unfold cutV
      rw [HT.sIx_none, show HT.sIx (ns.map V.int).length (ns.map V.int).length (some 63) = min 63 (ns.map V.int).length from HT.sIx_nat _ _ 63]
      rw [List.drop_zero, List.length_map, Nat.sub_zero, Nat.min_eq_right hlen]
      exact List.take_of_length_le (by rw [List.length_map]; exact Nat.le_refl _)
    refine ⟨.ref a, rfl, 63, rfl, a, _, rfl, hS, fun p hp => ?_⟩
    rw [hcut]
    refine ⟨p, rfl, ⟨_, SqL.of upd_same⟩, for_list (K := K) (a := p) (xs := ns.map V.int) (fun i σ H2 => ∃ (m : Int) (y : Option V), σ = [some (.ref a), some (.int m), y] ∧ 0 ≤ m ∧ m < 2147483399 ∧ H2 = upd H p (.lst (ns.map V.int)))
      ⟨3812, none, rfl, by decide, by decide, rfl⟩ (fun i σ H2 _ ⟨_, _, _, _, _, e⟩ => by rw [e]; exact SqL.of upd_same) ?_ ?_⟩
    · rintro i x σ H2 hx ⟨m, y, rfl, m0, m1, rfl⟩
      obtain ⟨z, rfl⟩ : ∃ z, x = V.int z := by
        rw [List.getElem?_map] at hx
        cases e : ns[i]? with
        | none =>
          rw [e] at hx
          cases hx
        | some z =>
          rw [e] at hx
          exact ⟨z, (Option.some.inj hx).symm⟩
      refine ⟨_, rfl, m, 40692, rfl, rfl, .inr ⟨by decide, by decide⟩, _, rfl, z, 2147483399, rfl, rfl, (by show (0 : Int) < 2147483399; decide), _, _, rfl, rfl, _, 17, rfl, rfl, _, 2147483399, rfl, rfl, (by show (0 : Int) < 2147483399; decide), ?_⟩
      exact ⟨_, _, rfl, Int.emod_nonneg _ (by decide), Int.emod_lt_of_pos _ (by decide), rfl⟩
    · rintro σ H2 ⟨m, y, rfl, m0, m1, rfl⟩
      have hS2 : SqL K (upd H p (.lst (ns.map V.int))) a (ns.map V.int) := (same_new hp).seq hS
      refine ⟨.ref a, rfl, 63, rfl, a, _, rfl, hS2, fun p2 hp2 => ?_⟩
      rw [hcut]
      refine ⟨p2, _, rfl, .inl (SqL.of upd_same), fun l hl => ?_⟩
      refine ⟨_, rfl, (by show 5 ≤ sizeLine; decide), fun b hb => ?_⟩
      have sm : Same H (upd (upd (upd (upd H p (.lst (ns.map V.int))) p2 (.lst (ns.map V.int))) l (.lst (ns.map V.int))) b (.lst [.ref l, .int 0, .int 0, .int m, .int 0])) := (same_new hp).trans ((same_new hp2).trans ((same_new hl).trans (same_new hb)))
      exact q b l _ (((same_new hp).trans ((same_new hp2).trans (same_new hl))).free hb) sm ⟨ns, 0, 0, m, 0, upd_same, same_new hb _ _ upd_same, Int.le_refl _, by omega, m0, m1⟩
end
/-! ### like -/
def Flat (x y : V) : Prop := (∃ i, x = .int i ∧ y = .int i) ∨ (∃ b, x = .bl b ∧ y = .bl b) ∨ (x = .non ∧ y = .non) ∨ (∃ t, x = .str t ∧ y = .str t)
def Two (H : Hp) (p q : Addr) (xs ys : List V) : Prop := (H p = some (.tup xs) ∧ H q = some (.tup ys)) ∨ (H p = some (.lst xs) ∧ H q = some (.lst ys))
def Lk (H : Hp) : Nat → V → V → Prop
  | 0, x, y => Flat x y
  | n + 1, x, y => Flat x y ∨ ∃ (p q : Addr) (xs ys : List V), x = .ref p ∧ y = .ref q ∧ Two H p q xs ys ∧ xs.length = ys.length ∧ xs.length ≤ 1000 ∧ ∀ (i : Nat) (x y : V), xs[i]? = some x → ys[i]? = some y → Lk H n x y
theorem Two.same {H H' : Hp} {p q : Addr} {xs ys : List V} (h : Two H p q xs ys) (s : Same H H') : Two H' p q xs ys := by
  rcases h with ⟨a, b⟩ | ⟨a, b⟩
  · exact .inl ⟨s _ _ a, s _ _ b⟩
  · exact .inr ⟨s _ _ a, s _ _ b⟩
theorem Lk.same {H H' : Hp} (s : Same H H') : ∀ {n : Nat} {x y : V}, Lk H n x y → Lk H' n x y
  | 0, _, _, h => h
  | n + 1, _, _, h => by
    rcases h with h | ⟨p, q, xs, ys, e1, e2, t, l1, l2, a⟩
    · exact .inl h
    · exact .inr ⟨p, q, xs, ys, e1, e2, t.same s, l1, l2, fun i x y h1 h2 => (a i x y h1 h2).same s⟩
theorem Lk.flat {H : Hp} {n : Nat} {x y : V} (h : Flat x y) : Lk H n x y := match n with
  | 0 => h
  | _ + 1 => .inl h
section
variable {base : Heap} {K : PySem.W.Frag} {mg : Str → Option Value} {P : Program} {w : World}
def spLL (L : V → V → Hp → Prop) : Sp := fun vs H Q _ => ∃ x y : V, vs = [x, y] ∧ L x y H ∧ ∀ H', Same H H' → Q (.bl true) H'
theorem kit2 {a : String} {r1 r2 : Bool} (h1 : kitB a "tuple" = some r1) (h2 : kitB a "list" = some r2) : PySem.W.kitAny K (.type a) [.type "tuple", .type "list"] = some (r1 || r2) := by
  refine kitAny_cons (kit_ty h1) (fun e => ?_) (fun e => by rw [e]; rfl)
  subst e
  exact kitAny_cons (kit_ty h2) (fun e => by rw [e]; exact kitAny_nil) (fun e => by rw [e]; rfl)
theorem lk_core (T : Txt K mg) {k : Nat} {L L' : V → V → Hp → Prop} (G : FnOk P w K mg base CX0 k T.f_like T.d_like ["_law_found", "_law_due"] (spLL L')) (hs : ∀ x y H H', Same H H' → L' x y H → L' x y H')
    (hne : ∀ x y H, L x y H → Flat x y ∨ ∃ (p q : Addr) (xs ys : List V), x = .ref p ∧ y = .ref q ∧ Two H p q xs ys ∧ xs.length = ys.length ∧ xs.length ≤ 1000 ∧ ∀ (i : Nat) (x y : V), xs[i]? = some x → ys[i]? = some y → L' x y H) :
    FnOk P w K mg base CX0 (k + 1) T.f_like T.d_like ["_law_found", "_law_due"] (spLL L) := by
  refine T.F_like.ok sc_like (fun vs H Q E h => ?_) (fun cdv A outer s H vs Q E hr h => ?_)
  · obtain ⟨x, y, rfl, _⟩ := h
    rfl
  · obtain ⟨x, y, rfl, hl, qq⟩ := h
    refine ⟨_, (pss_cons (ps_if (pt_val (pe_callB call_isiT (by rfl) T.n_isinstance (by decide +kernel) (pa_cons (pv 1) (pa_cons (pe_tup (pa_cons (pe_bltn (v := .ty "tuple") (by rfl) T.n_tuple (by decide +kernel) rfl) (pa_cons (pe_bltn (v := .ty "list") (by rfl) T.n_list (by decide +kernel) rfl) pa_nil))) pa_nil)))) (pss_cons (ps_if (PW.pt (pw_or (pt_cmpR op_ne (pe_callB call_isi (by rfl) T.n_isinstance (by decide +kernel) (pa_cons (pv 0) (pa_cons (pe_bltn (v := .ty "tuple") (by rfl) T.n_tuple (by decide +kernel) rfl) pa_nil))) (pe_callB call_isi (by rfl) T.n_isinstance (by decide +kernel) (pa_cons (pv 1) (pa_cons (pe_bltn (v := .ty "tuple") (by rfl) T.n_tuple (by decide +kernel) rfl) pa_nil))) (nomark _)) (pw_or1 (pt_cmpR op_ne (pe_callB call_isi (by rfl) T.n_isinstance (by decide +kernel) (pa_cons (pv 0) (pa_cons (pe_bltn (v := .ty "list") (by rfl) T.n_list (by decide +kernel) rfl) pa_nil))) (pe_callB call_isi (by rfl) T.n_isinstance (by decide +kernel) (pa_cons (pv 1) (pa_cons (pe_bltn (v := .ty "list") (by rfl) T.n_list (by decide +kernel) rfl) pa_nil))) (nomark _))))) (pss_one (ps_ret pe_bl)) pss_nil)
      (pss_one (ps_ret (pe_and (pe_cmpR op_eq (pe_callB call_len_seq (by rfl) T.n_len (by decide +kernel) (pa_cons (pv 0) pa_nil)) (pe_callB call_len_seq (by rfl) T.n_len (by decide +kernel) (pa_cons (pv 1) pa_nil)) (nomark _)) (pe_one (pe_callB (cr_all rfl) (by rfl) T.n_all (by decide +kernel) (pa_cons (pe_lc (own := [("_law_k", 2)]) (g := (gName 2)) (tt := tYes) (te := tCall (spLL L') [] E0 (tCons (tOp (rIx K) _ _) (tCons (tOp (rIx K) _ _) _))) (by rfl) sc_like.nd (pi_range1 (by rfl) T.n_range (pa_cons (pe_callB call_len_seq (by rfl) T.n_len (by decide +kernel) (pa_cons (pv 1) pa_nil)) pa_nil)) (blkOk_by (own := [("_law_k", 2)]) (N := ["_law_found", "_law_due", "_law_k"]) (sc := defScope s_like) (by decide +kernel)) (fun _ _ _ _ _ => (pg_name (i := 2) sc_like.nd rfl (Or.inl rfl))) (fun _ _ _ _ _ => pts_nil) (fun _ _ _ _ _ => (pe_call G hr (by rfl) T.g_like T.F_like.kp T.b_like .nil pass0 (pa_cons (pe_ix ix_seq (pv 0) (pv 2) (fun _ _ => rfl)) (pa_cons (pe_ix ix_seq (pv 1) (pv 2) (fun _ _ => rfl)) pa_nil))))) pa_nil))))))) pss_nil)
      (pss_cons (ps_if (PW.pt (pw_or (pt_cmpR op_isN (pv 1) pe_non (nomark _)) (pw_or1 (pt_cmpR op_isN (pv 0) pe_non (nomark _))))) (pss_one (ps_ret (pe_and (pe_cmpR op_isN (pv 1) pe_non (nomark _)) (pe_one (pe_cmpR op_isN (pv 0) pe_non (nomark _)))))) pss_nil)
      (pss_one (ps_ret (pe_and (pe_cmpR op_eq (pe_callB call_isi (by rfl) T.n_isinstance (by decide +kernel) (pa_cons (pv 0) (pa_cons (pe_bltn (v := .ty "bool") (by rfl) T.n_bool (by decide +kernel) rfl) pa_nil))) (pe_callB call_isi (by rfl) T.n_isinstance (by decide +kernel) (pa_cons (pv 1) (pa_cons (pe_bltn (v := .ty "bool") (by rfl) T.n_bool (by decide +kernel) rfl) pa_nil))) (nomark _)) (pe_one (pe_cmpR op_eq (pv 0) (pv 1) (nomark _)))))))), ?_⟩
    refine ⟨_, rfl, by show 2 ≤ sizeLine; decide, fun tp htp => ?_⟩
    have sm := same_new (o := .tup [.ty "tuple", .ty "list"]) htp
    rcases hne x y H hl with (⟨i, rfl, rfl⟩ | ⟨b, rfl, rfl⟩ | ⟨rfl, rfl⟩ | ⟨i, rfl, rfl⟩) | ⟨p, q, xs, ys, rfl, rfl, hT, l1, l2, hA⟩
    · refine ⟨.int i, tp, [.ty "tuple", .ty "list"], .type "int", [.type "tuple", .type "list"], (false || false), rfl, upd_same, .cons (ClsV.ty _) (.cons (ClsV.ty _) .nil), TyX.base (TyOf.int _), kit2 (by decide +kernel) (by decide +kernel), _, rfl, iteF ?_⟩
      refine ⟨_, rfl, rfl, _, rfl, iteF ?_⟩
      refine ⟨_, rfl, rfl, _, rfl, iteF ?_⟩
      refine ⟨_, rfl, .int i, .ty "bool", _, _, false, rfl, ClsV.ty _, TyX.base (TyOf.int _), kit_ty (by decide +kernel), _, rfl, .int i, .ty "bool", _, _, false, rfl, ClsV.ty _, TyX.base (TyOf.int _), kit_ty (by decide +kernel), rfl, true, rfl, iteT ?_⟩
      refine ⟨_, rfl, _, rfl, rfl, ?_⟩
      rw [decide_eq_true rfl]
      exact qq _ sm
    · refine ⟨.bl b, tp, [.ty "tuple", .ty "list"], .type "bool", [.type "tuple", .type "list"], (false || false), rfl, upd_same, .cons (ClsV.ty _) (.cons (ClsV.ty _) .nil), TyX.base (TyOf.bl _), kit2 (by decide +kernel) (by decide +kernel), _, rfl, iteF ?_⟩
      refine ⟨_, rfl, rfl, _, rfl, iteF ?_⟩
      refine ⟨_, rfl, rfl, _, rfl, iteF ?_⟩
      refine ⟨_, rfl, .bl b, .ty "bool", _, _, true, rfl, ClsV.ty _, TyX.base (TyOf.bl _), kit_ty (by decide +kernel), _, rfl, .bl b, .ty "bool", _, _, true, rfl, ClsV.ty _, TyX.base (TyOf.bl _), kit_ty (by decide +kernel), rfl, true, rfl, iteT ?_⟩
      refine ⟨_, rfl, _, rfl, rfl, ?_⟩
      rw [decide_eq_true rfl]
      exact qq _ sm
    · refine ⟨.non, tp, [.ty "tuple", .ty "list"], .type "NoneType", [.type "tuple", .type "list"], (false || false), rfl, upd_same, .cons (ClsV.ty _) (.cons (ClsV.ty _) .nil), TyX.base TyOf.non, kit2 (by decide +kernel) (by decide +kernel), _, rfl, iteF ?_⟩
      refine ⟨_, rfl, rfl, _, rfl, iteT ?_⟩
      exact ⟨_, rfl, rfl, true, rfl, iteT ⟨_, rfl, rfl, qq _ sm⟩⟩
    · refine ⟨.str i, tp, [.ty "tuple", .ty "list"], .type "str", [.type "tuple", .type "list"], (false || false), rfl, upd_same, .cons (ClsV.ty _) (.cons (ClsV.ty _) .nil), TyX.base (TyOf.str _), kit2 (by decide +kernel) (by decide +kernel), _, rfl, iteF ?_⟩
      refine ⟨_, rfl, rfl, _, rfl, iteF ?_⟩
      refine ⟨_, rfl, rfl, _, rfl, iteF ?_⟩
      refine ⟨_, rfl, .str i, .ty "bool", _, _, false, rfl, ClsV.ty _, TyX.base (TyOf.str _), kit_ty (by decide +kernel), _, rfl, .str i, .ty "bool", _, _, false, rfl, ClsV.ty _, TyX.base (TyOf.str _), kit_ty (by decide +kernel), rfl, true, rfl, iteT ?_⟩
      refine ⟨_, rfl, _, rfl, rfl, ?_⟩
      rw [decide_eq_true rfl]
      exact qq _ sm
    · have hT' := hT.same sm
      rcases hT' with ⟨hp, hq⟩ | ⟨hp, hq⟩
      · refine ⟨.ref q, tp, [.ty "tuple", .ty "list"], .type "tuple", [.type "tuple", .type "list"], (true || false), rfl, upd_same, .cons (ClsV.ty _) (.cons (ClsV.ty _) .nil), TyX.base (TyOf.tup hq), kit2 (by decide +kernel) (by decide +kernel), _, rfl, iteT ?_⟩
        refine ⟨_, rfl, .ref p, .ty "tuple", _, _, true, rfl, ClsV.ty _, TyX.base (TyOf.tup hp), kit_ty (by decide +kernel), _, rfl, .ref q, .ty "tuple", _, _, true, rfl, ClsV.ty _, TyX.base (TyOf.tup hq), kit_ty (by decide +kernel), rfl, _, rfl, iteF ?_⟩
        refine ⟨_, rfl, .ref p, .ty "list", _, _, false, rfl, ClsV.ty _, TyX.base (TyOf.tup hp), kit_ty (by decide +kernel), _, rfl, .ref q, .ty "list", _, _, false, rfl, ClsV.ty _, TyX.base (TyOf.tup hq), kit_ty (by decide +kernel), rfl, _, rfl, iteF ?_⟩
        refine ⟨_, rfl, p, xs, rfl, .inr (SqT.of hp), _, rfl, q, ys, rfl, .inr (SqT.of hq), rfl, true, (by rw [l1, decide_eq_true rfl]), iteT ?_⟩
        refine ⟨_, rfl, q, ys, rfl, .inr (SqT.of hq), _, rfl, (by omega), (by omega), fun D hD => ?_⟩
        refine lc_range (lo := 0) (n := ys.length) (fun i H' => Same H H' ∧ H' D = some (.lst ((List.replicate i true).map V.bl))) ⟨sm.trans (same_new hD), upd_same⟩ ?_ ?_
        · rintro i H' hi ⟨sm', hd⟩
          obtain ⟨x1, e1, f1⟩ := at_some (xs := xs) (show 0 ≤ (0 : Int) + (i : Int) by omega) (by omega)
          obtain ⟨y1, e2, f2⟩ := at_some (xs := ys) (show 0 ≤ (0 : Int) + (i : Int) by omega) (by omega)
          rcases hT with ⟨hp0, hq0⟩ | ⟨hp0, hq0⟩
          · refine ⟨rfl, ⟨_, rfl, _, rfl, .inr (.inl ⟨p, xs, _, x1, rfl, rfl, SqT.of (sm' _ _ hp0), f1, _, rfl, _, rfl, .inr (.inl ⟨q, ys, _, y1, rfl, rfl, SqT.of (sm' _ _ hq0), f2, x1, y1, rfl, hs _ _ _ _ sm' (hA _ _ _ e1 e2), fun H2 s2 => ?_⟩)⟩)⟩⟩
            refine ⟨_, s2 _ _ hd, ?_, ?_, ?_⟩
            · rw [List.length_map, List.length_replicate]
              exact small1000 (by omega)
            · exact fun a o z => (upd_ne (ne_of_none z (sm.free hD))).trans (s2 _ _ (sm' a o z))
            · rw [upd_same, List.replicate_succ', List.map_append]
              rfl
          · exact absurd (sm _ _ hp0) (by rw [hp]; simp)
        · rintro H' ⟨sm', hd⟩
          refine ⟨D, _, rfl, SqL.of hd, ?_⟩
          rw [show (List.replicate ys.length true).all id = true by simp]
          exact qq _ sm'
      · refine ⟨.ref q, tp, [.ty "tuple", .ty "list"], .type "list", [.type "tuple", .type "list"], (false || true), rfl, upd_same, .cons (ClsV.ty _) (.cons (ClsV.ty _) .nil), TyX.base (TyOf.lst hq), kit2 (by decide +kernel) (by decide +kernel), _, rfl, iteT ?_⟩
        refine ⟨_, rfl, .ref p, .ty "tuple", _, _, false, rfl, ClsV.ty _, TyX.base (TyOf.lst hp), kit_ty (by decide +kernel), _, rfl, .ref q, .ty "tuple", _, _, false, rfl, ClsV.ty _, TyX.base (TyOf.lst hq), kit_ty (by decide +kernel), rfl, _, rfl, iteF ?_⟩
        refine ⟨_, rfl, .ref p, .ty "list", _, _, true, rfl, ClsV.ty _, TyX.base (TyOf.lst hp), kit_ty (by decide +kernel), _, rfl, .ref q, .ty "list", _, _, true, rfl, ClsV.ty _, TyX.base (TyOf.lst hq), kit_ty (by decide +kernel), rfl, _, rfl, iteF ?_⟩
        refine ⟨_, rfl, p, xs, rfl, .inl (SqL.of hp), _, rfl, q, ys, rfl, .inl (SqL.of hq), rfl, true, (by rw [l1, decide_eq_true rfl]), iteT ?_⟩
        refine ⟨_, rfl, q, ys, rfl, .inl (SqL.of hq), _, rfl, (by omega), (by omega), fun D hD => ?_⟩
        refine lc_range (lo := 0) (n := ys.length) (fun i H' => Same H H' ∧ H' D = some (.lst ((List.replicate i true).map V.bl))) ⟨sm.trans (same_new hD), upd_same⟩ ?_ ?_
        · rintro i H' hi ⟨sm', hd⟩
          obtain ⟨x1, e1, f1⟩ := at_some (xs := xs) (show 0 ≤ (0 : Int) + (i : Int) by omega) (by omega)
          obtain ⟨y1, e2, f2⟩ := at_some (xs := ys) (show 0 ≤ (0 : Int) + (i : Int) by omega) (by omega)
          rcases hT with ⟨hp0, hq0⟩ | ⟨hp0, hq0⟩
          · exact absurd (sm _ _ hp0) (by rw [hp]; simp)
          · refine ⟨rfl, ⟨_, rfl, _, rfl, .inl ⟨p, xs, _, x1, rfl, rfl, SqL.of (sm' _ _ hp0), f1, _, rfl, _, rfl, .inl ⟨q, ys, _, y1, rfl, rfl, SqL.of (sm' _ _ hq0), f2, x1, y1, rfl, hs _ _ _ _ sm' (hA _ _ _ e1 e2), fun H2 s2 => ?_⟩⟩⟩⟩
            refine ⟨_, s2 _ _ hd, ?_, ?_, ?_⟩
            · rw [List.length_map, List.length_replicate]
              exact small1000 (by omega)
            · exact fun a o z => (upd_ne (ne_of_none z (sm.free hD))).trans (s2 _ _ (sm' a o z))
            · rw [upd_same, List.replicate_succ', List.map_append]
              rfl
        · rintro H' ⟨sm', hd⟩
          refine ⟨D, _, rfl, SqL.of hd, ?_⟩
          rw [show (List.replicate ys.length true).all id = true by simp]
          exact qq _ sm'
theorem ok_likeN (T : Txt K mg) : ∀ n : Nat, FnOk P w K mg base CX0 (n + 1) T.f_like T.d_like ["_law_found", "_law_due"] (spLL fun x y H => Lk H n x y)
  | 0 => lk_core T (L' := fun _ _ _ => False) ⟨fun _ _ _ _ ⟨_, _, _, h, _⟩ => h.elim, fun _ _ _ _ _ _ _ _ _ _ _ _ _ ⟨_, _, _, h, _⟩ => h.elim⟩ (fun _ _ _ _ _ h => h) fun x y H h => .inl h
  | n + 1 => lk_core T (ok_likeN T n) (fun _ _ _ _ s h => h.same s) fun x y H h => h
theorem ok_like (T : Txt K mg) : FnOk P w K mg base CX0 7 T.f_like T.d_like ["_law_found", "_law_due"] (spLL fun x y H => Lk H 6 x y) := ok_likeN T 6
end
inductive LkAll (H : Hp) (n : Nat) : List V → List V → Prop
  | nil : LkAll H n [] []
  | cons {x y : V} {xs ys : List V} : Lk H n x y → LkAll H n xs ys → LkAll H n (x :: xs) (y :: ys)
theorem LkAll.get {H : Hp} {n : Nat} : ∀ {xs ys : List V}, LkAll H n xs ys → xs.length = ys.length ∧ ∀ (i : Nat) (x y : V), xs[i]? = some x → ys[i]? = some y → Lk H n x y
  | _, _, .nil => ⟨rfl, fun i x y h => by simp at h⟩
  | _, _, .cons h t => ⟨congrArg Nat.succ t.get.1, fun i x y h1 h2 => match i, h1, h2 with
    | 0, h1, h2 => by cases h1; cases h2; exact h
    | i + 1, h1, h2 => t.get.2 i x y (by simpa using h1) (by simpa using h2)⟩
theorem Lk.lists {H : Hp} {n : Nat} {p q : Addr} {xs ys : List V} (hp : H p = some (.lst xs)) (hq : H q = some (.lst ys)) (hl : xs.length ≤ 1000) (h : LkAll H n xs ys) : Lk H (n + 1) (.ref p) (.ref q) := .inr ⟨p, q, xs, ys, rfl, rfl, .inr ⟨hp, hq⟩, h.get.1, hl, h.get.2⟩
theorem Lk.tups {H : Hp} {n : Nat} {p q : Addr} {xs ys : List V} (hp : H p = some (.tup xs)) (hq : H q = some (.tup ys)) (hl : xs.length ≤ 1000) (h : LkAll H n xs ys) : Lk H (n + 1) (.ref p) (.ref q) := .inr ⟨p, q, xs, ys, rfl, rfl, .inl ⟨hp, hq⟩, h.get.1, hl, h.get.2⟩
theorem Lk.int {H : Hp} {n : Nat} {i j : Int} (e : i = j) : Lk H n (.int i) (.int j) := Lk.flat (.inl ⟨i, rfl, by rw [e]⟩)
theorem Lk.bl {H : Hp} {n : Nat} {i j : Bool} (e : i = j) : Lk H n (.bl i) (.bl j) := Lk.flat (.inr (.inl ⟨i, rfl, by rw [e]⟩))
theorem Lk.pair {H : Hp} {n : Nat} {p q : Addr} {x y x' y' : Int} (hp : H p = some (.tup [.int x, .int y])) (hq : H q = some (.tup [.int x', .int y'])) (e1 : x = x') (e2 : y = y') : Lk H (n + 1) (.ref p) (.ref q) :=
  .tups hp hq (by simp) (.cons (.int e1) (.cons (.int e2) .nil))
/-! ### lists of ints that comprehensions make -/
def Pt (H : Hp) (D : Addr) (ns : List Int) (i : Nat) (H' : Hp) : Prop := Same H H' ∧ H' D = some (.lst ((ns.take i).map V.int))
theorem pt_step {H H' : Hp} {D : Addr} {ns : List Int} {i : Nat} {z : Int} (h : Pt H D ns i H') (hD : H D = none) (hz : ns[i]? = some z) : Pt H D ns (i + 1) (upd H' D (.lst ((ns.take i).map V.int ++ [.int z]))) := by
  refine ⟨fun a o e => (upd_ne (ne_of_none e hD)).trans (h.1 a o e), ?_⟩
  rw [upd_same, List.take_add_one, hz, List.map_append]
  rfl
theorem pt_size {ns : List Int} {i : Nat} (h : ns.length ≤ 1000) : ((ns.take i).map V.int).length < sizeLine := by
  rw [List.length_map, List.length_take]
  exact small1000 (by omega)
theorem pt_end {H H' : Hp} {D : Addr} {ns : List Int} {i : Nat} (h : Pt H D ns i H') (hi : ns.length ≤ i) : Same H H' ∧ H' D = some (.lst (ns.map V.int)) := by
  have := h.2
  rw [List.take_of_length_le hi] at this
  exact ⟨h.1, this⟩
/-! ### pairs -/
def PairAt (K : PySem.W.Frag) (H : Hp) (v : V) (x y : Int) : Prop := ∃ t : Addr, v = .ref t ∧ SqT K H t [.int x, .int y]
theorem PairAt.same {K : PySem.W.Frag} {H H' : Hp} {v : V} {x y : Int} (h : PairAt K H v x y) (s : Same H H') : PairAt K H' v x y := by
  obtain ⟨t, e, h⟩ := h
  exact ⟨t, e, Evl.ex_t (show Evl.Ex H H' from s) h⟩
inductive PairsAt (K : PySem.W.Frag) (H : Hp) : List V → List (Int × Int) → Prop
  | nil : PairsAt K H [] []
  | cons {v : V} {vs : List V} {x y : Int} {ps : List (Int × Int)} : PairAt K H v x y → PairsAt K H vs ps → PairsAt K H (v :: vs) ((x, y) :: ps)
theorem PairsAt.get {K : PySem.W.Frag} {H : Hp} : ∀ {vs : List V} {ps : List (Int × Int)}, PairsAt K H vs ps → ∀ {i : Nat} {v : V}, vs[i]? = some v → ∃ x y, ps[i]? = some (x, y) ∧ PairAt K H v x y
  | _, _, .nil, i, v, h => by simp at h
  | _, _, .cons p t, 0, v, h => by cases h; exact ⟨_, _, rfl, p⟩
  | _, _, .cons p t, i + 1, v, h => t.get (i := i) (by simpa using h)
theorem PairsAt.same {K : PySem.W.Frag} {H H' : Hp} (s : Same H H') : ∀ {vs : List V} {ps : List (Int × Int)}, PairsAt K H vs ps → PairsAt K H' vs ps
  | _, _, .nil => .nil
  | _, _, .cons p t => .cons (p.same s) (t.same s)
theorem PairsAt.len {K : PySem.W.Frag} {H : Hp} : ∀ {vs : List V} {ps : List (Int × Int)}, PairsAt K H vs ps → vs.length = ps.length
  | _, _, .nil => rfl
  | _, _, .cons p t => congrArg Nat.succ t.len
def s1 (ps : List (Int × Int)) : Int := (ps.map (·.1)).sum
def s2 (ps : List (Int × Int)) : Int := (ps.map (·.2)).sum
/-- a new pair -/
def NewPair (H : Hp) (x y : Int) (Q : VK) : Prop := ∀ p H', H p = none → Same H H' → H' p = some (.tup [.int x, .int y]) → Q (.ref p) H'
/-! ### tuples stay -/
theorem tup_keep {H H' : Hp} {b sb : Addr} (B : Bag H b sb) (k : Keep b H H') (p : Addr) (xs : List V) (h : H p = some (.tup xs)) : H' p = some (.tup xs) := k _ _ (B.tup h) h
theorem tup_put {H : Hp} {l : Addr} {ys zs : List V} (hl : H l = some (.lst ys)) (p : Addr) (xs : List V) (h : H p = some (.tup xs)) : (upd H l (.lst zs)) p = some (.tup xs) := (upd_ne (ne_of h hl (by intro z; cases z))).trans h
theorem tup_same {H H' : Hp} (s : Same H H') (p : Addr) (xs : List V) (h : H p = some (.tup xs)) : H' p = some (.tup xs) := s _ _ h
/-! ### alike, from its parts -/
/-! ### the sign by squares -/
def ab (i : Int) : Int := if i < 0 then -i else i
def vl (a b d : Int) : Int := a * ab a + d * b * ab b
def sgnI (x : Int) : Int := (if decide (0 < x) = true then 1 else 0) - (if decide (x < 0) = true then 1 else 0)
theorem sgnI_pos {x : Int} (h : 0 < x) : sgnI x = 1 := by
  unfold sgnI
  rw [if_pos (decide_eq_true h), if_neg (by simp; omega)]
  rfl
theorem sgnI_neg {x : Int} (h : x < 0) : sgnI x = -1 := by
  unfold sgnI
  rw [if_neg (by simp; omega), if_pos (decide_eq_true h)]
  rfl
theorem sgnI_zero : sgnI 0 = 0 := by decide
theorem ab_abs (i : Int) : (ab i).natAbs = i.natAbs := by
  unfold ab
  split <;> omega
theorem ab_neg {i : Int} (h : i < 0) : ab i = -i := if_pos h
theorem ab_nn {i : Int} (h : 0 ≤ i) : ab i = i := if_neg (by omega)
section
variable {base : Heap} {K : PySem.W.Frag} {mg : Str → Option Value} {P : Program} {w : World}
def spSign (K : PySem.W.Frag) : Sp := fun vs H Q _ => ∃ (t : Addr) (d a b : Int), vs = [.ref t, .int d] ∧ SqT K H t [.int a, .int b] ∧ d.natAbs < 2 ^ 64 ∧ a.natAbs < 2 ^ 9000 ∧ b.natAbs < 2 ^ 9000 ∧ Q (.int (sgnI (vl a b d))) H
theorem ok_lsign (T : Txt K mg) : FnOk P w K mg base CX0 1 T.f_lsign T.d_lsign ["_law_pair", "_law_root"] (spSign K) := by
  refine T.F_lsign.ok sc_lsign (fun vs H Q E h => ?_) (fun cdv A outer s H vs Q E hr h => ?_)
  · obtain ⟨t, d, a, b, rfl, _⟩ := h
    rfl
  · obtain ⟨t, d, a, b, rfl, hT, d1, a1, b1, q⟩ := h
    refine ⟨_, (pss_cons (ps_set (i := 2) sc_lsign.nd rfl (Or.inl rfl) (pe_op op_add (pe_op op_mulW (pe_ix ix_tup (pv 0) pe_int (fun _ _ => rfl)) (pe_callB call_abs (by rfl) T.n_abs (by decide +kernel) (pa_cons (pe_ix ix_tup (pv 0) pe_int (fun _ _ => rfl)) pa_nil))) (pe_op op_mulW (pe_op op_mulW (pv 1) (pe_ix ix_tup (pv 0) pe_int (fun _ _ => rfl))) (pe_callB call_abs (by rfl) T.n_abs (by decide +kernel) (pa_cons (pe_ix ix_tup (pv 0) pe_int (fun _ _ => rfl)) pa_nil)))))
      (pss_one (ps_ret (pe_op op_sub (pe_callTy call_int1 (by rfl) T.n_int (by decide +kernel) (pa_cons (pe_cmpR op_gt (pv 2) pe_int (nomark _)) pa_nil)) (pe_callTy call_int1 (by rfl) T.n_int (by decide +kernel) (pa_cons (pe_cmpR op_lt (pv 2) pe_int (nomark _)) pa_nil)))))), ?_⟩
    have a2 : (ab a).natAbs < 2 ^ 9000 := by rw [ab_abs]; exact a1
    have b2 : (ab b).natAbs < 2 ^ 9000 := by rw [ab_abs]; exact b1
    have m1 : (d * b).natAbs < 2 ^ (64 + 9000) := wide_lt d1 b1
    refine ⟨_, rfl, t, _, 0, .int a, rfl, rfl, hT, atI_nat (j := 0) rfl, _, rfl, t, _, 0, .int a, rfl, rfl, hT, atI_nat (j := 0) rfl, a, rfl, a, _, rfl, rfl, wide_mul a1 a2 (by decide) (by decide) (by decide),
      _, rfl, _, rfl, t, _, 1, .int b, rfl, rfl, hT, atI_nat (j := 1) rfl, d, b, rfl, rfl, wide_mul d1 b1 (by decide) (by decide) (by decide), _, rfl, t, _, 1, .int b, rfl, rfl, hT, atI_nat (j := 1) rfl, b, rfl, _, _, rfl, rfl, wide_mul m1 b2 (by decide) (by decide) (by decide), _, _, rfl, rfl, ?_⟩
    exact ⟨_, rfl, vl a b d, 0, rfl, rfl, .inr ⟨_, rfl, _, rfl, vl a b d, 0, rfl, rfl, .inr ⟨_, rfl, _, _, rfl, rfl, q⟩⟩⟩
end
/-! ### steps as data -/
inductive Itm where
  | str (s : Str)
  | int (n : Int)
  | pair (a b : Int)
  | sheet (x : Sh)
abbrev words : List Str := ["saw", "split", "glue", "stack", "turn", "Saw", "across", "along", "", "Across"]
/-- what stands for an item -/
def ItAt (H : Hp) (v : V) : Itm → Prop
  | .str s => v = .str s ∧ s ∈ words
  | .int n => v = .int n
  | .pair a b => ∃ p, v = .ref p ∧ H p = some (.tup [.int a, .int b])
  | .sheet x => ∃ p, v = .ref p ∧ ShAt H p x
theorem ItAt.mono {H H' : Hp} (k : ∀ p xs, H p = some (.tup xs) → H' p = some (.tup xs)) {v : V} {t : Itm} (h : ItAt H v t) : ItAt H' v t := by
  cases t with
  | str s => exact h
  | int n => exact h
  | pair a b =>
    obtain ⟨p, e, h⟩ := h
    exact ⟨p, e, k _ _ h⟩
  | sheet x =>
    obtain ⟨p, e, h⟩ := h
    exact ⟨p, e, h.mono k⟩
theorem ItAt.same {H H' : Hp} (s : Same H H') {v : V} {t : Itm} (h : ItAt H v t) : ItAt H' v t := h.mono fun _ _ z => s _ _ z
def StepAt (H : Hp) (p : Addr) (ts : List Itm) : Prop := ∃ vs, H p = some (.tup vs) ∧ Paired (ItAt H) vs ts
theorem StepAt.mono {H H' : Hp} (k : ∀ p xs, H p = some (.tup xs) → H' p = some (.tup xs)) {p : Addr} {ts : List Itm} (h : StepAt H p ts) : StepAt H' p ts := by
  obtain ⟨vs, h1, h2⟩ := h
  refine ⟨vs, k _ _ h1, ?_⟩
  clear h1
  induction h2 with
  | nil => exact .nil
  | cons r _ ih => exact .cons (r.mono k) ih
theorem StepAt.same {H H' : Hp} (s : Same H H') {p : Addr} {ts : List Itm} (h : StepAt H p ts) : StepAt H' p ts := h.mono fun _ _ z => s _ _ z
def pairB : Itm → Bool
  | .pair _ _ => true
  | _ => false
def sheetB : Itm → Bool
  | .sheet _ => true
  | _ => false
def sideB : Itm → Bool
  | .str s => decide (s = "across" ∨ s = "along")
  | _ => false
def leastB (n : Int) : Itm → Bool
  | .int m => decide (n ≤ m)
  | _ => false
section
variable {K : PySem.W.Frag} {H : Hp}
/-- the type of an item -/
theorem ItAt.ty {v : V} {t : Itm} (h : ItAt H v t) : ∃ ty : String, TyX K H v (.type ty) ∧ (ty = "str" ∨ ty = "int" ∨ ty = "tuple") ∧ (ty = "str" ↔ ∃ s, t = .str s) ∧ (ty = "int" ↔ ∃ n, t = .int n) ∧ (ty = "tuple" ↔ (pairB t || sheetB t) = true) := by
  cases t with
  | str s =>
    rw [h.1]
    exact ⟨"str", TyX.base (TyOf.str _), by simp, by simp, by simp, by simp [pairB, sheetB]⟩
  | int n =>
    rw [show v = .int n from h]
    exact ⟨"int", TyX.base (TyOf.int _), by simp, by simp, by simp, by simp [pairB, sheetB]⟩
  | pair a b =>
    obtain ⟨p, rfl, h⟩ := h
    exact ⟨"tuple", TyX.base (TyOf.tup h), by simp, by simp, by simp, by simp [pairB]⟩
  | sheet x =>
    obtain ⟨p, rfl, u, v, h, _⟩ := h
    exact ⟨"tuple", TyX.base (TyOf.tup h), by simp, by simp, by simp, by simp [sheetB]⟩
end
/-! ### steps: what is one, without the program's defs -/
def itD : Itm → PyData
  | .str s => .str s
  | .int n => .int n
  | .pair a b => .tuple [.int a, .int b]
  | .sheet x => encS x
theorem ItAt.dp {K : PySem.W.Frag} {H : Hp} {v : V} {t : Itm} (h : ItAt H v t) : Dp K H v (itD t) := by
  cases t with
  | str s =>
    obtain ⟨rfl, _⟩ := h
    exact .str _
  | int n =>
    cases (show v = .int n from h)
    exact .int _
  | pair a b =>
    obtain ⟨p, rfl, h⟩ := h
    exact .tup (SqT.of h) (.cons (.int _) (.cons (.int _) .nil))
  | sheet x =>
    obtain ⟨p, rfl, u, v, h1, h2, h3⟩ := h
    exact .tup (SqT.of h1) (.cons (.tup (SqT.of h2) (.cons (.int _) (.cons (.int _) .nil))) (.cons (.tup (SqT.of h3) (.cons (.int _) (.cons (.int _) .nil))) .nil))
theorem itD_plain (t : Itm) : (itD t).plain = true := by
  cases t <;> simp [itD, encS, PyData.plain, PyData.plainAll]
def spItm (f : Itm → Bool) : Sp := fun vs H Q _ => ∃ (v : V) (t : Itm), vs = [v] ∧ ItAt H v t ∧ Q (.bl (f t)) H
def fitB (k : Str) (t : Itm) : Bool := if k = "sheet" then sheetB t else if k = "side" then sideB t else if k = "pair" then pairB t else leastB (if k = "pieces" then 2 else 1) t
theorem dV' {x y : Int} : decide (V.int x = V.int y) = decide (x = y) := by
  by_cases h : x = y
  · rw [decide_eq_true h, h, decide_eq_true rfl]
  · rw [decide_eq_false h, decide_eq_false fun z => h (V.int.inj z)]
def shapeOf (s : Str) : Option (List Str) :=
  if s = "saw" then some ["sheet", "side", "pair", "copies"] else if s = "split" then some ["sheet", "side", "pieces", "copies"] else if s = "glue" then some ["sheet", "sheet", "side", "copies"]
  else if s = "stack" then some ["sheet", "side", "pieces", "copies"] else if s = "turn" then some ["sheet", "copies"] else none
def fitAll : List Itm → List Str → Bool
  | t :: ts, k :: ks => fitB k t && fitAll ts ks
  | _, _ => true
def shapeB : List Itm → Bool
  | .str s :: ts => match shapeOf s with
    | some ks => decide (ts.length = ks.length) && fitAll ts ks
    | none => false
  | _ => false
def spStep (f : List Itm → Bool) : Sp := fun vs H Q _ => ∃ (p : Addr) (ts : List Itm), vs = [.ref p] ∧ StepAt H p ts ∧ ts.length ≤ 10 ∧ ∀ H', Same H H' → Q (.bl (f ts)) H'
def sideOf (x : Sh) (s : Str) : Int × Int := if s = "across" then (x.1, x.2.1) else (x.2.2.1, x.2.2.2)
def turnS (x : Sh) : Sh := (x.2.2.1, x.2.2.2, x.1, x.2.1)
def evenB (x : Sh) (s : Str) (n : Int) : Bool := decide ((sideOf x s).1 % n = 0) && decide ((sideOf x s).2 % n = 0)
def glueB (x y : Sh) (s : Str) : Bool := decide (sideOf (turnS x) s = sideOf (turnS y) s)
def moreB : List Itm → Bool
  | [.str w, .sheet x, .str s, .int n, .int _] => if w = "split" then evenB x s n else true
  | [.str w, .sheet x, .sheet y, .str s, .int _] => if w = "glue" then glueB x y s else true
  | _ => true
def stepB (ts : List Itm) : Bool := shapeB ts && moreB ts
abbrev SideW (s : Str) : Prop := s = "across" ∨ s = "along"
theorem fit_sheet {t : Itm} (h : fitB "sheet" t = true) : ∃ x, t = .sheet x := by
  cases t <;> first | exact ⟨_, rfl⟩ | cases h
theorem fit_side {t : Itm} (h : fitB "side" t = true) : ∃ s, t = .str s ∧ SideW s := by
  cases t with
  | str s => exact ⟨s, rfl, of_decide_eq_true h⟩
  | _ => cases h
theorem fit_pair {t : Itm} (h : fitB "pair" t = true) : ∃ a b, t = .pair a b := by
  cases t <;> first | exact ⟨_, _, rfl⟩ | cases h
theorem fit_pieces {t : Itm} (h : fitB "pieces" t = true) : ∃ n, t = .int n ∧ 2 ≤ n := by
  cases t with
  | int n => exact ⟨n, rfl, of_decide_eq_true h⟩
  | _ => cases h
theorem fit_copies {t : Itm} (h : fitB "copies" t = true) : ∃ n, t = .int n ∧ 1 ≤ n := by
  cases t with
  | int n => exact ⟨n, rfl, of_decide_eq_true h⟩
  | _ => cases h
/-- what has a shape -/
inductive Shaped : List Itm → Prop
  | saw {x : Sh} {s : Str} {a b c : Int} (hs : SideW s) (hc : 1 ≤ c) : Shaped [.str "saw", .sheet x, .str s, .pair a b, .int c]
  | split {x : Sh} {s : Str} {n c : Int} (hs : SideW s) (hn : 2 ≤ n) (hc : 1 ≤ c) : Shaped [.str "split", .sheet x, .str s, .int n, .int c]
  | glue {x y : Sh} {s : Str} {c : Int} (hs : SideW s) (hc : 1 ≤ c) : Shaped [.str "glue", .sheet x, .sheet y, .str s, .int c]
  | stack {x : Sh} {s : Str} {n c : Int} (hs : SideW s) (hn : 2 ≤ n) (hc : 1 ≤ c) : Shaped [.str "stack", .sheet x, .str s, .int n, .int c]
  | turn {x : Sh} {c : Int} (hc : 1 ≤ c) : Shaped [.str "turn", .sheet x, .int c]
theorem fit4 {ts : List Itm} {k1 k2 k3 k4 : Str} (h : (decide (ts.length = 4) && fitAll ts [k1, k2, k3, k4]) = true) : ∃ t1 t2 t3 t4, ts = [t1, t2, t3, t4] ∧ fitB k1 t1 = true ∧ fitB k2 t2 = true ∧ fitB k3 t3 = true ∧ fitB k4 t4 = true := by
  rw [Bool.and_eq_true] at h
  obtain ⟨h1, h2⟩ := h
  have h1 := of_decide_eq_true h1
  match ts, h1 with
  | [t1, t2, t3, t4], _ =>
    simp only [fitAll, Bool.and_eq_true, Bool.and_true] at h2
    exact ⟨t1, t2, t3, t4, rfl, h2.1, h2.2.1, h2.2.2.1, h2.2.2.2⟩
theorem shape_inv {ts : List Itm} (h : shapeB ts = true) : Shaped ts := by
  match ts, h with
  | .str s :: ts, h =>
    by_cases s1 : s = "saw"
    · subst s1
      obtain ⟨t1, t2, t3, t4, rfl, f1, f2, f3, f4⟩ := fit4 (show (decide (ts.length = 4) && fitAll ts ["sheet", "side", "pair", "copies"]) = true from h)
      obtain ⟨x, rfl⟩ := fit_sheet f1
      obtain ⟨w, rfl, hw⟩ := fit_side f2
      obtain ⟨a, b, rfl⟩ := fit_pair f3
      obtain ⟨c, rfl, hc⟩ := fit_copies f4
      exact .saw hw hc
    by_cases s2 : s = "split"
    · subst s2
      obtain ⟨t1, t2, t3, t4, rfl, f1, f2, f3, f4⟩ := fit4 (show (decide (ts.length = 4) && fitAll ts ["sheet", "side", "pieces", "copies"]) = true from h)
      obtain ⟨x, rfl⟩ := fit_sheet f1
      obtain ⟨w, rfl, hw⟩ := fit_side f2
      obtain ⟨n, rfl, hn⟩ := fit_pieces f3
      obtain ⟨c, rfl, hc⟩ := fit_copies f4
      exact .split hw hn hc
    by_cases s3 : s = "glue"
    · subst s3
      obtain ⟨t1, t2, t3, t4, rfl, f1, f2, f3, f4⟩ := fit4 (show (decide (ts.length = 4) && fitAll ts ["sheet", "sheet", "side", "copies"]) = true from h)
      obtain ⟨x, rfl⟩ := fit_sheet f1
      obtain ⟨y, rfl⟩ := fit_sheet f2
      obtain ⟨w, rfl, hw⟩ := fit_side f3
      obtain ⟨c, rfl, hc⟩ := fit_copies f4
      exact .glue hw hc
    by_cases s4 : s = "stack"
    · subst s4
      obtain ⟨t1, t2, t3, t4, rfl, f1, f2, f3, f4⟩ := fit4 (show (decide (ts.length = 4) && fitAll ts ["sheet", "side", "pieces", "copies"]) = true from h)
      obtain ⟨x, rfl⟩ := fit_sheet f1
      obtain ⟨w, rfl, hw⟩ := fit_side f2
      obtain ⟨n, rfl, hn⟩ := fit_pieces f3
      obtain ⟨c, rfl, hc⟩ := fit_copies f4
      exact .stack hw hn hc
    by_cases s5 : s = "turn"
    · subst s5
      have h : (decide (ts.length = 2) && fitAll ts ["sheet", "copies"]) = true := h
      rw [Bool.and_eq_true] at h
      obtain ⟨h1, h2⟩ := h
      have h1 := of_decide_eq_true h1
      match ts, h1 with
      | [t1, t2], _ =>
        simp only [fitAll, Bool.and_eq_true, Bool.and_true] at h2
        obtain ⟨x, rfl⟩ := fit_sheet h2.1
        obtain ⟨c, rfl, hc⟩ := fit_copies h2.2
        exact .turn hc
    · exfalso
      have sn : shapeOf s = none := by
        unfold shapeOf
        rw [if_neg s1, if_neg s2, if_neg s3, if_neg s4, if_neg s5]
      simp only [shapeB, sn] at h
      cases h
section
variable {base : Heap} {K : PySem.W.Frag} {mg : Str → Option Value} {P : Program} {w : World}
def spTurned : Sp := fun vs H Q _ => ∃ (p : Addr) (x : Sh), vs = [.ref p] ∧ ShAt H p x ∧ ∀ q H', H q = none → Same H H' → ShAt H' q (turnS x) → Q (.ref q) H'
theorem ok_turned (T : Txt K mg) : FnOk P w K mg base CX0 1 T.f_turned T.d_turned ["sheet"] spTurned := by
  refine T.F_turned.ok sc_turned (fun vs H Q E h => ?_) (fun cdv A outer s H vs Q E hr h => ?_)
  · obtain ⟨p, x, rfl, _⟩ := h
    rfl
  · obtain ⟨p, x, rfl, ⟨u, v, h1, h2, h3⟩, q⟩ := h
    refine ⟨_, (pss_cons (ps_asg (pv 0) (pg_tup (by rfl) (pgs_cons (pg_name (i := 1) sc_turned.nd rfl (Or.inl rfl)) (pgs_cons (pg_name (i := 2) sc_turned.nd rfl (Or.inl rfl)) pgs_nil))))
      (pss_one (ps_ret (pe_tup (pa_cons (pv 2) (pa_cons (pv 1) pa_nil)))))), ?_⟩
    refine ⟨_, rfl, p, _, rfl, SqT.of h1, rfl, .ref u, _, rfl, .ref v, _, rfl, rfl, _, rfl, _, rfl, by show 2 ≤ sizeLine; decide, fun t ht => ?_⟩
    have e := same_new (o := .tup [.ref v, .ref u]) ht
    exact q t _ ht e ⟨v, u, upd_same, e _ _ h3, e _ _ h2⟩
def spSideOf : Sp := fun vs H Q _ => ∃ (p : Addr) (x : Sh) (s : Str), vs = [.ref p, .str s] ∧ ShAt H p x ∧ ∀ r, H r = some (.tup [.int (sideOf x s).1, .int (sideOf x s).2]) → Q (.ref r) H
theorem ok_side_of (T : Txt K mg) : FnOk P w K mg base CX0 1 T.f_side_of T.d_side_of ["sheet", "side"] spSideOf := by
  refine T.F_side_of.ok sc_side_of (fun vs H Q E h => ?_) (fun cdv A outer s H vs Q E hr h => ?_)
  · obtain ⟨p, x, s, rfl, _⟩ := h
    rfl
  · obtain ⟨p, x, sd, rfl, ⟨u, v, h1, h2, h3⟩, q⟩ := h
    refine ⟨_, (pss_cons (ps_asg (pv 0) (pg_tup (by rfl) (pgs_cons (pg_name (i := 2) sc_side_of.nd rfl (Or.inl rfl)) (pgs_cons (pg_name (i := 3) sc_side_of.nd rfl (Or.inl rfl)) pgs_nil))))
      (pss_one (ps_ret (pe_ifExp (pt_cmpR op_eq (pv 1) pe_str (nomark _)) (pv 2) (pv 3))))), ?_⟩
    unfold sideOf at q
    refine ⟨_, rfl, p, _, rfl, SqT.of h1, rfl, .ref u, _, rfl, .ref v, _, rfl, rfl, ?_⟩
    by_cases z : sd = "across"
    · rw [if_pos z] at q
      exact ⟨_, rfl, rfl, true, by rw [z, decide_eq_true rfl], iteT ⟨_, rfl, q u h2⟩⟩
    · rw [if_neg z] at q
      exact ⟨_, rfl, rfl, false, by rw [decide_eq_false fun e => z (V.str.inj e)], iteF ⟨_, rfl, q v h3⟩⟩
theorem pair_eqv (a b c e : Int) : PyData.eqv (.tuple [.int a, .int b]) (.tuple [.int c, .int e]) = decide ((a, b) = (c, e)) := by
  rw [Bool.eq_iff_iff, decide_eq_true_iff]
  simp [PyData.eqv, PyData.eqvAll]
theorem dpair {H : Hp} {p : Addr} {x y : Int} (h : H p = some (.tup [.int x, .int y])) : Dp K H (.ref p) (.tuple [.int x, .int y]) := .tup (SqT.of h) (.cons (.int x) (.cons (.int y) .nil))
end
section
variable {base : Heap} {K : PySem.W.Frag} {mg : Str → Option Value} {w : World}
theorem step_row {H : Hp} {as : List Addr} {ss : List (List Itm)} (h : Paired (StepAt H) as ss) {i : Nat} {v : V} (hv : (as.map V.ref)[i]? = some v) : ∃ a t, v = .ref a ∧ ss[i]? = some t ∧ StepAt H a t := by
  rw [List.getElem?_map] at hv
  cases ha : as[i]? with
  | none =>
    rw [ha] at hv
    cases hv
  | some a =>
    rw [ha] at hv
    obtain ⟨t, ht, z⟩ := Paired.getL h ha
    exact ⟨a, t, (Option.some.inj hv).symm, ht, z⟩
end
/-! ### lists of steps -/
section
variable {base : Heap} {K : PySem.W.Frag} {mg : Str → Option Value} {P : Program} {w : World}
def StepsL (H : Hp) (l : Addr) (ss : List (List Itm)) : Prop := ∃ as : List Addr, H l = some (.lst (as.map V.ref)) ∧ Paired (StepAt H) as ss
theorem paired_snoc {H H' : Hp} {as : List Addr} {ss : List (List Itm)} {t : Addr} {x : List Itm} (k : ∀ p xs, H p = some (.tup xs) → H' p = some (.tup xs)) (h : Paired (StepAt H) as ss) (ht : StepAt H' t x) : Paired (StepAt H') (as ++ [t]) (ss ++ [x]) := by
  induction h with
  | nil => exact .cons ht .nil
  | cons r _ ih => exact .cons (r.mono k) ih
theorem steps_mono {H H' : Hp} {as : List Addr} {ss : List (List Itm)} (k : ∀ p xs, H p = some (.tup xs) → H' p = some (.tup xs)) (h : Paired (StepAt H) as ss) : Paired (StepAt H') as ss := by
  induction h with
  | nil => exact .nil
  | cons r _ ih => exact .cons (r.mono k) ih
theorem steps_app {H : Hp} : ∀ {as as' : List Addr} {ss ss' : List (List Itm)}, Paired (StepAt H) as ss → Paired (StepAt H) as' ss' → Paired (StepAt H) (as ++ as') (ss ++ ss')
  | _, _, _, _, .nil, h => h
  | _, _, _, _, .cons r t, h => .cons r (steps_app t h)
theorem StepsL.mono {H H' : Hp} {l : Addr} {ss : List (List Itm)} (h : StepsL H l ss) (k : ∀ xs, H l = some (.lst xs) → H' l = some (.lst xs)) (t : ∀ p xs, H p = some (.tup xs) → H' p = some (.tup xs)) : StepsL H' l ss := by
  obtain ⟨as, h1, h2⟩ := h
  exact ⟨as, k _ h1, steps_mono t h2⟩
theorem StepsL.same {H H' : Hp} {l : Addr} {ss : List (List Itm)} (h : StepsL H l ss) (s : Same H H') : StepsL H' l ss := h.mono (fun _ z => s _ _ z) fun _ _ z => s _ _ z
theorem StepsL.keep {H H' : Hp} {b sb l : Addr} {ss : List (List Itm)} (h : StepsL H l ss) (B : Bag H b sb) (n : l ≠ b) (k : Keep b H H') : StepsL H' l ss := h.mono (fun _ z => k _ _ n z) (tup_keep B k)
theorem StepsL.put {H : Hp} {l : Addr} {ss : List (List Itm)} {t : Addr} {x : List Itm} {as : List Addr} (h1 : H l = some (.lst (as.map V.ref))) (h2 : Paired (StepAt H) as ss) (ht : StepAt H t x) : StepsL (upd H l (.lst (as.map V.ref ++ [.ref t]))) l (ss ++ [x]) :=
  ⟨as ++ [t], by rw [upd_same, List.map_append]; rfl, paired_snoc (tup_put h1) h2 (ht.mono (tup_put h1))⟩
end
/-! ### the tallies' classes -/
/-! ### what is a step, by the law -/
section
variable {base : Heap} {K : PySem.W.Frag} {mg : Str → Option Value} {P : Program} {w : World}
def spLSide : Sp := fun vs H Q _ => ∃ (p : Addr) (x : Sh) (s : Str), vs = [.ref p, .str s] ∧ ShAt H p x ∧ SideW s ∧ ∀ r H', Same H H' → H' r = some (.tup [.int (sideOf x s).1, .int (sideOf x s).2]) → Q (.ref r) H'
theorem ok_lside_of (T : Txt K mg) : FnOk P w K mg base CX0 1 T.f_lside_of T.d_lside_of ["_law_sheet", "_law_side"] spLSide := by
  refine T.F_lside_of.ok sc_lside_of (fun vs H Q E h => ?_) (fun cdv A outer s H vs Q E hr h => ?_)
  · obtain ⟨p, x, s, rfl, _⟩ := h
    rfl
  · obtain ⟨p, x, sd, rfl, ⟨u, v, h1, h2, h3⟩, hs, q⟩ := h
    refine ⟨_, (pss_one (ps_ret (pe_ix ix_tup (pv 0) (pe_bm PySem.F.plainAttrs_list PySem.F.slot_list_index PySem.F.type_list_index mt_index (pe_lst (pa_cons pe_str (pa_cons pe_str pa_nil))) (pa_cons (pv 1) pa_nil)) (fun _ _ => rfl)))), ?_⟩
    refine ⟨_, rfl, by show 2 ≤ sizeLine; decide, fun l nl => ?_⟩
    have e := same_new (o := .lst [.str "across", .str "along"]) nl
    refine ⟨.inl ⟨rfl, _, SqL.of upd_same⟩, _, rfl, ?_⟩
    unfold sideOf at q
    rcases hs with rfl | rfl
    · refine ⟨l, _, .str "across", 0, .str "across", rfl, rfl, SqL.of upd_same, rfl, rfl, rfl, by decide +kernel, fun m z' hm => absurd hm (Nat.not_lt_zero _), ?_⟩
      exact ⟨p, _, 0, .ref u, rfl, rfl, SqT.of (e _ _ h1), atI_nat (j := 0) rfl, q u _ e (e _ _ h2)⟩
    · refine ⟨l, _, .str "along", 1, .str "along", rfl, rfl, SqL.of upd_same, rfl, rfl, rfl, by decide +kernel, fun m z' hm hz => ?_, ?_⟩
      · obtain rfl : m = 0 := by omega
        cases hz
        decide +kernel
      exact ⟨p, _, 1, .ref v, rfl, rfl, SqT.of (e _ _ h1), atI_nat (j := 1) rfl, q v _ e (e _ _ h3)⟩
theorem ok_lis_pair (T : Txt K mg) : FnOk P w K mg base CX0 1 T.f_lis_pair T.d_lis_pair ["_law_x"] (spItm pairB) := by
  refine T.F_lis_pair.ok sc_lis_pair (fun vs H Q E h => ?_) (fun cdv A outer s H vs Q E hr h => ?_)
  · obtain ⟨v, t, rfl, _⟩ := h
    rfl
  · obtain ⟨v, t, rfl, h, q⟩ := h
    refine ⟨_, (pss_one (ps_ret (pe_and (pe_callB call_isi (by rfl) T.n_isinstance (by decide +kernel) (pa_cons (pv 0) (pa_cons (pe_bltn (v := .ty "tuple") (by rfl) T.n_tuple (by decide +kernel) rfl) pa_nil))) (pe_and (pe_cmpR op_eq (pe_callB call_len_seq (by rfl) T.n_len (by decide +kernel) (pa_cons (pv 0) pa_nil)) pe_int (nomark _)) (pe_and (pe_callB call_isi (by rfl) T.n_isinstance (by decide +kernel) (pa_cons (pe_ix ix_tup (pv 0) pe_int (fun _ _ => rfl)) (pa_cons (pe_bltn (v := .ty "int") (by rfl) T.n_int (by decide +kernel) rfl) pa_nil))) (pe_one (pe_callB call_isi (by rfl) T.n_isinstance (by decide +kernel) (pa_cons (pe_ix ix_tup (pv 0) pe_int (fun _ _ => rfl)) (pa_cons (pe_bltn (v := .ty "int") (by rfl) T.n_int (by decide +kernel) rfl) pa_nil))))))))), ?_⟩
    cases t with
    | str s =>
      obtain ⟨rfl, _⟩ := h
      exact ⟨_, rfl, .str s, .ty "tuple", _, _, false, rfl, ClsV.ty _, TyX.base (TyOf.str _), kit_ty (by decide +kernel), false, rfl, iteF q⟩
    | int n =>
      cases (show v = .int n from h)
      exact ⟨_, rfl, .int n, .ty "tuple", _, _, false, rfl, ClsV.ty _, TyX.base (TyOf.int _), kit_ty (by decide +kernel), false, rfl, iteF q⟩
    | pair a b =>
      obtain ⟨p, rfl, h⟩ := h
      refine ⟨_, rfl, .ref p, .ty "tuple", _, _, true, rfl, ClsV.ty _, TyX.base (TyOf.tup h), kit_ty (by decide +kernel), true, rfl, iteT ?_⟩
      refine ⟨_, rfl, p, _, rfl, .inr (SqT.of h), rfl, true, rfl, iteT ?_⟩
      refine ⟨_, rfl, p, _, 0, .int a, rfl, rfl, SqT.of h, atI_nat (j := 0) rfl, .int a, .ty "int", _, _, true, rfl, ClsV.ty _, TyX.base (TyOf.int _), kit_ty (by decide +kernel), true, rfl, iteT ?_⟩
      exact ⟨_, rfl, p, _, 1, .int b, rfl, rfl, SqT.of h, atI_nat (j := 1) rfl, .int b, .ty "int", _, _, true, rfl, ClsV.ty _, TyX.base (TyOf.int _), kit_ty (by decide +kernel), q⟩
    | sheet x =>
      obtain ⟨p, rfl, u, v, h, h2, h3⟩ := h
      refine ⟨_, rfl, .ref p, .ty "tuple", _, _, true, rfl, ClsV.ty _, TyX.base (TyOf.tup h), kit_ty (by decide +kernel), true, rfl, iteT ?_⟩
      refine ⟨_, rfl, p, _, rfl, .inr (SqT.of h), rfl, true, rfl, iteT ?_⟩
      exact ⟨_, rfl, p, _, 0, .ref u, rfl, rfl, SqT.of h, atI_nat (j := 0) rfl, .ref u, .ty "int", _, _, false, rfl, ClsV.ty _, TyX.base (TyOf.tup h2), kit_ty (by decide +kernel), false, rfl, iteF q⟩
theorem ok_is_pairs (T : Txt K mg) : FnOk P w K mg base CX0 2 T.f_is_pairs T.d_is_pairs ["_law_x"] (spItm sheetB) := by
  refine T.F_is_pairs.ok sc_is_pairs (fun vs H Q E h => ?_) (fun cdv A outer s H vs Q E hr h => ?_)
  · obtain ⟨v, t, rfl, _⟩ := h
    rfl
  · obtain ⟨v, t, rfl, h, q⟩ := h
    refine ⟨_, (pss_one (ps_ret (pe_and (pe_callB call_isi (by rfl) T.n_isinstance (by decide +kernel) (pa_cons (pv 0) (pa_cons (pe_bltn (v := .ty "tuple") (by rfl) T.n_tuple (by decide +kernel) rfl) pa_nil))) (pe_and (pe_cmpR op_eq (pe_callB call_len_seq (by rfl) T.n_len (by decide +kernel) (pa_cons (pv 0) pa_nil)) pe_int (nomark _)) (pe_and (pe_call (ok_lis_pair T) (hr.mono (by decide)) (by rfl) T.g_lis_pair T.F_lis_pair.kp T.b_lis_pair .nil pass0 (pa_cons (pe_ix ix_tup (pv 0) pe_int (fun _ _ => rfl)) pa_nil)) (pe_one (pe_call (ok_lis_pair T) (hr.mono (by decide)) (by rfl) T.g_lis_pair T.F_lis_pair.kp T.b_lis_pair .nil pass0 (pa_cons (pe_ix ix_tup (pv 0) pe_int (fun _ _ => rfl)) pa_nil)))))))), ?_⟩
    cases t with
    | str s =>
      obtain ⟨rfl, _⟩ := h
      exact ⟨_, rfl, .str s, .ty "tuple", _, _, false, rfl, ClsV.ty _, TyX.base (TyOf.str _), kit_ty (by decide +kernel), false, rfl, iteF q⟩
    | int n =>
      cases (show v = .int n from h)
      exact ⟨_, rfl, .int n, .ty "tuple", _, _, false, rfl, ClsV.ty _, TyX.base (TyOf.int _), kit_ty (by decide +kernel), false, rfl, iteF q⟩
    | pair a b =>
      obtain ⟨p, rfl, h⟩ := h
      refine ⟨_, rfl, .ref p, .ty "tuple", _, _, true, rfl, ClsV.ty _, TyX.base (TyOf.tup h), kit_ty (by decide +kernel), true, rfl, iteT ?_⟩
      refine ⟨_, rfl, p, _, rfl, .inr (SqT.of h), rfl, true, rfl, iteT ?_⟩
      exact ⟨_, rfl, p, _, 0, .int a, rfl, rfl, SqT.of h, atI_nat (j := 0) rfl, .int a, .int a, rfl, rfl, false, rfl, iteF q⟩
    | sheet x =>
      obtain ⟨p, rfl, u, v, h, h2, h3⟩ := h
      refine ⟨_, rfl, .ref p, .ty "tuple", _, _, true, rfl, ClsV.ty _, TyX.base (TyOf.tup h), kit_ty (by decide +kernel), true, rfl, iteT ?_⟩
      refine ⟨_, rfl, p, _, rfl, .inr (SqT.of h), rfl, true, rfl, iteT ?_⟩
      refine ⟨_, rfl, p, _, 0, .ref u, rfl, rfl, SqT.of h, atI_nat (j := 0) rfl, .ref u, .pair x.1 x.2.1, rfl, ⟨u, rfl, h2⟩, true, rfl, iteT ?_⟩
      exact ⟨_, rfl, p, _, 1, .ref v, rfl, rfl, SqT.of h, atI_nat (j := 1) rfl, .ref v, .pair x.2.2.1 x.2.2.2, rfl, ⟨v, rfl, h3⟩, q⟩
def spLeast : Sp := fun vs H Q _ => ∃ (v : V) (t : Itm) (n : Int), vs = [v, .int n] ∧ ItAt H v t ∧ Q (.bl (leastB n t)) H
theorem ok_at_least (T : Txt K mg) : FnOk P w K mg base CX0 1 T.f_at_least T.d_at_least ["_law_x", "_law_least"] spLeast := by
  refine T.F_at_least.ok sc_at_least (fun vs H Q E h => ?_) (fun cdv A outer s H vs Q E hr h => ?_)
  · obtain ⟨v, t, n, rfl, _⟩ := h
    rfl
  · obtain ⟨v, t, n, rfl, h, q⟩ := h
    refine ⟨_, (pss_one (ps_ret (pe_and (pe_callB call_isi (by rfl) T.n_isinstance (by decide +kernel) (pa_cons (pv 0) (pa_cons (pe_bltn (v := .ty "int") (by rfl) T.n_int (by decide +kernel) rfl) pa_nil))) (pe_one (pe_cmpR op_ge (pv 0) (pv 1) (nomark _)))))), ?_⟩
    cases t with
    | str s =>
      obtain ⟨rfl, _⟩ := h
      exact ⟨_, rfl, .str s, .ty "int", _, _, false, rfl, ClsV.ty _, TyX.base (TyOf.str _), kit_ty (by decide +kernel), false, rfl, iteF q⟩
    | int m =>
      cases (show v = .int m from h)
      exact ⟨_, rfl, .int m, .ty "int", _, _, true, rfl, ClsV.ty _, TyX.base (TyOf.int _), kit_ty (by decide +kernel), true, rfl, iteT ⟨_, rfl, _, rfl, m, n, rfl, rfl, q⟩⟩
    | pair a b =>
      obtain ⟨p, rfl, h⟩ := h
      exact ⟨_, rfl, .ref p, .ty "int", _, _, false, rfl, ClsV.ty _, TyX.base (TyOf.tup h), kit_ty (by decide +kernel), false, rfl, iteF q⟩
    | sheet x =>
      obtain ⟨p, rfl, u, v, h, _⟩ := h
      exact ⟨_, rfl, .ref p, .ty "int", _, _, false, rfl, ClsV.ty _, TyX.base (TyOf.tup h), kit_ty (by decide +kernel), false, rfl, iteF q⟩
def spWith : Sp := fun vs H Q _ => ∃ (p r : Addr) (x : Sh) (s : Str) (a b : Int), vs = [.ref p, .str s, .ref r] ∧ ShAt H p x ∧ SideW s ∧ H r = some (.tup [.int a, .int b]) ∧ ∀ q H' y, H q = none → Same H H' → ShAt H' q y → (y = if s = "across" then (a, b, x.2.2.1, x.2.2.2) else (x.1, x.2.1, a, b)) → Q (.ref q) H'
theorem ok_with (T : Txt K mg) : FnOk P w K mg base CX0 1 T.f_with T.d_with ["_law_sheet", "_law_side", "_law_pair"] spWith := by
  refine T.F_with.ok sc_with (fun vs H Q E h => ?_) (fun cdv A outer s H vs Q E hr h => ?_)
  · obtain ⟨p, r, x, s, a, b, rfl, _⟩ := h
    rfl
  · obtain ⟨p, r, x, sd, a, b, rfl, ⟨u, v, h1, h2, h3⟩, hs, hr', q⟩ := h
    refine ⟨_, (pss_one (ps_ret (pe_ifExp (pt_cmpR op_eq (pv 1) pe_str (nomark _)) (pe_tup (pa_cons (pv 2) (pa_cons (pe_ix ix_tup (pv 0) pe_int (fun _ _ => rfl)) pa_nil))) (pe_tup (pa_cons (pe_ix ix_tup (pv 0) pe_int (fun _ _ => rfl)) (pa_cons (pv 2) pa_nil)))))), ?_⟩
    refine ⟨_, rfl, rfl, ?_⟩
    by_cases z : sd = "across"
    · refine ⟨true, by rw [z, decide_eq_true rfl], iteT ⟨_, rfl, _, rfl, p, _, 1, .ref v, rfl, rfl, SqT.of h1, atI_nat (j := 1) rfl, by show 2 ≤ sizeLine; decide, fun t nt => ?_⟩⟩
      have e := same_new (o := .tup [.ref r, .ref v]) nt
      exact q t _ (a, b, x.2.2.1, x.2.2.2) nt e ⟨r, v, upd_same, e _ _ hr', e _ _ h3⟩ (by rw [if_pos z])
    · refine ⟨false, by rw [decide_eq_false fun e => z (V.str.inj e)], iteF ⟨_, rfl, p, _, 0, .ref u, rfl, rfl, SqT.of h1, atI_nat (j := 0) rfl, _, rfl, by show 2 ≤ sizeLine; decide, fun t nt => ?_⟩⟩
      have e := same_new (o := .tup [.ref u, .ref r]) nt
      exact q t _ (x.1, x.2.1, a, b) nt e ⟨u, r, upd_same, e _ _ h2, e _ _ hr'⟩ (by rw [if_neg z])
theorem more_else {s : Str} {ts : List Itm} (h1 : s ≠ "split") (h2 : s ≠ "glue") : moreB (.str s :: ts) = true := by
  unfold moreB
  split
  · rename_i h
    cases h
    exact if_neg h1
  · rename_i h
    cases h
    exact if_neg h2
  · rfl
theorem step_turn (t1 t2 : Itm) : stepB [.str "turn", t1, t2] = (sheetB t1 && leastB 1 t2) := by
  have m : moreB [.str "turn", t1, t2] = true := more_else (by decide +kernel) (by decide +kernel)
  have e : shapeB [.str "turn", t1, t2] = (sheetB t1 && (leastB 1 t2 && true)) := rfl
  unfold stepB
  rw [m, e]
  cases sheetB t1 <;> cases leastB 1 t2 <;> rfl
theorem step_saw (t1 t2 t3 t4 : Itm) : stepB [.str "saw", t1, t2, t3, t4] = ((sheetB t1 && leastB 1 t4) && (sideB t2 && pairB t3)) := by
  have m : moreB [.str "saw", t1, t2, t3, t4] = true := more_else (by decide +kernel) (by decide +kernel)
  have e : shapeB [.str "saw", t1, t2, t3, t4] = (sheetB t1 && (sideB t2 && (pairB t3 && (leastB 1 t4 && true)))) := rfl
  unfold stepB
  rw [m, e]
  cases sheetB t1 <;> cases sideB t2 <;> cases pairB t3 <;> cases leastB 1 t4 <;> rfl
theorem step_stack (t1 t2 t3 t4 : Itm) : stepB [.str "stack", t1, t2, t3, t4] = ((sheetB t1 && leastB 1 t4) && (sideB t2 && leastB 2 t3)) := by
  have m : moreB [.str "stack", t1, t2, t3, t4] = true := more_else (by decide +kernel) (by decide +kernel)
  have e : shapeB [.str "stack", t1, t2, t3, t4] = (sheetB t1 && (sideB t2 && (leastB 2 t3 && (leastB 1 t4 && true)))) := rfl
  unfold stepB
  rw [m, e]
  cases sheetB t1 <;> cases sideB t2 <;> cases leastB 2 t3 <;> cases leastB 1 t4 <;> rfl
theorem step_split (t1 t2 t3 t4 : Itm) : stepB [.str "split", t1, t2, t3, t4] = ((sheetB t1 && leastB 1 t4) && ((sideB t2 && leastB 2 t3) && moreB [.str "split", t1, t2, t3, t4])) := by
  have e : shapeB [.str "split", t1, t2, t3, t4] = (sheetB t1 && (sideB t2 && (leastB 2 t3 && (leastB 1 t4 && true)))) := rfl
  unfold stepB
  rw [e]
  cases sheetB t1 <;> cases sideB t2 <;> cases leastB 2 t3 <;> cases leastB 1 t4 <;> rfl
theorem step_glue (t1 t2 t3 t4 : Itm) : stepB [.str "glue", t1, t2, t3, t4] = ((sheetB t1 && leastB 1 t4) && (sideB t3 && (sheetB t2 && moreB [.str "glue", t1, t2, t3, t4]))) := by
  have e : shapeB [.str "glue", t1, t2, t3, t4] = (sheetB t1 && (sheetB t2 && (sideB t3 && (leastB 1 t4 && true)))) := rfl
  unfold stepB
  rw [e]
  cases sheetB t1 <;> cases sideB t3 <;> cases sheetB t2 <;> cases leastB 1 t4 <;> rfl
theorem step_len {s : Str} {ts : List Itm} (h : ts.length ≠ if s = "turn" then 2 else 4) : stepB (.str s :: ts) = false := by
  cases e : shapeOf s with
  | none => simp only [stepB, shapeB, e, Bool.false_and]
  | some ks =>
    have : ks.length = if s = "turn" then 2 else 4 := by
      unfold shapeOf at e
      by_cases s1 : s = "saw"
      · subst s1; cases e; rfl
      rw [if_neg s1] at e
      by_cases s2 : s = "split"
      · subst s2; cases e; rfl
      rw [if_neg s2] at e
      by_cases s3 : s = "glue"
      · subst s3; cases e; rfl
      rw [if_neg s3] at e
      by_cases s4 : s = "stack"
      · subst s4; cases e; rfl
      rw [if_neg s4] at e
      by_cases s5 : s = "turn"
      · subst s5; cases e; rfl
      rw [if_neg s5] at e
      cases e
    simp only [stepB, shapeB, e, this, decide_eq_false h, Bool.false_and]
theorem paired2 {α β : Type} {R : α → β → Prop} {as : List α} {bs : List β} (h : Paired R as bs) (l : bs.length = 2) : ∃ a1 a2 b1 b2, as = [a1, a2] ∧ bs = [b1, b2] ∧ R a1 b1 ∧ R a2 b2 := by
  match bs, l with
  | [b1, b2], _ =>
    cases h with
    | cons h1 h => cases h with
      | cons h2 h =>
        cases h
        exact ⟨_, _, _, _, rfl, rfl, h1, h2⟩
theorem paired4 {α β : Type} {R : α → β → Prop} {as : List α} {bs : List β} (h : Paired R as bs) (l : bs.length = 4) : ∃ a1 a2 a3 a4 b1 b2 b3 b4, as = [a1, a2, a3, a4] ∧ bs = [b1, b2, b3, b4] ∧ R a1 b1 ∧ R a2 b2 ∧ R a3 b3 ∧ R a4 b4 := by
  match bs, l with
  | [b1, b2, b3, b4], _ =>
    cases h with
    | cons h1 h => cases h with
      | cons h2 h => cases h with
        | cons h3 h => cases h with
          | cons h4 h =>
            cases h
            exact ⟨_, _, _, _, _, _, _, _, rfl, rfl, h1, h2, h3, h4⟩
theorem inV_side (s : Str) : inV (.str s) [.str "across", .str "along"] = sideB (.str s) := by
  have e : ∀ c : Str, eqV (.str c) (.str s) = decide (s = c) := fun c => by
    by_cases z : s = c
    · subst z
      rw [decide_eq_true rfl]
      simp [eqV]
    · rw [decide_eq_false z]
      simpa [eqV] using fun q => z q.symm
  show (eqV (.str "across") (.str s) || (eqV (.str "along") (.str s) || false)) = decide (s = "across" ∨ s = "along")
  rw [e, e, Bool.or_false, Bool.decide_or]
abbrev sizesK : List (Key × V) := [(Sum.inr "saw", .int 5), (Sum.inr "split", .int 5), (Sum.inr "glue", .int 5), (Sum.inr "stack", .int 5), (Sum.inr "turn", .int 3)]
theorem size_at {s : Str} (h : s ∈ words) : (shapeOf s = none ∧ valV (mergeK [] sizesK) (Sum.inr s) = none) ∨ (s = "turn" ∧ valV (mergeK [] sizesK) (Sum.inr s) = some (.int 3)) ∨ ((s = "saw" ∨ s = "split" ∨ s = "glue" ∨ s = "stack") ∧ valV (mergeK [] sizesK) (Sum.inr s) = some (.int 5)) := by
  simp only [words, List.mem_cons, List.not_mem_nil, or_false] at h
  rcases h with rfl | rfl | rfl | rfl | rfl | rfl | rfl | rfl | rfl | rfl
  · exact .inr (.inr ⟨.inl rfl, by rfl⟩)
  · exact .inr (.inr ⟨.inr (.inl rfl), by rfl⟩)
  · exact .inr (.inr ⟨.inr (.inr (.inl rfl)), by rfl⟩)
  · exact .inr (.inr ⟨.inr (.inr (.inr rfl)), by rfl⟩)
  · exact .inr (.inl ⟨rfl, by rfl⟩)
  · exact .inl ⟨rfl, by rfl⟩
  · exact .inl ⟨rfl, by rfl⟩
  · exact .inl ⟨rfl, by rfl⟩
  · exact .inl ⟨rfl, by rfl⟩
  · exact .inl ⟨rfl, by rfl⟩
theorem ok_good_step (T : Txt K mg) : FnOk P w K mg base CX0 3 T.f_good_step T.d_good_step ["_law_step"] (spStep stepB) := by
  refine T.F_good_step.ok sc_good_step (fun vs H Q E h => ?_) (fun cdv A outer s H vs Q E hr h => ?_)
  · obtain ⟨p, ts, rfl, _⟩ := h
    rfl
  · obtain ⟨p, ts, rfl, ⟨vs, hp, hts⟩, ln, q⟩ := h
    refine ⟨_, (pss_cons (ps_set (i := 1) sc_good_step.nd rfl (Or.inl rfl) (pe_disp (pps_cons pe_str pe_int (pps_cons pe_str pe_int (pps_cons pe_str pe_int (pps_cons pe_str pe_int (pps_cons pe_str pe_int pps_nil))))) (by rfl) (by rfl) (fun z => by cases z) (by decide)))
      (pss_cons (ps_set (i := 2) sc_good_step.nd rfl (Or.inl rfl) (pe_ifExp (PW.pt (pw_and (pt_cmpR op_gt (pe_callB call_len_seq (by rfl) T.n_len (by decide +kernel) (pa_cons (pv 0) pa_nil)) pe_int (nomark _)) (pw_and1 (pt_val (pe_callB call_isi (by rfl) T.n_isinstance (by decide +kernel) (pa_cons (pe_ix ix_tup (pv 0) pe_int (fun _ _ => rfl)) (pa_cons (pe_bltn (v := .ty "str") (by rfl) T.n_str (by decide +kernel) rfl) pa_nil))))))) (pe_ix ix_tup (pv 0) pe_int (fun _ _ => rfl)) pe_str))
      (pss_cons (ps_if (PW.pt (pw_or (pt_not (pt_val (pe_callB call_isi (by rfl) T.n_isinstance (by decide +kernel) (pa_cons (pv 0) (pa_cons (pe_bltn (v := .ty "tuple") (by rfl) T.n_tuple (by decide +kernel) rfl) pa_nil))))) (pw_or (pt_cmp (pc_dnotin (hu_of hr) (pv 2) (pv 1))) (pw_or1 (pt_cmpR op_ne (pe_callB call_len_seq (by rfl) T.n_len (by decide +kernel) (pa_cons (pv 0) pa_nil)) (pe_dget (hu_of hr) (pv 1) (pv 2) (fun _ _ => rfl)) (nomark _)))))) (pss_one (ps_ret pe_bl)) pss_nil)
      (pss_cons (ps_if (PW.pt (pw_or (pt_not (pt_val (pe_call (ok_is_pairs T) (hr.mono (by decide)) (by rfl) T.g_is_pairs T.F_is_pairs.kp T.b_is_pairs .nil pass0 (pa_cons (pe_ix ix_tup (pv 0) pe_int (fun _ _ => rfl)) pa_nil)))) (pw_or1 (pt_not (pt_val (pe_call (ok_at_least T) (hr.mono (by decide)) (by rfl) T.g_at_least T.F_at_least.kp T.b_at_least .nil pass0 (pa_cons (pe_ix ix_tup (pv 0) (pe_un un_neg pe_int) (fun _ _ => rfl)) (pa_cons pe_int pa_nil)))))))) (pss_one (ps_ret pe_bl)) pss_nil)
      (pss_cons (ps_if (pt_cmpR op_eq (pv 2) pe_str (nomark _)) (pss_one (ps_ret pe_bl)) pss_nil)
      (pss_cons (ps_set (i := 3) sc_good_step.nd rfl (Or.inl rfl) (pe_ifExp (pt_cmpR op_eq (pv 2) pe_str (nomark _)) (pe_ix ix_tup (pv 0) pe_int (fun _ _ => rfl)) (pe_ix ix_tup (pv 0) pe_int (fun _ _ => rfl))))
      (pss_cons (ps_if (PW.pt (pw_or (pt_not (pt_val (pe_callB call_isi (by rfl) T.n_isinstance (by decide +kernel) (pa_cons (pv 3) (pa_cons (pe_bltn (v := .ty "str") (by rfl) T.n_str (by decide +kernel) rfl) pa_nil))))) (pw_or1 (pt_cmpR op_notIn_seq (pv 3) (pe_tup (pa_cons pe_str (pa_cons pe_str pa_nil))) (by rfl))))) (pss_one (ps_ret pe_bl)) pss_nil)
      (pss_cons (ps_if (pt_cmpR op_eq (pv 2) pe_str (nomark _)) (pss_cons (ps_set (i := 5) sc_good_step.nd rfl (Or.inl rfl) (pe_ifExp (pt_cmpR op_eq (pv 3) pe_str (nomark _)) pe_str pe_str))
      (pss_one (ps_ret (pe_and (pe_call (ok_is_pairs T) (hr.mono (by decide)) (by rfl) T.g_is_pairs T.F_is_pairs.kp T.b_is_pairs .nil pass0 (pa_cons (pe_ix ix_tup (pv 0) pe_int (fun _ _ => rfl)) pa_nil)) (pe_one (pe_cmpR (op_eqD hr.units) (pe_call (ok_lside_of T) (hr.mono (by decide)) (by rfl) T.g_lside_of T.F_lside_of.kp T.b_lside_of .nil pass0 (pa_cons (pe_ix ix_tup (pv 0) pe_int (fun _ _ => rfl)) (pa_cons (pv 5) pa_nil))) (pe_call (ok_lside_of T) (hr.mono (by decide)) (by rfl) T.g_lside_of T.F_lside_of.kp T.b_lside_of .nil pass0 (pa_cons (pe_ix ix_tup (pv 0) pe_int (fun _ _ => rfl)) (pa_cons (pv 5) pa_nil))) (nomark _))))))) pss_nil)
      (pss_cons (ps_if (pt_cmpR op_eq (pv 2) pe_str (nomark _)) (pss_one (ps_ret (pe_call (ok_lis_pair T) (hr.mono (by decide)) (by rfl) T.g_lis_pair T.F_lis_pair.kp T.b_lis_pair .nil pass0 (pa_cons (pe_ix ix_tup (pv 0) pe_int (fun _ _ => rfl)) pa_nil)))) pss_nil)
      (pss_cons (ps_if (pt_not (pt_val (pe_call (ok_at_least T) (hr.mono (by decide)) (by rfl) T.g_at_least T.F_at_least.kp T.b_at_least .nil pass0 (pa_cons (pe_ix ix_tup (pv 0) pe_int (fun _ _ => rfl)) (pa_cons pe_int pa_nil))))) (pss_one (ps_ret pe_bl)) pss_nil)
      (pss_cons (ps_set (i := 4) sc_good_step.nd rfl (Or.inl rfl) (pe_call (ok_lside_of T) (hr.mono (by decide)) (by rfl) T.g_lside_of T.F_lside_of.kp T.b_lside_of .nil pass0 (pa_cons (pe_ix ix_tup (pv 0) pe_int (fun _ _ => rfl)) (pa_cons (pv 3) pa_nil))))
      (pss_one (ps_ret (pe_or (pe_cmpR op_eq (pv 2) pe_str (nomark _)) (pe_one (pe_and (pe_cmpR op_eq (pe_op op_mod (pe_ix ix_tup (pv 4) pe_int (fun _ _ => rfl)) (pe_ix ix_tup (pv 0) pe_int (fun _ _ => rfl))) pe_int (nomark _)) (pe_one (pe_cmpR op_eq (pe_op op_mod (pe_ix ix_tup (pv 4) pe_int (fun _ _ => rfl)) (pe_ix ix_tup (pv 0) pe_int (fun _ _ => rfl))) pe_int (nomark _))))))))))))))))))), ?_⟩
    intro d nd
    refine ⟨upd_same, sizesK, rfl, by decide, ?_⟩
    have e : Same H (upd (upd H d (.dK [])) d (.dK (mergeK [] sizesK))) := fun a o z => by
      rw [upd_ne (ne_of_none z nd), upd_ne (ne_of_none z nd)]
      exact z
    have hd : upd (upd H d (.dK [])) d (.dK (mergeK [] sizesK)) d = some (.dK (mergeK [] sizesK)) := upd_same
    generalize upd (upd H d (.dK [])) d (.dK (mergeK [] sizesK)) = H2 at e hd ⊢
    have hp2 := e _ _ hp
    have tt : TyX K H2 (.ref p) (.type "tuple") := TyX.base (TyOf.tup hp2)
    have no : DGet H2 d (.str "") none := by
      have := DGet.k (k := Sum.inr "") hd
      rwa [show valV (mergeK [] sizesK) (Sum.inr "") = none by decide +kernel] at this
    cases hts with
    | nil =>
      refine ⟨_, rfl, p, _, rfl, .inr (SqT.of hp2), _, _, rfl, rfl, false, rfl, iteF ?_⟩
      exact ⟨_, rfl, .ref p, .ty "tuple", _, _, true, rfl, ClsV.ty _, tt, kit_ty (by decide +kernel), true, rfl, iteF ⟨_, rfl, _, rfl, d, none, rfl, no, true, rfl, iteT (q _ e)⟩⟩
    | @cons v t vs ts hv hts =>
      have hlen := Paired.length hts
      refine ⟨_, rfl, p, _, rfl, .inr (SqT.of hp2), _, _, rfl, rfl, true, congrArg V.bl (decide_eq_true (by rw [List.length_cons]; omega)), iteT ?_⟩
      have odd : (∀ s, t ≠ .str s) → stepB (t :: ts) = false := fun z => by
        cases t with
        | str s => exact absurd rfl (z s)
        | _ => rfl
      cases t with
      | int n =>
        cases (show v = .int n from hv)
        refine ⟨_, rfl, p, _, 0, .int n, rfl, rfl, SqT.of hp2, atI_nat (j := 0) rfl, .int n, .ty "str", _, _, false, rfl, ClsV.ty _, TyX.base (TyOf.int _), kit_ty (by decide +kernel), false, rfl, iteF ?_⟩
        exact ⟨_, rfl, .ref p, .ty "tuple", _, _, true, rfl, ClsV.ty _, tt, kit_ty (by decide +kernel), true, rfl, iteF ⟨_, rfl, _, rfl, d, none, rfl, no, true, rfl, iteT (q _ e)⟩⟩
      | pair a b =>
        obtain ⟨r, rfl, h⟩ := hv
        refine ⟨_, rfl, p, _, 0, .ref r, rfl, rfl, SqT.of hp2, atI_nat (j := 0) rfl, .ref r, .ty "str", _, _, false, rfl, ClsV.ty _, TyX.base (TyOf.tup (e _ _ h)), kit_ty (by decide +kernel), false, rfl, iteF ?_⟩
        exact ⟨_, rfl, .ref p, .ty "tuple", _, _, true, rfl, ClsV.ty _, tt, kit_ty (by decide +kernel), true, rfl, iteF ⟨_, rfl, _, rfl, d, none, rfl, no, true, rfl, iteT (q _ e)⟩⟩
      | sheet x =>
        obtain ⟨r, rfl, u, u', h, _⟩ := hv
        refine ⟨_, rfl, p, _, 0, .ref r, rfl, rfl, SqT.of hp2, atI_nat (j := 0) rfl, .ref r, .ty "str", _, _, false, rfl, ClsV.ty _, TyX.base (TyOf.tup (e _ _ h)), kit_ty (by decide +kernel), false, rfl, iteF ?_⟩
        exact ⟨_, rfl, .ref p, .ty "tuple", _, _, true, rfl, ClsV.ty _, tt, kit_ty (by decide +kernel), true, rfl, iteF ⟨_, rfl, _, rfl, d, none, rfl, no, true, rfl, iteT (q _ e)⟩⟩
      | str s =>
        obtain ⟨rfl, hw⟩ := hv
        refine ⟨_, rfl, p, _, 0, .str s, rfl, rfl, SqT.of hp2, atI_nat (j := 0) rfl, .str s, .ty "str", _, _, true, rfl, ClsV.ty _, TyX.base (TyOf.str _), kit_ty (by decide +kernel), true, rfl, iteT ?_⟩
        refine ⟨_, rfl, p, _, 0, .str s, rfl, rfl, SqT.of hp2, atI_nat (j := 0) rfl, ?_⟩
        refine ⟨_, rfl, .ref p, .ty "tuple", _, _, true, rfl, ClsV.ty _, tt, kit_ty (by decide +kernel), true, rfl, iteF ?_⟩
        have g := DGet.k (k := Sum.inr s) hd
        rcases size_at hw with ⟨sn, z⟩ | ⟨rfl, z⟩ | ⟨sw, z⟩
        · rw [z] at g
          have : stepB (.str s :: ts) = false := by simp only [stepB, shapeB, sn, Bool.false_and]
          rw [this] at q
          exact ⟨_, rfl, _, rfl, d, none, rfl, g, true, rfl, iteT (q _ e)⟩
        · rw [z] at g
          refine ⟨_, rfl, _, rfl, d, _, rfl, g, false, rfl, iteF ?_⟩
          refine ⟨_, rfl, p, _, rfl, .inr (SqT.of hp2), _, rfl, _, rfl, d, .int 3, rfl, g, rfl, ?_⟩
          by_cases le : ts.length = 2
          · obtain ⟨v1, v2, t1, t2, rfl, rfl, h1, h2⟩ := paired2 hts le
            · have h1 := h1.same e
              have h2 := h2.same e
              rw [step_turn] at q
              refine ⟨false, rfl, iteF ?_⟩
              refine ⟨_, rfl, p, _, 1, v1, rfl, rfl, SqT.of hp2, atI_nat (j := 1) rfl, v1, t1, rfl, h1, sheetB t1, rfl, ?_⟩
              cases z1 : sheetB t1 with
              | false =>
                rw [z1] at q
                exact iteT (q _ e)
              | true =>
                rw [z1] at q
                refine iteF ⟨_, rfl, 1, rfl, p, _, -1, v2, rfl, rfl, SqT.of hp2, atI_last [.str "turn", v1] v2, v2, t2, 1, rfl, h2, leastB 1 t2, rfl, ?_⟩
                cases z2 : leastB 1 t2 with
                | false =>
                  rw [z2] at q
                  exact iteT (q _ e)
                | true =>
                  rw [z2] at q
                  exact iteF ⟨_, rfl, rfl, true, by decide +kernel, iteT (q _ e)⟩
          · rw [step_len (by rwa [if_pos rfl])] at q
            exact ⟨true, congrArg V.bl (by rw [dV', decide_eq_false (by rw [List.length_cons]; omega)]; rfl), iteT (q _ e)⟩
        · rw [z] at g
          refine ⟨_, rfl, _, rfl, d, _, rfl, g, false, rfl, iteF ?_⟩
          have nt : s ≠ "turn" := by
            rcases sw with rfl | rfl | rfl | rfl <;> decide +kernel
          refine ⟨_, rfl, p, _, rfl, .inr (SqT.of hp2), _, rfl, _, rfl, d, .int 5, rfl, g, rfl, ?_⟩
          by_cases le : ts.length = 4
          · obtain ⟨v1, v2, v3, v4, t1, t2, t3, t4, rfl, rfl, h1, h2, h3, h4⟩ := paired4 hts le
            · have h1 := h1.same e
              have h2 := h2.same e
              have h3 := h3.same e
              have h4 := h4.same e
              refine ⟨false, rfl, iteF ?_⟩
              have bad : (sheetB t1 && leastB 1 t4) = false → stepB [.str s, t1, t2, t3, t4] = false := fun zb => by
                rcases sw with rfl | rfl | rfl | rfl
                · rw [step_saw, zb, Bool.false_and]
                · rw [step_split, zb, Bool.false_and]
                · rw [step_glue, zb, Bool.false_and]
                · rw [step_stack, zb, Bool.false_and]
              refine ⟨_, rfl, p, _, 1, v1, rfl, rfl, SqT.of hp2, atI_nat (j := 1) rfl, v1, t1, rfl, h1, sheetB t1, rfl, ?_⟩
              cases z1 : sheetB t1 with
              | false =>
                rw [bad (by rw [z1, Bool.false_and])] at q
                exact iteT (q _ e)
              | true =>
                refine iteF ⟨_, rfl, 1, rfl, p, _, -1, v4, rfl, rfl, SqT.of hp2, atI_last [.str s, v1, v2, v3] v4, v4, t4, 1, rfl, h4, leastB 1 t4, rfl, ?_⟩
                cases z2 : leastB 1 t4 with
                | false =>
                  rw [bad (by rw [z2, Bool.and_false])] at q
                  exact iteT (q _ e)
                | true =>
                  refine iteF ⟨_, rfl, rfl, false, congrArg V.bl (decide_eq_false fun z => nt (V.str.inj z)), iteF ?_⟩
                  rcases sw with rfl | rfl | rfl | rfl
                  · refine ⟨_, rfl, rfl, false, by decide +kernel, iteF ⟨_, rfl, p, _, 2, v2, rfl, rfl, SqT.of hp2, atI_nat (j := 2) rfl, ?_⟩⟩
                    rw [step_saw, z1, z2] at q
                    cases t2 with
                    | int n =>
                      cases (show v2 = .int n from h2)
                      exact ⟨_, rfl, .int n, .ty "str", _, _, false, rfl, ClsV.ty _, TyX.base (TyOf.int _), kit_ty (by decide +kernel), false, rfl, iteT (q _ e)⟩
                    | pair a b =>
                      obtain ⟨r, rfl, h⟩ := h2
                      exact ⟨_, rfl, .ref r, .ty "str", _, _, false, rfl, ClsV.ty _, TyX.base (TyOf.tup h), kit_ty (by decide +kernel), false, rfl, iteT (q _ e)⟩
                    | sheet x =>
                      obtain ⟨r, rfl, u, u', h, _⟩ := h2
                      exact ⟨_, rfl, .ref r, .ty "str", _, _, false, rfl, ClsV.ty _, TyX.base (TyOf.tup h), kit_ty (by decide +kernel), false, rfl, iteT (q _ e)⟩
                    | str sd =>
                      obtain ⟨rfl, hsd⟩ := h2
                      refine ⟨_, rfl, .str sd, .ty "str", _, _, true, rfl, ClsV.ty _, TyX.base (TyOf.str _), kit_ty (by decide +kernel), true, rfl, iteF ⟨_, rfl, by show 2 ≤ sizeLine; decide, fun t nt' => ⟨t, _, rfl, .inr (SqT.of upd_same), rfl, rfl, _, rfl, ?_⟩⟩⟩
                      have e3 := same_new (o := .tup [.str "across", .str "along"]) nt'
                      generalize upd H2 t (.tup [.str "across", .str "along"]) = H3 at e3 ⊢
                      have hp3 := e3 _ _ hp2
                      rw [inV_side]
                      cases z3 : sideB (.str sd) with
                      | false =>
                        rw [z3] at q
                        exact iteT (q _ (e.trans e3))
                      | true =>
                        rw [z3] at q
                        have hs : SideW sd := of_decide_eq_true z3
                        refine iteF ?_
                        refine ⟨_, rfl, rfl, false, by decide +kernel, iteF ⟨_, rfl, rfl, true, by decide +kernel, iteT ?_⟩⟩
                        exact ⟨_, rfl, p, _, 3, v3, rfl, rfl, SqT.of hp3, atI_nat (j := 3) rfl, v3, t3, rfl, h3.same e3, q _ (e.trans e3)⟩
                  · refine ⟨_, rfl, rfl, false, by decide +kernel, iteF ⟨_, rfl, p, _, 2, v2, rfl, rfl, SqT.of hp2, atI_nat (j := 2) rfl, ?_⟩⟩
                    rw [step_split, z1, z2] at q
                    cases t2 with
                    | int n =>
                      cases (show v2 = .int n from h2)
                      exact ⟨_, rfl, .int n, .ty "str", _, _, false, rfl, ClsV.ty _, TyX.base (TyOf.int _), kit_ty (by decide +kernel), false, rfl, iteT (q _ e)⟩
                    | pair a b =>
                      obtain ⟨r, rfl, h⟩ := h2
                      exact ⟨_, rfl, .ref r, .ty "str", _, _, false, rfl, ClsV.ty _, TyX.base (TyOf.tup h), kit_ty (by decide +kernel), false, rfl, iteT (q _ e)⟩
                    | sheet x =>
                      obtain ⟨r, rfl, u, u', h, _⟩ := h2
                      exact ⟨_, rfl, .ref r, .ty "str", _, _, false, rfl, ClsV.ty _, TyX.base (TyOf.tup h), kit_ty (by decide +kernel), false, rfl, iteT (q _ e)⟩
                    | str sd =>
                      obtain ⟨rfl, hsd⟩ := h2
                      refine ⟨_, rfl, .str sd, .ty "str", _, _, true, rfl, ClsV.ty _, TyX.base (TyOf.str _), kit_ty (by decide +kernel), true, rfl, iteF ⟨_, rfl, by show 2 ≤ sizeLine; decide, fun t nt' => ⟨t, _, rfl, .inr (SqT.of upd_same), rfl, rfl, _, rfl, ?_⟩⟩⟩
                      have e3 := same_new (o := .tup [.str "across", .str "along"]) nt'
                      generalize upd H2 t (.tup [.str "across", .str "along"]) = H3 at e3 ⊢
                      have hp3 := e3 _ _ hp2
                      rw [inV_side]
                      cases z3 : sideB (.str sd) with
                      | false =>
                        rw [z3] at q
                        exact iteT (q _ (e.trans e3))
                      | true =>
                        rw [z3] at q
                        have hs : SideW sd := of_decide_eq_true z3
                        refine iteF ?_
                        refine ⟨_, rfl, rfl, false, by decide +kernel, iteF ⟨_, rfl, rfl, false, by decide +kernel, iteF ?_⟩⟩
                        refine ⟨_, rfl, p, _, 3, v3, rfl, rfl, SqT.of hp3, atI_nat (j := 3) rfl, v3, t3, 2, rfl, h3.same e3, leastB 2 t3, rfl, ?_⟩
                        cases z4 : leastB 2 t3 with
                        | false =>
                          rw [z4] at q
                          exact iteT (q _ (e.trans e3))
                        | true =>
                          rw [z4] at q
                          obtain ⟨x, rfl⟩ := fit_sheet z1
                          obtain ⟨px, rfl, hx⟩ := h1
                          refine iteF ⟨_, rfl, p, _, 1, .ref px, rfl, rfl, SqT.of hp3, atI_nat (j := 1) rfl, _, rfl, px, x, sd, rfl, hx.same e3, hs, fun r H4 e4 hr4 => ?_⟩
                          obtain ⟨n, rfl, hn⟩ := fit_pieces z4
                          cases (show v3 = .int n from h3)
                          have hp4 := e4 _ _ hp3
                          obtain ⟨c, rfl, hc⟩ := fit_copies z2
                          have q : Q (.bl (evenB x sd n)) H4 := q _ ((e.trans e3).trans e4)
                          unfold evenB at q
                          refine ⟨_, rfl, rfl, false, by decide +kernel, iteF ?_⟩
                          refine ⟨_, rfl, r, _, 0, .int _, rfl, rfl, SqT.of hr4, atI_nat (j := 0) rfl, _, rfl, p, _, 3, .int n, rfl, rfl, SqT.of hp4, atI_nat (j := 3) rfl, _, n, rfl, rfl, (show 0 < n by omega), rfl, _, rfl, ?_⟩
                          rw [dV']
                          cases z5 : decide ((sideOf x sd).1 % n = 0) with
                          | false =>
                            rw [z5, Bool.false_and] at q
                            exact iteF q
                          | true =>
                            rw [z5, Bool.true_and] at q
                            refine iteT ⟨_, rfl, r, _, 1, .int _, rfl, rfl, SqT.of hr4, atI_nat (j := 1) rfl, _, rfl, p, _, 3, .int n, rfl, rfl, SqT.of hp4, atI_nat (j := 3) rfl, _, n, rfl, rfl, (show 0 < n by omega), rfl, ?_⟩
                            rw [dV']
                            exact q
                  · refine ⟨_, rfl, rfl, true, by decide +kernel, iteT ⟨_, rfl, p, _, 3, v3, rfl, rfl, SqT.of hp2, atI_nat (j := 3) rfl, ?_⟩⟩
                    rw [step_glue, z1, z2] at q
                    cases t3 with
                    | int n =>
                      cases (show v3 = .int n from h3)
                      exact ⟨_, rfl, .int n, .ty "str", _, _, false, rfl, ClsV.ty _, TyX.base (TyOf.int _), kit_ty (by decide +kernel), false, rfl, iteT (q _ e)⟩
                    | pair a b =>
                      obtain ⟨r, rfl, h⟩ := h3
                      exact ⟨_, rfl, .ref r, .ty "str", _, _, false, rfl, ClsV.ty _, TyX.base (TyOf.tup h), kit_ty (by decide +kernel), false, rfl, iteT (q _ e)⟩
                    | sheet x =>
                      obtain ⟨r, rfl, u, u', h, _⟩ := h3
                      exact ⟨_, rfl, .ref r, .ty "str", _, _, false, rfl, ClsV.ty _, TyX.base (TyOf.tup h), kit_ty (by decide +kernel), false, rfl, iteT (q _ e)⟩
                    | str sd =>
                      obtain ⟨rfl, hsd⟩ := h3
                      refine ⟨_, rfl, .str sd, .ty "str", _, _, true, rfl, ClsV.ty _, TyX.base (TyOf.str _), kit_ty (by decide +kernel), true, rfl, iteF ⟨_, rfl, by show 2 ≤ sizeLine; decide, fun t nt' => ⟨t, _, rfl, .inr (SqT.of upd_same), rfl, rfl, _, rfl, ?_⟩⟩⟩
                      have e3 := same_new (o := .tup [.str "across", .str "along"]) nt'
                      generalize upd H2 t (.tup [.str "across", .str "along"]) = H3 at e3 ⊢
                      have hp3 := e3 _ _ hp2
                      rw [inV_side]
                      cases z3 : sideB (.str sd) with
                      | false =>
                        rw [z3] at q
                        exact iteT (q _ (e.trans e3))
                      | true =>
                        rw [z3] at q
                        have hs : SideW sd := of_decide_eq_true z3
                        refine iteF ?_
                        refine ⟨_, rfl, rfl, true, by decide +kernel, iteT ?_⟩
                        rcases hs with rfl | rfl
                        · refine ⟨_, rfl, rfl, true, by decide +kernel, iteT ?_⟩
                          refine ⟨_, rfl, p, _, 2, v2, rfl, rfl, SqT.of hp3, atI_nat (j := 2) rfl, v2, t2, rfl, h2.same e3, sheetB t2, rfl, ?_⟩
                          cases z4 : sheetB t2 with
                          | false =>
                            rw [z4] at q
                            exact iteF (q _ (e.trans e3))
                          | true =>
                            rw [z4] at q
                            obtain ⟨x, rfl⟩ := fit_sheet z1
                            obtain ⟨px, rfl, hx⟩ := h1
                            obtain ⟨y, rfl⟩ := fit_sheet z4
                            obtain ⟨py, rfl, hy⟩ := h2
                            obtain ⟨c, rfl, hc⟩ := fit_copies z2
                            refine iteT ⟨_, rfl, p, _, 1, .ref px, rfl, rfl, SqT.of hp3, atI_nat (j := 1) rfl, _, rfl, px, x, "along", rfl, hx.same e3, .inr rfl, fun r H4 e4 hr4 => ⟨_, rfl, p, _, 2, .ref py, rfl, rfl, SqT.of (e4 _ _ hp3), atI_nat (j := 2) rfl, _, rfl, py, y, "along", rfl, (hy.same e3).same e4, .inr rfl, fun r2 H5 e5 hr5 => ⟨_, _, dpair (e5 _ _ hr4), dpair hr5, rfl, rfl, ?_⟩⟩⟩
                            have q : Q (.bl (glueB x y "across")) H5 := q _ (((e.trans e3).trans e4).trans e5)
                            rw [pair_eqv]
                            exact q
                        · refine ⟨_, rfl, rfl, false, by decide +kernel, iteF ?_⟩
                          refine ⟨_, rfl, p, _, 2, v2, rfl, rfl, SqT.of hp3, atI_nat (j := 2) rfl, v2, t2, rfl, h2.same e3, sheetB t2, rfl, ?_⟩
                          cases z4 : sheetB t2 with
                          | false =>
                            rw [z4] at q
                            exact iteF (q _ (e.trans e3))
                          | true =>
                            rw [z4] at q
                            obtain ⟨x, rfl⟩ := fit_sheet z1
                            obtain ⟨px, rfl, hx⟩ := h1
                            obtain ⟨y, rfl⟩ := fit_sheet z4
                            obtain ⟨py, rfl, hy⟩ := h2
                            obtain ⟨c, rfl, hc⟩ := fit_copies z2
                            refine iteT ⟨_, rfl, p, _, 1, .ref px, rfl, rfl, SqT.of hp3, atI_nat (j := 1) rfl, _, rfl, px, x, "across", rfl, hx.same e3, .inl rfl, fun r H4 e4 hr4 => ⟨_, rfl, p, _, 2, .ref py, rfl, rfl, SqT.of (e4 _ _ hp3), atI_nat (j := 2) rfl, _, rfl, py, y, "across", rfl, (hy.same e3).same e4, .inl rfl, fun r2 H5 e5 hr5 => ⟨_, _, dpair (e5 _ _ hr4), dpair hr5, rfl, rfl, ?_⟩⟩⟩
                            have q : Q (.bl (glueB x y "along")) H5 := q _ (((e.trans e3).trans e4).trans e5)
                            rw [pair_eqv]
                            exact q
                  · refine ⟨_, rfl, rfl, false, by decide +kernel, iteF ⟨_, rfl, p, _, 2, v2, rfl, rfl, SqT.of hp2, atI_nat (j := 2) rfl, ?_⟩⟩
                    rw [step_stack, z1, z2] at q
                    cases t2 with
                    | int n =>
                      cases (show v2 = .int n from h2)
                      exact ⟨_, rfl, .int n, .ty "str", _, _, false, rfl, ClsV.ty _, TyX.base (TyOf.int _), kit_ty (by decide +kernel), false, rfl, iteT (q _ e)⟩
                    | pair a b =>
                      obtain ⟨r, rfl, h⟩ := h2
                      exact ⟨_, rfl, .ref r, .ty "str", _, _, false, rfl, ClsV.ty _, TyX.base (TyOf.tup h), kit_ty (by decide +kernel), false, rfl, iteT (q _ e)⟩
                    | sheet x =>
                      obtain ⟨r, rfl, u, u', h, _⟩ := h2
                      exact ⟨_, rfl, .ref r, .ty "str", _, _, false, rfl, ClsV.ty _, TyX.base (TyOf.tup h), kit_ty (by decide +kernel), false, rfl, iteT (q _ e)⟩
                    | str sd =>
                      obtain ⟨rfl, hsd⟩ := h2
                      refine ⟨_, rfl, .str sd, .ty "str", _, _, true, rfl, ClsV.ty _, TyX.base (TyOf.str _), kit_ty (by decide +kernel), true, rfl, iteF ⟨_, rfl, by show 2 ≤ sizeLine; decide, fun t nt' => ⟨t, _, rfl, .inr (SqT.of upd_same), rfl, rfl, _, rfl, ?_⟩⟩⟩
                      have e3 := same_new (o := .tup [.str "across", .str "along"]) nt'
                      generalize upd H2 t (.tup [.str "across", .str "along"]) = H3 at e3 ⊢
                      have hp3 := e3 _ _ hp2
                      rw [inV_side]
                      cases z3 : sideB (.str sd) with
                      | false =>
                        rw [z3] at q
                        exact iteT (q _ (e.trans e3))
                      | true =>
                        rw [z3] at q
                        have hs : SideW sd := of_decide_eq_true z3
                        refine iteF ?_
                        refine ⟨_, rfl, rfl, false, by decide +kernel, iteF ⟨_, rfl, rfl, false, by decide +kernel, iteF ?_⟩⟩
                        refine ⟨_, rfl, p, _, 3, v3, rfl, rfl, SqT.of hp3, atI_nat (j := 3) rfl, v3, t3, 2, rfl, h3.same e3, leastB 2 t3, rfl, ?_⟩
                        cases z4 : leastB 2 t3 with
                        | false =>
                          rw [z4] at q
                          exact iteT (q _ (e.trans e3))
                        | true =>
                          rw [z4] at q
                          obtain ⟨x, rfl⟩ := fit_sheet z1
                          obtain ⟨px, rfl, hx⟩ := h1
                          refine iteF ⟨_, rfl, p, _, 1, .ref px, rfl, rfl, SqT.of hp3, atI_nat (j := 1) rfl, _, rfl, px, x, sd, rfl, hx.same e3, hs, fun r H4 e4 hr4 => ?_⟩
                          exact ⟨_, rfl, rfl, true, by decide +kernel, iteT (q _ ((e.trans e3).trans e4))⟩
          · rw [step_len (by rwa [if_neg nt])] at q
            exact ⟨true, congrArg V.bl (by rw [dV', decide_eq_false (by rw [List.length_cons]; omega)]; rfl), iteT (q _ e)⟩
end
/-! ### steps that are drawn -/
def Sm (x : Int) : Prop := x.natAbs ≤ 10 ^ 6
theorem w100 {x : Int} (h : x.natAbs < 2 ^ 100) : x.natAbs < 2 ^ 9000 := Nat.lt_of_lt_of_le h (Nat.pow_le_pow_right (by decide) (by decide))
theorem Sm.w {x : Int} (h : Sm x) : x.natAbs < 2 ^ 9000 := w100 (Nat.lt_of_le_of_lt h (by decide))
theorem IsRoot.sm {d : Int} (h : IsRoot d) : d.natAbs < 2 ^ 64 := by
  obtain ⟨h1, h2, _⟩ := h
  exact Nat.lt_of_le_of_lt (show d.natAbs ≤ 99 by omega) (by decide)
section
variable {base : Heap} {K : PySem.W.Frag} {mg : Str → Option Value} {P : Program} {w : World}
def spLen9 : Sp := fun vs H Q _ => ∃ (b sb : Addr) (d : Int), vs = [.ref b, .int d] ∧ Bag H b sb ∧ IsRoot d ∧ ∀ x y p H', Sm x → Sm y → p ≠ b → H' p = some (.tup [.int x, .int y]) → Bag H' b sb → Keep b H H' → Q (.ref p) H'
theorem ok_a_length (T : Txt K mg) : FnOk P w K mg base CX0 4 T.f_a_length T.d_a_length ["_law_bag", "_law_root"] spLen9 := by
  refine T.F_a_length.ok sc_a_length (fun vs H Q E h => ?_) (fun cdv A outer s H vs Q E hr h => ?_)
  · obtain ⟨b, sb, d, rfl, _⟩ := h
    rfl
  · obtain ⟨b, sb, d, rfl, B, hd, q⟩ := h
    refine ⟨_, (pss_cons (ps_set (i := 2) sc_a_length.nd rfl (Or.inl rfl) (pe_call (ok_any_pair T) (hr.mono (by decide)) (by rfl) T.g_any_pair T.F_any_pair.kp T.b_any_pair .nil pass0 (pa_cons (pv 0) pa_nil)))
      (pss_cons (ps_if (pt_cmpR op_eq (pe_call (ok_lsign T) (hr.mono (by decide)) (by rfl) T.g_lsign T.F_lsign.kp T.b_lsign .nil pass0 (pa_cons (pv 2) (pa_cons (pv 1) pa_nil))) pe_int (nomark _)) (pss_one (ps_ret (pe_tup (pa_cons (pe_op op_add pe_int (pe_call (ok_pull T) (hr.mono (by decide)) (by rfl) T.g_pull T.F_pull.kp T.b_pull .nil pass0 (pa_cons (pv 0) (pa_cons pe_int pa_nil)))) (pa_cons pe_int pa_nil))))) pss_nil)
      (pss_one (ps_ret (pe_ifExp (pt_cmpR op_gt (pe_call (ok_lsign T) (hr.mono (by decide)) (by rfl) T.g_lsign T.F_lsign.kp T.b_lsign .nil pass0 (pa_cons (pv 2) (pa_cons (pv 1) pa_nil))) pe_int (nomark _)) (pv 2) (pe_tup (pa_cons (pe_op op_sub pe_int (pe_ix ix_tup (pv 2) pe_int (fun _ _ => rfl))) (pa_cons (pe_op op_sub pe_int (pe_ix ix_tup (pv 2) pe_int (fun _ _ => rfl))) pa_nil)))))))), ?_⟩
    refine ⟨.ref b, rfl, b, sb, rfl, B, fun x y p H1 a1 a2 a3 a4 n1 h1 B1 k1 => ?_⟩
    have bx : Sm x := by unfold Sm; omega
    have bY : Sm y := by unfold Sm; omega
    have np := B.ne n1
    refine ⟨.ref p, rfl, .int d, rfl, p, d, x, y, rfl, SqT.of h1, hd.sm, bx.w, bY.w, rfl, ?_⟩
    by_cases z : sgnI (vl x y d) = 0
    · refine ⟨true, congrArg V.bl (by rw [dV', decide_eq_true z]), iteT ⟨.ref b, rfl, b, sb, 9, rfl, B1, by decide, by decide, fun n H2 z0 z1 B2 k2 => ⟨1, n, rfl, rfl, by show 2 ≤ sizeLine; decide, fun p2 hp2 => ?_⟩⟩⟩
      exact q _ _ p2 _ (by unfold Sm; omega) (by unfold Sm; decide) (B2.ne hp2) upd_same (B2.new hp2) (k1.trans (k2.trans (keep_new hp2)))
    · refine ⟨false, congrArg V.bl (by rw [dV', decide_eq_false z]), iteF ⟨.ref p, rfl, .int d, rfl, p, d, x, y, rfl, SqT.of h1, hd.sm, bx.w, bY.w, ?_⟩⟩
      by_cases z2 : 0 < sgnI (vl x y d)
      · exact ⟨_, 0, rfl, rfl, true, congrArg V.bl (decide_eq_true z2), iteT ⟨_, rfl, q x y p H1 bx bY np h1 B1 k1⟩⟩
      · refine ⟨_, 0, rfl, rfl, false, congrArg V.bl (decide_eq_false z2), iteF ⟨_, rfl, p, _, 0, .int x, rfl, rfl, SqT.of h1, atI_nat (j := 0) rfl, 0, x, rfl, rfl, _, rfl, p, _, 1, .int y, rfl, rfl, SqT.of h1, atI_nat (j := 1) rfl, 0, y, rfl, rfl, by show 2 ≤ sizeLine; decide, fun p2 hp2 => ?_⟩⟩
        exact q (0 - x) (0 - y) p2 _ (by unfold Sm at *; omega) (by unfold Sm at *; omega) (B1.ne hp2) upd_same (B1.new hp2) (k1.trans (keep_new hp2))
def SmS (x : Sh) : Prop := (Sm x.1 ∧ Sm x.2.1) ∧ Sm x.2.2.1 ∧ Sm x.2.2.2
def spSheet9 : Sp := fun vs H Q _ => ∃ (b sb : Addr) (d : Int), vs = [.ref b, .int d] ∧ Bag H b sb ∧ IsRoot d ∧ ∀ x p H', SmS x → ShAt H' p x → Bag H' b sb → Keep b H H' → Q (.ref p) H'
theorem ok_a_sheet (T : Txt K mg) : FnOk P w K mg base CX0 5 T.f_a_sheet T.d_a_sheet ["_law_bag", "_law_root"] spSheet9 := by
  refine T.F_a_sheet.ok sc_a_sheet (fun vs H Q E h => ?_) (fun cdv A outer s H vs Q E hr h => ?_)
  · obtain ⟨b, sb, d, rfl, _⟩ := h
    rfl
  · obtain ⟨b, sb, d, rfl, B, hd, q⟩ := h
    refine ⟨_, (pss_cons (ps_set (i := 2) sc_a_sheet.nd rfl (Or.inl rfl) (pe_call (ok_a_length T) (hr.mono (by decide)) (by rfl) T.g_a_length T.F_a_length.kp T.b_a_length .nil pass0 (pa_cons (pv 0) (pa_cons (pv 1) pa_nil))))
      (pss_one (ps_ret (pe_tup (pa_cons (pv 2) (pa_cons (pe_call (ok_of T) (hr.mono (by decide)) (by rfl) T.g_of T.F_of.kp T.b_of .nil pass0 (pa_cons (pv 0) (pa_cons (pe_lst (pa_cons (pe_call (ok_a_length T) (hr.mono (by decide)) (by rfl) T.g_a_length T.F_a_length.kp T.b_a_length .nil pass0 (pa_cons (pv 0) (pa_cons (pv 1) pa_nil))) (pa_cons (pe_call (ok_a_length T) (hr.mono (by decide)) (by rfl) T.g_a_length T.F_a_length.kp T.b_a_length .nil pass0 (pa_cons (pv 0) (pa_cons (pv 1) pa_nil))) (pa_cons (pe_call (ok_a_length T) (hr.mono (by decide)) (by rfl) T.g_a_length T.F_a_length.kp T.b_a_length .nil pass0 (pa_cons (pv 0) (pa_cons (pv 1) pa_nil))) (pa_cons (pv 2) pa_nil))))) pa_nil))) pa_nil)))))), ?_⟩
    refine ⟨.ref b, rfl, .int d, rfl, b, sb, d, rfl, B, hd, fun x y p H1 l1 l1' n1 h1 B1 k1 => ?_⟩
    refine ⟨.ref p, rfl, .ref b, rfl, .ref b, rfl, .int d, rfl, b, sb, d, rfl, B1, hd, fun x2 y2 p2 H2 l2 l2' n2 h2 B2 k2 => ?_⟩
    refine ⟨.ref b, rfl, .int d, rfl, b, sb, d, rfl, B2, hd, fun x3 y3 p3 H3 l3 l3' n3 h3 B3 k3 => ?_⟩
    refine ⟨.ref b, rfl, .int d, rfl, b, sb, d, rfl, B3, hd, fun x4 y4 p4 H4 l4 l4' n4 h4 B4 k4 => ?_⟩
    refine ⟨.ref p, rfl, by show 4 ≤ sizeLine; decide, fun l hl => ?_⟩
    refine ⟨b, sb, l, _, rfl, B4.new hl, upd_same, B4.ne hl, by simp, by simp, fun i v H5 hv B5 k5 => ⟨by show 2 ≤ sizeLine; decide, fun t ht => ?_⟩⟩
    have k45 : Keep b H4 H5 := (keep_new hl).trans k5
    have kk := k1.trans (k2.trans (k3.trans (k4.trans k45)))
    have e := same_new (o := .tup [.ref p, v]) ht
    have g1 := e _ _ ((k2.trans (k3.trans (k4.trans k45))) _ _ n1 h1)
    have fin : ∀ (x' y' : Int) (p' : Addr), v = .ref p' → Sm x' → Sm y' → H5 p' = some (.tup [.int x', .int y']) → Q (.ref t) (upd H5 t (.tup [.ref p, v])) := by
      rintro x' y' p' rfl m1 m2 h'
      exact q (x, y, x', y') t _ ⟨⟨l1, l1'⟩, m1, m2⟩ ⟨p, p', upd_same, g1, e _ _ h'⟩ (B5.same e) (kk.trans (keep_of e))
    match i, hv with
    | 0, hv => cases hv; exact fin x2 y2 p2 rfl l2 l2' ((k3.trans (k4.trans k45)) _ _ n2 h2)
    | 1, hv => cases hv; exact fin x3 y3 p3 rfl l3 l3' ((k4.trans k45) _ _ n3 h3)
    | 2, hv => cases hv; exact fin x4 y4 p4 rfl l4 l4' (k45 _ _ n4 h4)
    | 3, hv => cases hv; exact fin x y p rfl l1 l1' ((k2.trans (k3.trans (k4.trans k45))) _ _ n1 h1)
    | n + 4, hv => simp at hv
def spLScaled : Sp := fun vs H Q _ => ∃ (r : Addr) (a b n : Int), vs = [.ref r, .int n] ∧ H r = some (.tup [.int a, .int b]) ∧ Sm n ∧ ∀ q H', H q = none → Same H H' → H' q = some (.tup [.int (a * n), .int (b * n)]) → Q (.ref q) H'
theorem ok_lscaled (T : Txt K mg) : FnOk P w K mg base CX0 1 T.f_lscaled T.d_lscaled ["_law_pair", "_law_number"] spLScaled := by
  refine T.F_lscaled.ok sc_lscaled (fun vs H Q E h => ?_) (fun cdv A outer s H vs Q E hr h => ?_)
  · obtain ⟨r, a, b, n, rfl, _⟩ := h
    rfl
  · obtain ⟨r, a, b, n, rfl, h, hn, q⟩ := h
    refine ⟨_, (pss_one (ps_ret (pe_tup (pa_cons (pe_op op_mul (pe_ix ix_tup (pv 0) pe_int (fun _ _ => rfl)) (pv 1)) (pa_cons (pe_op op_mul (pe_ix ix_tup (pv 0) pe_int (fun _ _ => rfl)) (pv 1)) pa_nil))))), ?_⟩
    unfold Sm at hn
    have m : -(2 ^ 64) < n ∧ n < 2 ^ 64 := ⟨by omega, by omega⟩
    refine ⟨_, rfl, r, _, 0, .int a, rfl, rfl, SqT.of h, atI_nat (j := 0) rfl, _, rfl, a, n, rfl, rfl, .inr m, _, rfl, r, _, 1, .int b, rfl, rfl, SqT.of h, atI_nat (j := 1) rfl, _, rfl, b, n, rfl, rfl, .inr m, by show 2 ≤ sizeLine; decide, fun t nt => ?_⟩
    exact q t _ nt (same_new nt) upd_same
theorem items_same {H H' : Hp} (s : Same H H') {vs : List V} {ts : List Itm} (h : Paired (ItAt H) vs ts) : Paired (ItAt H') vs ts := by
  induction h with
  | nil => exact .nil
  | cons r _ ih => exact .cons (r.same s) ih
theorem side_word {s : Str} (h : SideW s) : s ∈ words := by
  rcases h with rfl | rfl <;> decide +kernel
theorem ShAt.keep {H H' : Hp} {b sb p : Addr} {x : Sh} (h : ShAt H p x) (B : Bag H b sb) (k : Keep b H H') : ShAt H' p x := h.mono (tup_keep B k)
/-- bounded items -/
def ItB : Itm → Prop
  | .str _ => True
  | .int n => n.natAbs ≤ 100
  | .pair a b => a.natAbs ≤ 10 ^ 7 ∧ b.natAbs ≤ 10 ^ 7
  | .sheet x => (x.1.natAbs ≤ 10 ^ 7 ∧ x.2.1.natAbs ≤ 10 ^ 7) ∧ x.2.2.1.natAbs ≤ 10 ^ 7 ∧ x.2.2.2.natAbs ≤ 10 ^ 7
theorem SmS.itB {x : Sh} (h : SmS x) : ItB (.sheet x) := by
  unfold SmS Sm at h
  unfold ItB
  omega
theorem bnd5 {a b c d e : Itm} (h1 : ItB a) (h2 : ItB b) (h3 : ItB c) (h4 : ItB d) (h5 : ItB e) : ∀ t ∈ [a, b, c, d, e], ItB t := by
  intro t ht
  simp only [List.mem_cons, List.not_mem_nil, or_false] at ht
  rcases ht with rfl | rfl | rfl | rfl | rfl <;> assumption
theorem bnd3 {a b c : Itm} (h1 : ItB a) (h2 : ItB b) (h3 : ItB c) : ∀ t ∈ [a, b, c], ItB t := by
  intro t ht
  simp only [List.mem_cons, List.not_mem_nil, or_false] at ht
  rcases ht with rfl | rfl | rfl <;> assumption
theorem mul4 {a n : Int} (h : Sm a) (g : n.natAbs ≤ 4) : (a * n).natAbs ≤ 10 ^ 7 := by
  unfold Sm at h
  rw [Int.natAbs_mul]
  have := Nat.mul_le_mul h g
  omega
theorem with_b {x y : Sh} {s : Str} {n : Int} (h : SmS x) (g : n.natAbs ≤ 4) (e : y = if s = "across" then ((sideOf x s).1 * n, (sideOf x s).2 * n, x.2.2.1, x.2.2.2) else (x.1, x.2.1, (sideOf x s).1 * n, (sideOf x s).2 * n)) : ItB (.sheet y) := by
  obtain ⟨⟨h1, h2⟩, h3, h4⟩ := h
  have b := (show SmS x from ⟨⟨h1, h2⟩, h3, h4⟩).itB
  unfold sideOf at e
  unfold ItB at b ⊢
  subst e
  by_cases z : s = "across"
  · simp only [if_pos z]
    exact ⟨⟨mul4 h1 g, mul4 h2 g⟩, b.2⟩
  · simp only [if_neg z]
    exact ⟨b.1, mul4 h3 g, mul4 h4 g⟩
theorem glue_b {x z y : Sh} {s : Str} (h : SmS x) (g : SmS z) (e : y = if s = "across" then ((sideOf z s).1, (sideOf z s).2, x.2.2.1, x.2.2.2) else (x.1, x.2.1, (sideOf z s).1, (sideOf z s).2)) : ItB (.sheet y) := by
  have b := h.itB
  have c := g.itB
  unfold sideOf at e
  unfold ItB at b c ⊢
  subst e
  by_cases z : s = "across"
  · simp only [if_pos z]
    exact ⟨c.1, b.2⟩
  · simp only [if_neg z]
    exact ⟨b.1, c.2⟩
def spAnyStep : Sp := fun vs H Q _ => ∃ (b sb : Addr) (d : Int), vs = [.ref b, .int d] ∧ Bag H b sb ∧ IsRoot d ∧ ∀ p ts H', 0 < ts.length → ts.length ≤ 5 → (∀ t ∈ ts, ItB t) → StepAt H' p ts → Bag H' b sb → Keep b H H' → Q (.ref p) H'
theorem ok_any_step (T : Txt K mg) : FnOk P w K mg base CX0 6 T.f_any_step T.d_any_step ["_law_bag", "_law_root"] spAnyStep := by
  refine T.F_any_step.ok sc_any_step (fun vs H Q E h => ?_) (fun cdv A outer s H vs Q E hr h => ?_)
  · obtain ⟨b, sb, d, rfl, _⟩ := h
    rfl
  · obtain ⟨b, sb, d, rfl, B, hd, q⟩ := h
    refine ⟨_, (pss_cons (ps_par3 (i := 2) (j := 3) (l := 4) (by rfl) sc_any_step.nd rfl rfl rfl (by decide) (by decide) (by decide) rfl rfl rfl (pa_cons (pe_call (ok_a_sheet T) (hr.mono (by decide)) (by rfl) T.g_a_sheet T.F_a_sheet.kp T.b_a_sheet .nil pass0 (pa_cons (pv 0) (pa_cons (pv 1) pa_nil))) (pa_cons (pe_call (ok_of T) (hr.mono (by decide)) (by rfl) T.g_of T.F_of.kp T.b_of .nil pass0 (pa_cons (pv 0) (pa_cons (pe_lst (pa_cons pe_str (pa_cons pe_str pa_nil))) pa_nil))) (pa_cons (pe_call (ok_of T) (hr.mono (by decide)) (by rfl) T.g_of T.F_of.kp T.b_of .nil pass0 (pa_cons (pv 0) (pa_cons (pe_lst (pa_cons pe_int (pa_cons pe_int (pa_cons pe_int pa_nil)))) pa_nil))) pa_nil))) (by rfl))
      (pss_cons (ps_par (i := 5) (j := 6) (by rfl) sc_any_step.nd rfl rfl (by decide) rfl rfl (pa_cons (pe_call (ok_pull T) (hr.mono (by decide)) (by rfl) T.g_pull T.F_pull.kp T.b_pull .nil pass0 (pa_cons (pv 0) (pa_cons pe_int pa_nil))) (pa_cons (pe_call (ok_a_sheet T) (hr.mono (by decide)) (by rfl) T.g_a_sheet T.F_a_sheet.kp T.b_a_sheet .nil pass0 (pa_cons (pv 0) (pa_cons (pv 1) pa_nil))) pa_nil)) (by rfl))
      (pss_cons (ps_if (pt_cmpR op_eq (pv 5) pe_int (nomark _)) (pss_one (ps_ret (pe_tup (pa_cons pe_str (pa_cons (pv 2) (pa_cons (pv 3) (pa_cons (pe_call (ok_of T) (hr.mono (by decide)) (by rfl) T.g_of T.F_of.kp T.b_of .nil pass0 (pa_cons (pv 0) (pa_cons (pe_lst (pa_cons (pe_call (ok_any_pair T) (hr.mono (by decide)) (by rfl) T.g_any_pair T.F_any_pair.kp T.b_any_pair .nil pass0 (pa_cons (pv 0) pa_nil)) (pa_cons (pe_ix ix_tup (pv 6) pe_int (fun _ _ => rfl)) pa_nil))) pa_nil))) (pa_cons (pv 4) pa_nil)))))))) pss_nil)
      (pss_cons (ps_if (pt_cmpR op_eq (pv 5) pe_int (nomark _)) (pss_cons (ps_set (i := 7) sc_any_step.nd rfl (Or.inl rfl) (pe_op op_add pe_int (pe_call (ok_pull T) (hr.mono (by decide)) (by rfl) T.g_pull T.F_pull.kp T.b_pull .nil pass0 (pa_cons (pv 0) (pa_cons pe_int pa_nil)))))
      (pss_cons (ps_set (i := 8) sc_any_step.nd rfl (Or.inl rfl) (pe_call (ok_lscaled T) (hr.mono (by decide)) (by rfl) T.g_lscaled T.F_lscaled.kp T.b_lscaled .nil pass0 (pa_cons (pe_call (ok_lside_of T) (hr.mono (by decide)) (by rfl) T.g_lside_of T.F_lside_of.kp T.b_lside_of .nil pass0 (pa_cons (pv 2) (pa_cons (pv 3) pa_nil))) (pa_cons (pe_call (ok_of T) (hr.mono (by decide)) (by rfl) T.g_of T.F_of.kp T.b_of .nil pass0 (pa_cons (pv 0) (pa_cons (pe_lst (pa_cons (pv 7) (pa_cons pe_int pa_nil))) pa_nil))) pa_nil))))
      (pss_one (ps_ret (pe_tup (pa_cons pe_str (pa_cons (pe_call (ok_with T) (hr.mono (by decide)) (by rfl) T.g_with T.F_with.kp T.b_with .nil pass0 (pa_cons (pv 2) (pa_cons (pv 3) (pa_cons (pv 8) pa_nil)))) (pa_cons (pv 3) (pa_cons (pv 7) (pa_cons (pv 4) pa_nil)))))))))) pss_nil)
      (pss_cons (ps_if (pt_cmpR op_eq (pv 5) pe_int (nomark _)) (pss_cons (ps_set (i := 6) sc_any_step.nd rfl (Or.inl rfl) (pe_call (ok_of T) (hr.mono (by decide)) (by rfl) T.g_of T.F_of.kp T.b_of .nil pass0 (pa_cons (pv 0) (pa_cons (pe_lst (pa_cons (pe_call (ok_with T) (hr.mono (by decide)) (by rfl) T.g_with T.F_with.kp T.b_with .nil pass0 (pa_cons (pv 2) (pa_cons (pv 3) (pa_cons (pe_call (ok_lside_of T) (hr.mono (by decide)) (by rfl) T.g_lside_of T.F_lside_of.kp T.b_lside_of .nil pass0 (pa_cons (pv 6) (pa_cons (pv 3) pa_nil))) pa_nil)))) (pa_cons (pv 6) pa_nil))) pa_nil))))
      (pss_one (ps_ret (pe_tup (pa_cons pe_str (pa_cons (pv 2) (pa_cons (pv 6) (pa_cons (pv 3) (pa_cons (pv 4) pa_nil))))))))) pss_nil)
      (pss_cons (ps_if (pt_cmpR op_eq (pv 5) pe_int (nomark _)) (pss_one (ps_ret (pe_tup (pa_cons pe_str (pa_cons (pv 2) (pa_cons (pv 3) (pa_cons (pe_op op_add pe_int (pe_call (ok_pull T) (hr.mono (by decide)) (by rfl) T.g_pull T.F_pull.kp T.b_pull .nil pass0 (pa_cons (pv 0) (pa_cons pe_int pa_nil)))) (pa_cons (pv 4) pa_nil)))))))) pss_nil)
      (pss_one (ps_ret (pe_tup (pa_cons pe_str (pa_cons (pv 2) (pa_cons (pv 4) pa_nil)))))))))))), ?_⟩
    refine ⟨.ref b, rfl, .int d, rfl, b, sb, d, rfl, B, hd, fun x px H1 m1 hx B1 k1 => ?_⟩
    refine ⟨.ref b, rfl, by show 2 ≤ sizeLine; decide, fun l hl => ⟨b, sb, l, _, rfl, B1.new hl, upd_same, B1.ne hl, by simp, by simp, fun i v H2 hv B2 k2 => ?_⟩⟩
    obtain ⟨sd, rfl, hs⟩ : ∃ sd, v = .str sd ∧ SideW sd := by
      match i, hv with
      | 0, hv => cases hv; exact ⟨_, rfl, .inl rfl⟩
      | 1, hv => cases hv; exact ⟨_, rfl, .inr rfl⟩
      | n + 2, hv => simp at hv
    refine ⟨.ref b, rfl, by show 3 ≤ sizeLine; decide, fun l2 hl2 => ⟨b, sb, l2, _, rfl, B2.new hl2, upd_same, B2.ne hl2, by simp, by simp, fun i v H3 hv B3 k3 => ?_⟩⟩
    obtain ⟨c, rfl, hc5⟩ : ∃ c : Int, v = .int c ∧ c.natAbs ≤ 5 := by
      match i, hv with
      | 0, hv => cases hv; exact ⟨_, rfl, by decide⟩
      | 1, hv => cases hv; exact ⟨_, rfl, by decide⟩
      | 2, hv => cases hv; exact ⟨_, rfl, by decide⟩
      | n + 3, hv => simp at hv
    refine ⟨_, _, _, rfl, ?_⟩
    refine ⟨.ref b, rfl, b, sb, 5, rfl, B3, by decide, by decide, fun wy H4 w0 w1 B4 k4 => ?_⟩
    refine ⟨.ref b, rfl, .int d, rfl, b, sb, d, rfl, B4, hd, fun y py H5 m5 hy B5 k5 => ?_⟩
    refine ⟨_, _, rfl, ?_⟩
    have k15 : Keep b H1 H5 := (keep_new hl).trans (k2.trans ((keep_new hl2).trans (k3.trans (k4.trans k5))))
    have kk := k1.trans k15
    have hx5 := hx.keep B1 k15
    have hw := side_word hs
    have fin : ∀ (H6 : Hp) (t : Addr) (vs : List V) (ts : List Itm), Bag H6 b sb → Keep b H5 H6 → H6 t = none → Paired (ItAt H6) vs ts → 0 < ts.length → ts.length ≤ 5 → (∀ t ∈ ts, ItB t) → Q (.ref t) (upd H6 t (.tup vs)) := fun H6 t vs ts B6 k6 ht hts l0 l5 lb =>
      q t ts _ l0 l5 lb ⟨vs, upd_same, items_same (same_new ht) hts⟩ (B6.new ht) ((kk.trans k6).trans (keep_new ht))
    by_cases y0 : wy = 0
    · refine ⟨_, rfl, rfl, true, congrArg V.bl (by rw [dV', decide_eq_true y0]), iteT ?_⟩
      obtain ⟨u, u', g1, g2, g3⟩ := id hy
      refine ⟨_, rfl, _, rfl, .ref b, rfl, .ref b, rfl, b, sb, rfl, B5, fun a0 a1 p6 H6 b1 b2 b3 b4 n6 h6 B6 k6 => ?_⟩
      refine ⟨_, rfl, py, _, 0, .ref u, rfl, rfl, SqT.of (tup_keep B5 k6 _ _ g1), atI_nat (j := 0) rfl, by show 2 ≤ sizeLine; decide, fun l3 hl3 => ⟨b, sb, l3, _, rfl, B6.new hl3, upd_same, B6.ne hl3, by simp, by simp, fun i v H7 hv B7 k7 => ?_⟩⟩
      have k67 : Keep b H6 H7 := (keep_new hl3).trans k7
      have k57 := k6.trans k67
      obtain ⟨r, a0, a1, rfl, hr7, ba⟩ : ∃ (r : Addr) (a0 a1 : Int), v = .ref r ∧ H7 r = some (.tup [.int a0, .int a1]) ∧ ItB (.pair a0 a1) := by
        match i, hv with
        | 0, hv => cases hv; exact ⟨_, _, _, rfl, tup_keep B6 k67 _ _ h6, by unfold ItB; omega⟩
        | 1, hv => cases hv; exact ⟨_, _, _, rfl, tup_keep B5 k57 _ _ g2, by have := m5.itB; unfold ItB at this ⊢; omega⟩
        | n + 2, hv => simp at hv
      refine ⟨_, rfl, by show 5 ≤ sizeLine; decide, fun t ht => ?_⟩
      exact fin H7 t _ [.str "saw", .sheet x, .str sd, .pair a0 a1, .int c] B7 k57 ht (.cons ⟨rfl, by decide +kernel⟩ (.cons ⟨px, rfl, hx5.keep B5 k57⟩ (.cons ⟨rfl, hw⟩ (.cons ⟨r, rfl, hr7⟩ (.cons rfl .nil))))) (Nat.succ_pos _) (by simp) (bnd5 trivial m1.itB trivial ba (show c.natAbs ≤ 100 by omega))
    refine ⟨_, rfl, rfl, false, congrArg V.bl (by rw [dV', decide_eq_false y0]), iteF ?_⟩
    by_cases y1 : wy = 1
    · refine ⟨_, rfl, rfl, true, congrArg V.bl (by rw [dV', decide_eq_true y1]), iteT ?_⟩
      refine ⟨.ref b, rfl, b, sb, 3, rfl, B5, by decide, by decide, fun z H6 z0 z1 B6 k6 => ⟨2, z, rfl, rfl, ?_⟩⟩
      refine ⟨_, rfl, _, rfl, px, x, sd, rfl, hx5.keep B5 k6, hs, fun r H7 e7 hr7 => ⟨.ref b, rfl, _, rfl, by show 2 ≤ sizeLine; decide, fun l3 hl3 => ⟨b, sb, l3, _, rfl, (B6.same e7).new hl3, upd_same, (B6.same e7).ne hl3, by simp, by simp, fun i v H8 hv B8 k8 => ?_⟩⟩⟩
      have k78 : Keep b H7 H8 := (keep_new hl3).trans k8
      have k58 : Keep b H5 H8 := k6.trans ((keep_of e7).trans k78)
      obtain ⟨n, rfl, hn4⟩ : ∃ n : Int, v = .int n ∧ n.natAbs ≤ 4 := by
        match i, hv with
        | 0, hv => cases hv; exact ⟨_, rfl, by omega⟩
        | 1, hv => cases hv; exact ⟨_, rfl, by decide⟩
        | n + 2, hv => simp at hv
      have hn : Sm n := by unfold Sm; omega
      refine ⟨r, _, _, n, rfl, tup_keep (B6.same e7) k78 _ _ hr7, hn, fun q9 H9 n9 e9 h9 => ?_⟩
      have k59 : Keep b H5 H9 := k58.trans (keep_of e9)
      refine ⟨_, rfl, _, rfl, _, rfl, px, q9, x, sd, _, _, rfl, hx5.keep B5 k59, hs, h9, fun q10 H10 y10 n10 e10 h10 ey => ⟨_, rfl, _, rfl, _, rfl, by show 5 ≤ sizeLine; decide, fun t ht => ?_⟩⟩
      exact fin H10 t _ [.str "split", .sheet y10, .str sd, .int (2 + z), .int c] ((B8.same e9).same e10) (k59.trans (keep_of e10)) ht (.cons ⟨rfl, by decide +kernel⟩ (.cons ⟨q10, rfl, h10⟩ (.cons ⟨rfl, hw⟩ (.cons rfl (.cons rfl .nil))))) (Nat.succ_pos _) (by simp) (bnd5 trivial (with_b m1 hn4 ey) trivial (show (2 + z).natAbs ≤ 100 by omega) (show c.natAbs ≤ 100 by omega))
    refine ⟨_, rfl, rfl, false, congrArg V.bl (by rw [dV', decide_eq_false y1]), iteF ?_⟩
    by_cases y2 : wy = 2
    · refine ⟨_, rfl, rfl, true, congrArg V.bl (by rw [dV', decide_eq_true y2]), iteT ?_⟩
      refine ⟨.ref b, rfl, _, rfl, _, rfl, _, rfl, _, rfl, py, y, sd, rfl, hy, hs, fun r H6 e6 hr6 => ⟨px, r, x, sd, _, _, rfl, hx5.same e6, hs, hr6, fun q7 H7 y7 n7 e7 h7 ey => ⟨_, rfl, by show 2 ≤ sizeLine; decide, fun l3 hl3 => ⟨b, sb, l3, _, rfl, ((B5.same e6).same e7).new hl3, upd_same, ((B5.same e6).same e7).ne hl3, by simp, by simp, fun i v H8 hv B8 k8 => ?_⟩⟩⟩⟩
      have k78 : Keep b H7 H8 := (keep_new hl3).trans k8
      have k58 : Keep b H5 H8 := (keep_of e6).trans ((keep_of e7).trans k78)
      obtain ⟨r2, z, rfl, hz, bz⟩ : ∃ (r2 : Addr) (z : Sh), v = .ref r2 ∧ ShAt H8 r2 z ∧ ItB (.sheet z) := by
        match i, hv with
        | 0, hv => cases hv; exact ⟨_, _, rfl, h7.keep ((B5.same e6).same e7) k78, glue_b m1 m5 ey⟩
        | 1, hv => cases hv; exact ⟨_, _, rfl, hy.keep B5 k58, m5.itB⟩
        | n + 2, hv => simp at hv
      refine ⟨_, rfl, _, rfl, _, rfl, _, rfl, by show 5 ≤ sizeLine; decide, fun t ht => ?_⟩
      exact fin H8 t _ [.str "glue", .sheet x, .sheet z, .str sd, .int c] B8 k58 ht (.cons ⟨rfl, by decide +kernel⟩ (.cons ⟨px, rfl, hx5.keep B5 k58⟩ (.cons ⟨r2, rfl, hz⟩ (.cons ⟨rfl, hw⟩ (.cons rfl .nil))))) (Nat.succ_pos _) (by simp) (bnd5 trivial m1.itB bz trivial (show c.natAbs ≤ 100 by omega))
    refine ⟨_, rfl, rfl, false, congrArg V.bl (by rw [dV', decide_eq_false y2]), iteF ?_⟩
    by_cases y3 : wy = 3
    · refine ⟨_, rfl, rfl, true, congrArg V.bl (by rw [dV', decide_eq_true y3]), iteT ?_⟩
      refine ⟨_, rfl, _, rfl, .ref b, rfl, b, sb, 5, rfl, B5, by decide, by decide, fun z H6 z0 z1 B6 k6 => ⟨2, z, rfl, rfl, _, rfl, by show 5 ≤ sizeLine; decide, fun t ht => ?_⟩⟩
      exact fin H6 t _ [.str "stack", .sheet x, .str sd, .int (2 + z), .int c] B6 k6 ht (.cons ⟨rfl, by decide +kernel⟩ (.cons ⟨px, rfl, hx5.keep B5 k6⟩ (.cons ⟨rfl, hw⟩ (.cons rfl (.cons rfl .nil))))) (Nat.succ_pos _) (by simp) (bnd5 trivial m1.itB trivial (show (2 + z).natAbs ≤ 100 by omega) (show c.natAbs ≤ 100 by omega))
    · refine ⟨_, rfl, rfl, false, congrArg V.bl (by rw [dV', decide_eq_false y3]), iteF ?_⟩
      refine ⟨_, rfl, _, rfl, by show 3 ≤ sizeLine; decide, fun t ht => ?_⟩
      exact fin H5 t _ [.str "turn", .sheet x, .int c] B5 (Keep.refl _) ht (.cons ⟨rfl, by decide +kernel⟩ (.cons ⟨px, rfl, hx5⟩ (.cons rfl .nil))) (Nat.succ_pos _) (by simp) (bnd3 trivial m1.itB (show c.natAbs ≤ 100 by omega))
end
/-! ### texts in order -/
theorem ltc_anti : ∀ {x y : List Nat}, ltCps x y = false → ltCps y x = false → x = y
  | [], [], _, _ => rfl
  | [], _ :: _, h, _ => by simp [ltCps] at h
  | _ :: _, [], _, h => by simp [ltCps] at h
  | a :: x, b :: y, h, g => by
    simp only [ltCps, Bool.or_eq_false_iff, decide_eq_false_iff_not, Bool.and_eq_false_imp, beq_iff_eq] at h g
    have e : a = b := by omega
    subst e
    rw [ltc_anti (h.2 rfl) (g.2 rfl)]
theorem ltc_trans : ∀ {x y z : List Nat}, ltCps y x = false → ltCps z y = false → ltCps z x = false
  | [], _, [], _, _ => rfl
  | [], _, _ :: _, _, _ => rfl
  | _ :: _, [], _, h, _ => by simp [ltCps] at h
  | _ :: _, _ :: _, [], _, h => by simp [ltCps] at h
  | a :: x, b :: y, c :: z, h, g => by
    simp only [ltCps, Bool.or_eq_false_iff, decide_eq_false_iff_not, Bool.and_eq_false_imp, beq_iff_eq] at h g ⊢
    refine ⟨by omega, fun e => ?_⟩
    have e1 : b = a := by omega
    exact ltc_trans (h.2 e1) (g.2 (by omega))
def leT (x y : Str) : Prop := ltCps y.cps.toList x.cps.toList = false
theorem leT_anti {x y : Str} (h : leT x y) (g : leT y x) : x = y := by
  have e := ltc_anti h g
  cases x
  cases y
  exact congrArg Str.mk (Array.toList_inj.mp e).symm
theorem rising_all : ∀ {r : List Str} {p : Str}, risingS p r = true → (p :: r).Pairwise leT
  | [], p, _ => List.pairwise_singleton _ _
  | x :: r, p, h => by
    simp only [risingS, Bool.and_eq_true, Bool.not_eq_true'] at h
    have ih := rising_all h.2
    refine List.pairwise_cons.mpr ⟨fun z hz => ?_, ih⟩
    rcases List.mem_cons.mp hz with rfl | hz
    · exact h.1
    · exact ltc_trans h.1 ((List.pairwise_cons.mp ih).1 z hz)
theorem sorted_all {xs : List Str} (h : sortedS xs = true) : xs.Pairwise leT := by
  cases xs with
  | nil => exact .nil
  | cons x r => exact rising_all h
theorem sorted_one {xs ys : List Str} (p : xs.Perm ys) (h : sortedS xs = true) (g : sortedS ys = true) : xs = ys :=
  List.Perm.eq_of_pairwise (fun _ _ _ _ => leT_anti) (sorted_all h) (sorted_all g) p
/-! ### a dict that counts texts -/
theorem putK_keys (kvs : List (Key × V)) (k : Key) (v : V) : (putK kvs k v).map (·.1) = if (valV kvs k).isSome then kvs.map (·.1) else kvs.map (·.1) ++ [k] := by
  unfold putK
  rw [valV_any]
  split
  · rw [List.map_map]
    refine List.map_congr_left fun p _ => ?_
    show (if p.1 = k then (p.1, v) else p).1 = p.1
    split <;> rfl
  · rw [List.map_append]
    rfl
structure CntOk (kvs : List (Key × V)) (ws : List Str) : Prop where
  len : kvs.length ≤ ws.length
  val : ∀ w, valV kvs (.inr w) = if w ∈ ws then some (.int (ws.count w : Nat)) else none
  key : ∃ ks : List Str, kvs.map (·.1) = ks.map Sum.inr ∧ ks.Nodup ∧ ∀ k, k ∈ ks ↔ k ∈ ws
theorem CntOk.nil : CntOk [] [] := ⟨Nat.le_refl _, fun w => by simp [valV], [], rfl, .nil, fun k => Iff.rfl⟩
theorem CntOk.put {kvs : List (Key × V)} {ws : List Str} (h : CntOk kvs ws) (w : Str) : CntOk (putK kvs (.inr w) (.int ((ws.count w : Nat) + 1))) (ws ++ [w]) := by
  refine ⟨?_, fun z => ?_, ?_⟩
  · have e1 := length_putK kvs (.inr w) (.int ((ws.count w : Nat) + 1))
    have e2 := h.len
    rw [List.length_append, List.length_singleton]
    omega
  · rw [valV_put]
    by_cases e : z = w
    · subst e
      rw [if_pos rfl, if_pos (by simp), List.count_append, List.count_singleton_self]
      simp
    · have n1 : ¬ (Sum.inr z : Key) = .inr w := fun q => e (Sum.inr.inj q)
      rw [if_neg n1, h.val, List.count_append, List.count_singleton]
      have n2 : (w == z) = false := beq_eq_false_iff_ne.mpr (Ne.symm e)
      rw [n2]
      simp [e]
  · obtain ⟨ks, e, nd, mem⟩ := h.key
    rw [putK_keys, h.val]
    by_cases hw : w ∈ ws
    · rw [if_pos hw]
      refine ⟨ks, e, nd, fun k => ?_⟩
      rw [mem k, List.mem_append, List.mem_singleton]
      exact ⟨.inl, fun q => q.elim id fun z => z ▸ hw⟩
    · rw [if_neg hw]
      refine ⟨ks ++ [w], by rw [List.map_append, ← e]; rfl, ?_, fun k => by rw [List.mem_append, List.mem_append, mem k]⟩
      rw [List.nodup_append]
      refine ⟨nd, by simp, fun a ha b hb => ?_⟩
      rw [List.mem_singleton.mp hb]
      exact fun z => hw ((mem w).mp (z ▸ ha))
/-! ### the tallies -/
structure TCls (K : PySem.W.Frag) (C : Addr) : Prop where
  cl : Cls K C
  nn : NoAttr K C "notes"
  nw : NoAttr K C "words"
  nk : NoAttr K C "kept"
  ns : NoAttr K C "sawn"
section
variable {K : PySem.W.Frag} {mg : Str → Option Value}
theorem clsT (T : Txt K mg) : TCls K T.C_Tally := ⟨T.cl_Tally, T.n_Tally_notes, T.n_Tally_words, T.n_Tally_kept, T.n_Tally_sawn⟩
theorem clsJ (T : Txt K mg) : TCls K T.C_Journal := ⟨T.cl_Journal, T.n_Journal_notes, T.n_Journal_words, T.n_Journal_kept, T.n_Journal_sawn⟩
theorem clsC (T : Txt K mg) : TCls K T.C_CutTally := ⟨T.cl_CutTally, T.n_CutTally_notes, T.n_CutTally_words, T.n_CutTally_kept, T.n_CutTally_sawn⟩
end
/-- the attributes that a tally has -/
def TlF (n : Int) (d : Addr) (more : List (Str × V)) : List (Str × V) := ("notes", .int n) :: ("words", .ref d) :: more
def wordOf : List Itm → Str
  | .str w :: _ => w
  | _ => ""
/-- all but these stay -/
def Kp (A : List Addr) (H H' : Hp) : Prop := ∀ q o, q ∉ A → H q = some o → H' q = some o
section
variable {base : Heap} {K : PySem.W.Frag} {mg : Str → Option Value} {P : Program} {w : World}
def spTInit (K : PySem.W.Frag) : Sp := fun vs H Q _ => ∃ (x C dx : Addr), vs = [.ref x] ∧ H x = some (.ins C dx []) ∧ TCls K C ∧ ∀ d H', H d = none → H' d = some (.dK []) → H' x = some (.ins C dx (TlF 0 d [])) → Kp [x] H H' → Q .non H'
theorem ok_Tally_init (T : Txt K mg) : FnOk P w K mg base CX0 1 T.f_Tally_init T.d_Tally_init ["self"] (spTInit K) := by
  refine T.F_Tally_init.ok sc_Tally_init (fun vs H Q E h => ?_) (fun cdv A outer s H vs Q E hr h => ?_)
  · obtain ⟨x, C, dx, rfl, _⟩ := h
    rfl
  · obtain ⟨x, C, dx, rfl, hx, c, q⟩ := h
    refine ⟨_, (pss_cons (ps_fld (pv 0) pe_int rfl)
      (pss_one (ps_fld (pv 0) pe_dnewK rfl))), ?_⟩
    refine ⟨_, rfl, x, C, dx, [], rfl, hx, c.cl, c.nn, by decide, fun d nd => ?_⟩
    have nx : d ≠ x := fun z => by
      rw [z, upd_same] at nd
      cases nd
    have nd0 : H d = none := (upd_ne nx).symm.trans nd
    refine ⟨_, rfl, x, C, dx, _, rfl, (upd_ne nx.symm).trans upd_same, c.cl, c.nw, by show 1 < 1000; decide, ?_⟩
    refine q d _ nd0 ((upd_ne nx).trans upd_same) upd_same fun b o hb e => ?_
    have hbx : b ≠ x := fun z => hb (by rw [z]; exact List.mem_singleton.mpr rfl)
    rw [upd_ne hbx, upd_ne (ne_of_none e nd0), upd_ne hbx]
    exact e
def spTNote (K : PySem.W.Frag) : Sp := fun vs H Q _ => ∃ (x C dx d p : Addr) (n : Int) (more : List (Str × V)) (kvs : List (Key × V)) (ws : List Str) (ts : List Itm), vs = [.ref x, .ref p] ∧ TCls K C ∧ H x = some (.ins C dx (TlF n d more)) ∧ more.length ≤ 2 ∧ H d = some (.dK kvs) ∧ CntOk kvs ws ∧ ws.length ≤ 900 ∧
  StepAt H p ts ∧ (∃ r, ts = .str (wordOf ts) :: r) ∧ ∀ H', H' x = some (.ins C dx (TlF (n + 1) d more)) → H' d = some (.dK (putK kvs (.inr (wordOf ts)) (.int ((ws.count (wordOf ts) : Nat) + 1)))) → Kp [x, d] H H' → Q .non H'
theorem ok_Tally_note (T : Txt K mg) : FnOk P w K mg base CX0 1 T.f_Tally_note T.d_Tally_note ["self", "step"] (spTNote K) := by
  refine T.F_Tally_note.ok sc_Tally_note (fun vs H Q E h => ?_) (fun cdv A outer s H vs Q E hr h => ?_)
  · obtain ⟨x, C, dx, d, p, n, more, kvs, ws, ts, rfl, _⟩ := h
    rfl
  · obtain ⟨x, C, dx, d, p, n, more, kvs, ws, ts, rfl, c, hx, lm, hd, cn, lw, ⟨vs, hp, hts⟩, ⟨r, hr0⟩, q⟩ := h
    refine ⟨_, (pss_cons (ps_set (i := 2) sc_Tally_note.nd rfl (Or.inl rfl) (pe_ix ix_tup (pv 1) pe_int (fun _ _ => rfl)))
      (pss_cons (ps_fldaug (pv 0) pe_int in_add)
      (pss_one (ps_dput (hu_of hr) (pe_fld (pv 0) rfl) (pv 2) (pe_op op_add (pe_dget2 (hu_of hr) (pe_fld (pv 0) rfl) (pv 2) pe_int ⟨by rfl, by rfl, by rfl, by rfl⟩) pe_int) (by rfl))))), ?_⟩
    generalize wordOf ts = wd at hr0 q
    subst hr0
    match vs, hts with
    | v :: vs', .cons ⟨e, _⟩ _ =>
      subst e
      have xd : x ≠ d := ne_of hx hd (by intro z; cases z)
      refine ⟨_, rfl, p, _, 0, .str wd, rfl, rfl, SqT.of hp, atI_nat (j := 0) rfl, ?_⟩
      refine ⟨_, rfl, x, C, dx, _, .int n, rfl, hx, c.cl, c.nn, rfl, n, 1, rfl, rfl, dx, _, hx, by show more.length + 1 + 1 < 1000; omega, ?_⟩
      have hx1 : upd H x (.ins C dx (putF "notes" (.int (n + 1)) (TlF n d more))) x = some (.ins C dx (TlF (n + 1) d more)) := upd_same
      have hd1 : upd H x (.ins C dx (putF "notes" (.int (n + 1)) (TlF n d more))) d = some (.dK kvs) := (upd_ne xd.symm).trans hd
      have kp1 : Kp [x] H (upd H x (.ins C dx (putF "notes" (.int (n + 1)) (TlF n d more)))) := fun b o hb e => (upd_ne fun z => hb (by rw [z]; exact List.mem_singleton.mpr rfl)).trans e
      generalize upd H x (.ins C dx (putF "notes" (.int (n + 1)) (TlF n d more))) = H1 at hx1 hd1 kp1 ⊢
      refine ⟨_, rfl, x, C, dx, _, .ref d, rfl, hx1, c.cl, c.nw, rfl, d, rfl, .inl ⟨kvs, .inl hd1⟩, _, rfl, _, DGet.k (k := Sum.inr wd) hd1, ?_⟩
      have len := cn.len
      have val : ∃ i : Int, (valV kvs (Sum.inr wd)).getD (.int 0) = .int i ∧ i = (ws.count wd : Nat) := by
        rw [cn.val]
        by_cases m : wd ∈ ws
        · rw [if_pos m]
          exact ⟨_, rfl, rfl⟩
        · rw [if_neg m]
          exact ⟨0, rfl, by rw [List.count_eq_zero.mpr m]; rfl⟩
      obtain ⟨i, e1, e2⟩ := val
      refine ⟨i, 1, e1, rfl, _, rfl, x, C, dx, _, .ref d, rfl, hx1, c.cl, c.nw, rfl, _, rfl, d, _, rfl, DPut.k (k := Sum.inr wd) hd1 (Nat.lt_of_le_of_lt (Nat.le_trans len lw) (by rw [sizeLine_eq]; decide)), ?_⟩
      rw [e2]
      refine q _ ((upd_ne xd).trans hx1) upd_same fun b o hb e => ?_
      have h1 : b ∉ [x] := fun z => hb (List.mem_cons.mpr (.inl (List.mem_singleton.mp z)))
      have h2 : b ≠ d := fun z => hb (by rw [z]; exact List.mem_cons_of_mem _ List.mem_cons_self)
      exact (upd_ne h2).trans (kp1 b o h1 e)
def spTCounts (K : PySem.W.Frag) : Sp := fun vs H Q _ => ∃ (x C dx d : Addr) (n : Int) (more : List (Str × V)) (kvs : List (Key × V)), vs = [.ref x] ∧ TCls K C ∧ H x = some (.ins C dx (TlF n d more)) ∧ H d = some (.dK kvs) ∧ ∀ p, H p = none → Q (.ref p) (upd H p (.dK kvs))
theorem ok_Tally_counts (T : Txt K mg) : FnOk P w K mg base CX0 1 T.f_Tally_counts T.d_Tally_counts ["self"] (spTCounts K) := by
  refine T.F_Tally_counts.ok sc_Tally_counts (fun vs H Q E h => ?_) (fun cdv A outer s H vs Q E hr h => ?_)
  · obtain ⟨x, C, dx, d, n, more, kvs, rfl, _⟩ := h
    rfl
  · obtain ⟨x, C, dx, d, n, more, kvs, rfl, c, hx, hd, q⟩ := h
    exact ⟨_, (pss_one (ps_ret (pe_callTy call_dictD (by rfl) T.n_dict (by decide +kernel) (pa_cons (pe_fld (pv 0) rfl) pa_nil)))), _, rfl, x, C, dx, _, .ref d, rfl, hx, c.cl, c.nw, rfl, d, kvs, rfl, .inl hd, q⟩
end
/-! ### calls of a def with a star parameter -/
section
variable {X : Cx}
theorem pe_callR {CX : CXT} {k : Nat} {f : Addr} {sp : Sp} {E : XK} {x : Str} {p pos : Pos} {e : Expr} {es : List Expr} {t : TA}
    (F : FnR X.prog X.w X.K X.mg X.base CX k f sp) (hr : Room k X.A) (hg : Gl X x) (hm : X.mg x = some (.ref f)) (hk : PySem.W.keepIn X.K (.ref f) = true) (hx : Passes CX X E) (ha : PA X (e :: es) t)
    (hdb : (x == ("__debug__" : Str)) = false := by decide) (he : starEach (e :: es) X.env = (false, eval e X.env) :: starEach es X.env := by rfl)
    (hpl : (backTo pos (starEach es X.env)).any (·.1) = false := by rfl) :
    PE X (.Call (.Name x p) (e :: es) [] pos) (fun σ H Q => t σ H fun vs H1 => sp vs H1 Q E) :=
  ⟨fun pins s σ H Q I h => wpAny_Call_Name_kw (ld_glob I hg hm (PySem.W.callWith_K (h₀ := X.base) I.ok.mod.kin hk
    (thn (ha.run pos pins s σ H _ I h) fun us s1 ⟨vs, H1, I1, r, q⟩ => ⟨I1.kIn, wpAny_call (run_fnR F hr hx I1 r q)⟩) he hpl) hdb)⟩
theorem pe_callR0 {CX : CXT} {k : Nat} {f : Addr} {sp : Sp} {E : XK} {x : Str} {p pos : Pos}
    (F : FnR X.prog X.w X.K X.mg X.base CX k f sp) (hr : Room k X.A) (hg : Gl X x) (hm : X.mg x = some (.ref f)) (hk : PySem.W.keepIn X.K (.ref f) = true) (hx : Passes CX X E)
    (hdb : (x == ("__debug__" : Str)) = false := by decide) : PE X (.Call (.Name x p) [] [] pos) (fun _ H Q => sp [] H Q E) :=
  ⟨fun pins s σ H Q I h => wpAny_Call_Name_kw (ld_glob I hg hm (PySem.W.callWith_K0 I.kIn hk (wpAny_call (run_fnR (us := []) F hr hx I .nil h))) hdb)⟩
end
/-! ### added -/
section
variable {base : Heap} {K : PySem.W.Frag} {mg : Str → Option Value} {P : Program} {w : World}
def spAdded (K : PySem.W.Frag) : Sp := fun vs H Q _ => ∃ ps : List (Int × Int), PairsAt K H vs ps ∧ ps.length ≤ 1000 ∧ NewPair H (s1 ps) (s2 ps) Q
def spAddedB (K : PySem.W.Frag) : Sp := fun vs H Q _ => ∃ (t : Addr) (xs : List V) (ps : List (Int × Int)), vs = [.ref t] ∧ H t = some (.tup xs) ∧ PairsAt K H xs ps ∧ ps.length ≤ 1000 ∧ NewPair H (s1 ps) (s2 ps) Q
theorem ok_added (T : Txt K mg) : FnR P w K mg base CX0 1 T.f_added (spAdded K) := by
  obtain ⟨o1, o2, v1, v2, v3, a1, v4, v5, sl1, e1, r1, r2⟩ := T.F_added.ex
  have r1' := r1
  rw [e1] at r1'
  refine FnR.imp (StX.fn_star (ps := []) (pv := "pairs") (sp := spAddedB K) (N := ["pairs", "a", "b"]) r1' r2 sc_added StX.cxUp_none ?_ ?_) ?_
  · intro us rest hu
    match us, rest, hu with
    | [], [], _ => rfl
    | [], _ :: _, _ => rfl
  · intro A outer s H vs Q E hr h
    obtain ⟨t, xs, ps, rfl, ht, hp, hn, q⟩ := h
    refine ⟨_, PSs.nox (pss_one (ps_ret (pe_tup (pa_cons (pe_callB (cr_sum rfl) (by rfl) T.n_sum (by decide +kernel) (pa_cons (pe_lc (own := [("a", 1), ("b", 2)]) (g := (gTup K 2 (gCons (gName 1) (gCons (gName 2) gNil)))) (tt := tYes) (by rfl) sc_added.nd (pi_tup (pv 0)) (blkOk_by (own := [("a", 1), ("b", 2)]) (N := ["pairs", "a", "b"]) (sc := defScope s_added) (by decide +kernel)) (fun _ _ _ _ _ => (pg_tup (by rfl) (pgs_cons (pg_name (i := 1) sc_added.nd rfl (Or.inl rfl)) (pgs_cons (pg_name (i := 2) sc_added.nd rfl (Or.inl rfl)) pgs_nil)))) (fun _ _ _ _ _ => pts_nil) (fun _ _ _ _ _ => (pv 1))) pa_nil)) (pa_cons (pe_callB (cr_sum rfl) (by rfl) T.n_sum (by decide +kernel) (pa_cons (pe_lc (own := [("a", 1), ("b", 2)]) (g := (gTup K 2 (gCons (gName 1) (gCons (gName 2) gNil)))) (tt := tYes) (by rfl) sc_added.nd (pi_tup (pv 0)) (blkOk_by (own := [("a", 1), ("b", 2)]) (N := ["pairs", "a", "b"]) (sc := defScope s_added) (by decide +kernel)) (fun _ _ _ _ _ => (pg_tup (by rfl) (pgs_cons (pg_name (i := 1) sc_added.nd rfl (Or.inl rfl)) (pgs_cons (pg_name (i := 2) sc_added.nd rfl (Or.inl rfl)) pgs_nil)))) (fun _ _ _ _ _ => pts_nil) (fun _ _ _ _ _ => (pv 2))) pa_nil)) pa_nil))))), ?_⟩
    have hl := hp.len
    refine ⟨_, rfl, t, rfl, ⟨_, SqT.of ht⟩, fun D hD => lc_tup (K := K) (a := t) (xs := xs) (Pt H D (ps.map (·.1))) ⟨same_new hD, upd_same⟩ (fun i H' _ h => SqT.of (h.1 _ _ ht)) (fun i x H' hx hP => ?_) (fun H1 hP => ?_)⟩
    · obtain ⟨c, e, hc, u, rfl, hu⟩ := hp.get hx
      refine ⟨u, _, rfl, Evl.ex_t (show Evl.Ex H H' from hP.1) hu, rfl, .int c, [.int e], rfl, .int e, [], rfl, rfl, rfl, ⟨_, rfl, _, hP.2, pt_size (by rw [List.length_map]; exact hn), pt_step hP hD ?_⟩⟩
      rw [List.getElem?_map, hc]
      rfl
    obtain ⟨e1, f1⟩ := pt_end hP (by rw [List.length_map]; omega)
    refine ⟨D, _, rfl, SqL.of f1, ?_⟩
    refine ⟨_, rfl, t, rfl, ⟨_, SqT.of (e1 _ _ ht)⟩, fun D2 hD2 => lc_tup (K := K) (a := t) (xs := xs) (Pt H1 D2 (ps.map (·.2))) ⟨same_new hD2, upd_same⟩ (fun i H' _ h => SqT.of (h.1 _ _ (e1 _ _ ht))) (fun i x H' hx hP => ?_) (fun H2 hP => ?_)⟩
    · obtain ⟨c, e, hc, u, rfl, hu⟩ := hp.get hx
      refine ⟨u, _, rfl, Evl.ex_t (show Evl.Ex H H' from e1.trans hP.1) hu, rfl, .int c, [.int e], rfl, .int e, [], rfl, rfl, rfl, ⟨_, rfl, _, hP.2, pt_size (by rw [List.length_map]; exact hn), pt_step hP hD2 ?_⟩⟩
      rw [List.getElem?_map, hc]
      rfl
    obtain ⟨e2, f2⟩ := pt_end hP (by rw [List.length_map]; omega)
    exact ⟨D2, _, rfl, SqL.of f2, by show 2 ≤ sizeLine; decide, fun p hp => q p _ ((e1.trans e2).free hp) ((e1.trans e2).trans (same_new hp)) upd_same⟩
  · rintro vs H Q E ⟨ps, hp, hl, q⟩
    refine ⟨[], vs, rfl, rfl, Nat.le_of_lt (small1000 (by rw [hp.len]; exact hl)), fun p hpn => ⟨p, vs, ps, rfl, upd_same, hp.same (same_new hpn), hl, fun p' H' hp' sm h' => ?_⟩⟩
    exact q p' H' ((same_new hpn).free hp') ((same_new hpn).trans sm) h'
end
/-! ### scaled -/
section
variable {base : Heap} {K : PySem.W.Frag} {mg : Str → Option Value} {P : Program} {w : World}
def spScaled (K : PySem.W.Frag) : Sp := fun vs H Q _ => ∃ (v : V) (x y n : Int), vs = [v, .int n] ∧ PairAt K H v x y ∧ x.natAbs < 2 ^ 9000 ∧ y.natAbs < 2 ^ 9000 ∧ n.natAbs < 2 ^ 9000 ∧ NewPair H (x * n) (y * n) Q
theorem ok_scaled (T : Txt K mg) : FnOk P w K mg base CX0 1 T.f_scaled T.d_scaled ["pair", "number"] (spScaled K) := by
  refine T.F_scaled.ok sc_scaled (fun vs H Q E h => ?_) (fun cdv A outer s H vs Q E hr h => ?_)
  · obtain ⟨v, x, y, n, rfl, _⟩ := h
    rfl
  · obtain ⟨v, x, y, n, rfl, ⟨t, rfl, ht⟩, x1, y1, n1, q⟩ := h
    refine ⟨_, (pss_cons (ps_asg (pv 0) (pg_tup (by rfl) (pgs_cons (pg_name (i := 2) sc_scaled.nd rfl (Or.inl rfl)) (pgs_cons (pg_name (i := 3) sc_scaled.nd rfl (Or.inl rfl)) pgs_nil))))
      (pss_one (ps_ret (pe_tup (pa_cons (pe_op op_mulW (pv 2) (pv 1)) (pa_cons (pe_op op_mulW (pv 3) (pv 1)) pa_nil)))))), ?_⟩
    refine ⟨_, rfl, t, _, rfl, ht, rfl, .int x, [.int y], rfl, .int y, [], rfl, rfl, ?_⟩
    exact ⟨_, rfl, _, rfl, x, n, rfl, rfl, wide_mul x1 n1 (by decide) (by decide) (by decide), _, rfl, _, rfl, y, n, rfl, rfl, wide_mul y1 n1 (by decide) (by decide) (by decide), by show 2 ≤ sizeLine; decide, fun p hp => q p _ hp (same_new hp) upd_same⟩
end
/-! ### the cuts of a step, by the program -/
def cutN : List Itm → Int
  | [.str w, .sheet _, .str _, .pair _ _, .int n] => if w = "saw" then n else 0
  | [.str w, .sheet _, .str _, .int k, .int n] => if w = "split" then (k - 1) * n else 0
  | _ => 0
def cutOf : List Itm → Int × Int
  | [.str w, .sheet x, .str s, .pair _ _, .int n] => if w = "saw" then ((sideOf (turnS x) s).1 * n, (sideOf (turnS x) s).2 * n) else (0, 0)
  | [.str w, .sheet x, .str s, .int k, .int n] => if w = "split" then ((sideOf (turnS x) s).1 * ((k - 1) * n), (sideOf (turnS x) s).2 * ((k - 1) * n)) else (0, 0)
  | _ => (0, 0)
def bdB (ts : List Itm) : Prop := ∀ t ∈ ts, ItB t
theorem side_b {x : Sh} {s : Str} (h : ItB (.sheet x)) : (sideOf (turnS x) s).1.natAbs ≤ 10 ^ 7 ∧ (sideOf (turnS x) s).2.natAbs ≤ 10 ^ 7 := by
  unfold ItB at h
  unfold sideOf turnS
  by_cases z : s = "across"
  · simp only [if_pos z]
    exact h.2
  · simp only [if_neg z]
    exact h.1
theorem good_shaped {ts : List Itm} (h : stepB ts = true) : Shaped ts := by
  unfold stepB at h
  rw [Bool.and_eq_true] at h
  exact shape_inv h.1
section
variable {base : Heap} {K : PySem.W.Frag} {mg : Str → Option Value} {P : Program} {w : World}
theorem asM_of {n q : Str} {st : Stmt} {f : Addr} {d : FuncData} (F : Fun K n q st f d) (fn : PySem.W.isFn K (.ref f) = true) : AsM K f := by
  obtain ⟨o1, o2, v1, v2, v3, a1, v4, v5, sl1, e1, r1, r2⟩ := F.ex
  exact ⟨beq_iff_eq.mp fn, by unfold PySem.W.fnIn; rw [r1]⟩
def spCuts : Sp := fun vs H Q _ => ∃ (p : Addr) (ts : List Itm), vs = [.ref p] ∧ StepAt H p ts ∧ Shaped ts ∧ bdB ts ∧ Q (.int (cutN ts)) H
theorem ok_cuts_of (T : Txt K mg) : FnOk P w K mg base CX0 1 T.f_cuts_of T.d_cuts_of ["step"] spCuts := by
  refine T.F_cuts_of.ok sc_cuts_of (fun vs H Q E h => ?_) (fun cdv A outer s H vs Q E hr h => ?_)
  · obtain ⟨p, ts, rfl, _⟩ := h
    rfl
  · obtain ⟨p, ts, rfl, ⟨vs, hp, hts⟩, hs, hb, q⟩ := h
    refine ⟨_, (pss_cons (ps_if (pt_cmpR op_eq (pe_ix ix_tup (pv 0) pe_int (fun _ _ => rfl)) pe_str (nomark _)) (pss_one (ps_ret (pe_ix ix_tup (pv 0) (pe_un un_neg pe_int) (fun _ _ => rfl)))) pss_nil)
      (pss_cons (ps_if (pt_cmpR op_eq (pe_ix ix_tup (pv 0) pe_int (fun _ _ => rfl)) pe_str (nomark _)) (pss_one (ps_ret (pe_op op_mul (pe_op op_sub (pe_ix ix_tup (pv 0) pe_int (fun _ _ => rfl)) pe_int) (pe_ix ix_tup (pv 0) (pe_un un_neg pe_int) (fun _ _ => rfl))))) pss_nil)
      (pss_one (ps_ret pe_int)))), ?_⟩
    cases hs with
    | @saw x sd a b c hsd hc =>
      match vs, hts with
      | [v0, v1, v2, v3, v4], .cons h0 (.cons h1 (.cons h2 (.cons h3 (.cons h4 .nil)))) =>
        obtain ⟨rfl, _⟩ := h0
        cases (show v4 = .int c from h4)
        exact ⟨_, rfl, p, _, 0, _, rfl, rfl, SqT.of hp, atI_nat (j := 0) rfl, rfl, true, by decide +kernel, iteT ⟨_, rfl, 1, rfl, p, _, -1, .int c, rfl, rfl, SqT.of hp, atI_last [.str "saw", v1, v2, v3] (.int c), q⟩⟩
    | @split x sd n c hsd hn hc =>
      match vs, hts with
      | [v0, v1, v2, v3, v4], .cons h0 (.cons h1 (.cons h2 (.cons h3 (.cons h4 .nil)))) =>
        obtain ⟨rfl, _⟩ := h0
        cases (show v3 = .int n from h3)
        cases (show v4 = .int c from h4)
        have bn : ItB (.int n) := hb _ (by simp)
        have bc : ItB (.int c) := hb _ (by simp)
        unfold ItB at bn bc
        refine ⟨_, rfl, p, _, 0, _, rfl, rfl, SqT.of hp, atI_nat (j := 0) rfl, rfl, false, by decide +kernel, iteF ?_⟩
        refine ⟨_, rfl, p, _, 0, _, rfl, rfl, SqT.of hp, atI_nat (j := 0) rfl, rfl, true, by decide +kernel, iteT ?_⟩
        exact ⟨_, rfl, p, _, 3, .int n, rfl, rfl, SqT.of hp, atI_nat (j := 3) rfl, n, 1, rfl, rfl, _, rfl, 1, rfl, p, _, -1, .int c, rfl, rfl, SqT.of hp, atI_last [.str "split", v1, v2, .int n] (.int c), n - 1, c, rfl, rfl, .inl ⟨by omega, by omega⟩, q⟩
    | @glue x y sd c hsd hc =>
      match vs, hts with
      | [v0, v1, v2, v3, v4], .cons h0 (.cons h1 (.cons h2 (.cons h3 (.cons h4 .nil)))) =>
        obtain ⟨rfl, _⟩ := h0
        refine ⟨_, rfl, p, _, 0, _, rfl, rfl, SqT.of hp, atI_nat (j := 0) rfl, rfl, false, by decide +kernel, iteF ?_⟩
        exact ⟨_, rfl, p, _, 0, _, rfl, rfl, SqT.of hp, atI_nat (j := 0) rfl, rfl, false, by decide +kernel, iteF q⟩
    | @stack x sd n c hsd hn hc =>
      match vs, hts with
      | [v0, v1, v2, v3, v4], .cons h0 (.cons h1 (.cons h2 (.cons h3 (.cons h4 .nil)))) =>
        obtain ⟨rfl, _⟩ := h0
        refine ⟨_, rfl, p, _, 0, _, rfl, rfl, SqT.of hp, atI_nat (j := 0) rfl, rfl, false, by decide +kernel, iteF ?_⟩
        exact ⟨_, rfl, p, _, 0, _, rfl, rfl, SqT.of hp, atI_nat (j := 0) rfl, rfl, false, by decide +kernel, iteF q⟩
    | @turn x c hc =>
      match vs, hts with
      | [v0, v1, v2], .cons h0 (.cons h1 (.cons h2 .nil)) =>
        obtain ⟨rfl, _⟩ := h0
        refine ⟨_, rfl, p, _, 0, _, rfl, rfl, SqT.of hp, atI_nat (j := 0) rfl, rfl, false, by decide +kernel, iteF ?_⟩
        exact ⟨_, rfl, p, _, 0, _, rfl, rfl, SqT.of hp, atI_nat (j := 0) rfl, rfl, false, by decide +kernel, iteF q⟩
theorem b64 {x : Int} (h : x.natAbs ≤ 10 ^ 7) : x.natAbs < 2 ^ 9000 := w100 (Nat.lt_of_le_of_lt h (by decide))
def spSawn : Sp := fun vs H Q _ => ∃ (p : Addr) (ts : List Itm), vs = [.ref p] ∧ StepAt H p ts ∧ Shaped ts ∧ bdB ts ∧ ∀ r H', Same H H' → H' r = some (.tup [.int (cutOf ts).1, .int (cutOf ts).2]) → Q (.ref r) H'
theorem ok_sawn_by (T : Txt K mg) : FnOk P w K mg base CX0 2 T.f_sawn_by T.d_sawn_by ["step"] spSawn := by
  refine T.F_sawn_by.ok sc_sawn_by (fun vs H Q E h => ?_) (fun cdv A outer s H vs Q E hr h => ?_)
  · obtain ⟨p, ts, rfl, _⟩ := h
    rfl
  · obtain ⟨p, ts, rfl, hp, hs, hb, q⟩ := h
    refine ⟨_, (pss_cons (ps_set (i := 1) sc_sawn_by.nd rfl (Or.inl rfl) (pe_call (ok_cuts_of T) (hr.mono (by decide)) (by rfl) T.g_cuts_of T.F_cuts_of.kp T.b_cuts_of .nil pass0 (pa_cons (pv 0) pa_nil)))
      (pss_cons (ps_if (pt_cmpR op_eq (pv 1) pe_int (nomark _)) (pss_one (ps_ret (pe_tup (pa_cons pe_int (pa_cons pe_int pa_nil))))) pss_nil)
      (pss_one (ps_ret (pe_call (ok_scaled T) (hr.mono (by decide)) (by rfl) T.g_scaled T.F_scaled.kp T.b_scaled .nil pass0 (pa_cons (pe_call (ok_side_of T) (hr.mono (by decide)) (by rfl) T.g_side_of T.F_side_of.kp T.b_side_of .nil pass0 (pa_cons (pe_call (ok_turned T) (hr.mono (by decide)) (by rfl) T.g_turned T.F_turned.kp T.b_turned .nil pass0 (pa_cons (pe_ix ix_tup (pv 0) pe_int (fun _ _ => rfl)) pa_nil)) (pa_cons (pe_ix ix_tup (pv 0) pe_int (fun _ _ => rfl)) pa_nil))) (pa_cons (pv 1) pa_nil))))))), ?_⟩
    refine ⟨_, rfl, p, ts, rfl, hp, hs, hb, ?_⟩
    obtain ⟨vs, hv, hts⟩ := hp
    cases hs with
    | @saw x sd a b c hsd hc =>
      match vs, hts with
      | [v0, v1, v2, v3, v4], .cons h0 (.cons h1 (.cons h2 (.cons h3 (.cons h4 .nil)))) =>
        obtain ⟨px, rfl, hx⟩ := h1
        obtain ⟨rfl, _⟩ := h2
        have e : cutN [.str "saw", .sheet x, .str sd, .pair a b, .int c] = c := by unfold cutN; exact if_pos rfl
        have e2 : cutOf [.str "saw", .sheet x, .str sd, .pair a b, .int c] = ((sideOf (turnS x) sd).1 * c, (sideOf (turnS x) sd).2 * c) := by unfold cutOf; exact if_pos rfl
        rw [e2] at q
        rw [e]
        obtain ⟨s1, s2⟩ := side_b (s := sd) (hb (.sheet x) (by simp))
        have bc : ItB (.int c) := hb _ (by simp)
        unfold ItB at bc
        refine ⟨_, rfl, rfl, false, congrArg V.bl (by rw [dV', decide_eq_false (by omega)]), iteF ?_⟩
        refine ⟨_, rfl, p, _, 1, .ref px, rfl, rfl, SqT.of hv, atI_nat (j := 1) rfl, px, x, rfl, hx, fun y H1 ny k1 hy => ?_⟩
        refine ⟨_, rfl, p, _, 2, .str sd, rfl, rfl, SqT.of (k1 _ _ hv), atI_nat (j := 2) rfl, y, turnS x, sd, rfl, hy, fun r hr0 => ?_⟩
        exact ⟨_, rfl, .ref r, _, _, c, rfl, ⟨r, rfl, SqT.of hr0⟩, b64 s1, b64 s2, b64 (by omega), fun t H2 nt k2 ht => q t H2 (k1.trans k2) ht⟩
    | @split x sd n c hsd hn hc =>
      match vs, hts with
      | [v0, v1, v2, v3, v4], .cons h0 (.cons h1 (.cons h2 (.cons h3 (.cons h4 .nil)))) =>
        obtain ⟨px, rfl, hx⟩ := h1
        obtain ⟨rfl, _⟩ := h2
        have e : cutN [.str "split", .sheet x, .str sd, .int n, .int c] = (n - 1) * c := by unfold cutN; exact if_pos rfl
        have e2 : cutOf [.str "split", .sheet x, .str sd, .int n, .int c] = ((sideOf (turnS x) sd).1 * ((n - 1) * c), (sideOf (turnS x) sd).2 * ((n - 1) * c)) := by unfold cutOf; exact if_pos rfl
        rw [e2] at q
        rw [e]
        obtain ⟨s1, s2⟩ := side_b (s := sd) (hb (.sheet x) (by simp))
        have bn : ItB (.int n) := hb _ (by simp)
        have bc : ItB (.int c) := hb _ (by simp)
        unfold ItB at bc bn
        have pos : 0 < (n - 1) * c := Int.mul_pos (by omega) (by omega)
        have bnd : ((n - 1) * c).natAbs ≤ 10 ^ 7 := by
          rw [Int.natAbs_mul]
          have := Nat.mul_le_mul (show (n - 1).natAbs ≤ 101 by omega) bc
          omega
        generalize (n - 1) * c = m at q pos bnd ⊢
        refine ⟨_, rfl, rfl, false, congrArg V.bl (by rw [dV', decide_eq_false (by omega)]), iteF ?_⟩
        refine ⟨_, rfl, p, _, 1, .ref px, rfl, rfl, SqT.of hv, atI_nat (j := 1) rfl, px, x, rfl, hx, fun y H1 ny k1 hy => ?_⟩
        refine ⟨_, rfl, p, _, 2, .str sd, rfl, rfl, SqT.of (k1 _ _ hv), atI_nat (j := 2) rfl, y, turnS x, sd, rfl, hy, fun r hr0 => ?_⟩
        exact ⟨_, rfl, .ref r, _, _, m, rfl, ⟨r, rfl, SqT.of hr0⟩, b64 s1, b64 s2, b64 bnd, fun t H2 nt k2 ht => q t H2 (k1.trans k2) ht⟩
    | @glue x y sd c hsd hc =>
      exact ⟨_, rfl, rfl, true, rfl, iteT ⟨by show 2 ≤ sizeLine; decide, fun r nr => q r _ (same_new nr) upd_same⟩⟩
    | @stack x sd n c hsd hn hc =>
      have e : cutN [.str "stack", .sheet x, .str sd, .int n, .int c] = 0 := by unfold cutN; exact if_neg (by decide +kernel)
      have e2 : cutOf [.str "stack", .sheet x, .str sd, .int n, .int c] = (0, 0) := by unfold cutOf; exact if_neg (by decide +kernel)
      rw [e2] at q
      rw [e]
      exact ⟨_, rfl, rfl, true, rfl, iteT ⟨by show 2 ≤ sizeLine; decide, fun r nr => q r _ (same_new nr) upd_same⟩⟩
    | @turn x c hc =>
      exact ⟨_, rfl, rfl, true, rfl, iteT ⟨by show 2 ≤ sizeLine; decide, fun r nr => q r _ (same_new nr) upd_same⟩⟩
end
/-! ### journals -/
theorem Kp.refl {A : List Addr} (H : Hp) : Kp A H H := fun _ _ _ e => e
theorem Kp.sub {A B : List Addr} {H H' : Hp} (k : Kp A H H') (s : ∀ q ∈ A, q ∈ B) : Kp B H H' := fun q o n e => k q o (fun z => n (s q z)) e
theorem Kp.trans {A : List Addr} {H H1 H2 : Hp} (k : Kp A H H1) (l : Kp A H1 H2) : Kp A H H2 := fun q o n e => l q o n (k q o n e)
theorem Kp.same {A : List Addr} {H H1 H2 : Hp} (k : Kp A H H1) (s : Same H1 H2) : Kp A H H2 := fun q o n e => s q o (k q o n e)
theorem Same.kp {A : List Addr} {H H1 : Hp} (s : Same H H1) : Kp A H H1 := fun q o _ e => s q o e
section
variable {base : Heap} {K : PySem.W.Frag} {mg : Str → Option Value} {w : World}
def JC (T : Txt K mg) (C : Addr) : Prop := C = T.C_Journal ∨ C = T.C_CutTally
theorem JC.cls {T : Txt K mg} {C : Addr} (h : JC T C) : TCls K C := by
  rcases h with rfl | rfl
  · exact clsJ T
  · exact clsC T
theorem JC.init {T : Txt K mg} {C : Addr} (h : JC T C) : Above K C T.C_Journal "__init__" T.f_Tally_init := by
  rcases h with rfl | rfl
  · exact ⟨T.su_JJi, T.mr_JJ⟩
  · exact ⟨T.su_CJi, T.mr_CJ⟩
theorem JC.note {T : Txt K mg} {C : Addr} (h : JC T C) : Above K C T.C_Journal "note" T.f_Tally_note := by
  rcases h with rfl | rfl
  · exact ⟨T.su_JJn, T.mr_JJ⟩
  · exact ⟨T.su_CJn, T.mr_CJ⟩
theorem bs_Journal_init (T : Txt K mg) : Binds K T.S_Journal_init.fd ["self"] [] := .all fun us hl => match us, hl with | [_], _ => rfl
theorem bs_Journal_note (T : Txt K mg) : Binds K T.S_Journal_note.fd ["self", "step"] [] := .all fun us hl => match us, hl with | [_, _], _ => rfl
theorem bs_CutTally_init (T : Txt K mg) : Binds K T.S_CutTally_init.fd ["self"] [] := .all fun us hl => match us, hl with | [_], _ => rfl
theorem bs_CutTally_note (T : Txt K mg) : Binds K T.S_CutTally_note.fd ["self", "step"] [] := .all fun us hl => match us, hl with | [_, _], _ => rfl
theorem bs_CutTally_told (T : Txt K mg) : Binds K T.S_CutTally_told.fd ["self"] [] := .all fun us hl => match us, hl with | [_], _ => rfl
def spJInit (T : Txt K mg) : Sp := fun vs H Q _ => ∃ (x C dx : Addr), vs = [.ref x] ∧ H x = some (.ins C dx []) ∧ JC T C ∧ ∀ d l H', H d = none → H l = none → H' d = some (.dK []) → H' l = some (.lst []) → H' x = some (.ins C dx (TlF 0 d [("kept", .ref l)])) → Kp [x] H H' → Q .non H'
theorem ok_Journal_init (T : Txt K mg) : FnOk PySem.Challenge.pw_grainyard_k52_tallies_and_journals w K mg base CX0 3 T.S_Journal_init.f T.S_Journal_init.fd ["self"] (spJInit T) := by
  refine sup_fn0 (i := 0) (j := 1) T.S_Journal_init sc_Journal_init (fun vs H Q E h => ?_) (by rw [T.S_Journal_init.har]; rfl) rfl rfl (bare_fn (ok_Tally_init T) T.b_Tally_init) (asM_of T.F_Tally_init T.M_Tally.fn) (by decide) (by decide) (fun A outer s H vs Q E hr h => ?_)
  · obtain ⟨x, C, dx, rfl, _⟩ := h
    rfl
  · obtain ⟨x, C, dx, rfl, hx, jc, q⟩ := h
    refine ⟨_, (pss_one (ps_fld (pv 0) (pe_lst pa_nil) rfl)), x, C, rfl, rfl, ⟨_, _, hx⟩, jc.init, ?_⟩
    refine ⟨x, C, dx, rfl, hx, jc.cls, fun d G nd hd hx1 kp => ?_⟩
    refine ⟨Nat.zero_le _, fun l nl => ⟨_, rfl, x, C, dx, _, rfl, (upd_ne (ne_of_none hx1 nl)).trans hx1, jc.cls.cl, jc.cls.nk, by show 2 < 1000; decide, ?_⟩⟩
    have lx := ne_of_none hx1 nl
    have ld := ne_of_none hd nl
    have dxn : d ≠ x := ne_of hd hx1 (by intro z; cases z)
    have nl0 : H l = none := by
      cases z : H l with
      | none => rfl
      | some o =>
        have := kp l o (fun y => lx.symm (List.mem_singleton.mp y)) z
        rw [nl] at this
        cases this
    refine q d l _ nd nl0 ((upd_ne dxn).trans ((upd_ne ld).trans hd)) ((upd_ne lx.symm).trans upd_same) upd_same fun b o hb e => ?_
    have hbx : b ≠ x := fun z => hb (by rw [z]; exact List.mem_singleton.mpr rfl)
    rw [upd_ne hbx, upd_ne (ne_of_none e nl0)]
    exact kp b o hb e
def spJNote (T : Txt K mg) : Sp := fun vs H Q _ => ∃ (x C dx d l p : Addr) (n : Int) (more : List (Str × V)) (kvs : List (Key × V)) (ws : List Str) (ts : List Itm) (as : List Addr), vs = [.ref x, .ref p] ∧ JC T C ∧ H x = some (.ins C dx (TlF n d (("kept", .ref l) :: more))) ∧ more.length ≤ 1 ∧ H d = some (.dK kvs) ∧ CntOk kvs ws ∧ ws.length ≤ 900 ∧
  H l = some (.lst (as.map V.ref)) ∧ as.length ≤ 900 ∧ StepAt H p ts ∧ (∃ r, ts = .str (wordOf ts) :: r) ∧
  ∀ H', H' x = some (.ins C dx (TlF (n + 1) d (("kept", .ref l) :: more))) → H' d = some (.dK (putK kvs (.inr (wordOf ts)) (.int ((ws.count (wordOf ts) : Nat) + 1)))) → H' l = some (.lst ((as ++ [p]).map V.ref)) → Kp [x, d, l] H H' → Q .non H'
theorem ok_Journal_note (T : Txt K mg) : FnOk PySem.Challenge.pw_grainyard_k52_tallies_and_journals w K mg base CX0 3 T.S_Journal_note.f T.S_Journal_note.fd ["self", "step"] (spJNote T) := by
  refine sup_fn1 (i := 0) (j := 2) T.S_Journal_note sc_Journal_note (fun vs H Q E h => ?_) (by rw [T.S_Journal_note.har]; rfl) rfl rfl (bare_fn (ok_Tally_note T) T.b_Tally_note) (asM_of T.F_Tally_note T.m_Tally_note.fn) (by decide) (by decide) (fun A outer s H vs Q E hr h => ?_)
  · obtain ⟨x, C, dx, d, l, p, n, more, kvs, ws, ts, as, rfl, _⟩ := h
    rfl
  · obtain ⟨x, C, dx, d, l, p, n, more, kvs, ws, ts, as, rfl, jc, hx, lm, hd, cn, lw, hl, la, hp, hw, q⟩ := h
    refine ⟨_, _, (pss_one (ps_expr (pe_bm PySem.F.plainAttrs_list PySem.F.slot_list_append PySem.F.type_list_append mt_append (pe_fld (pv 0) rfl) (pa_cons (pv 1) pa_nil)))), pa_cons (pv 1) pa_nil, x, C, rfl, rfl, ⟨_, _, hx⟩, jc.note, ?_⟩
    refine ⟨.ref p, rfl, x, C, dx, d, p, n, _, kvs, ws, ts, rfl, jc.cls, hx, by rw [List.length_cons]; omega, hd, cn, lw, hp, hw, fun G hx1 hd1 kp => ?_⟩
    have lx : l ≠ x := ne_of hl hx (by intro z; cases z)
    have ld : l ≠ d := ne_of hl hd (by intro z; cases z)
    have hl1 := kp l _ (by simp [lx, ld]) hl
    refine ⟨_, rfl, x, C, dx, _, .ref l, rfl, hx1, jc.cls.cl, jc.cls.nk, rfl, .inl ⟨rfl, _, SqL.of hl1⟩, _, rfl, l, _, .ref p, rfl, rfl, hl1, ?_, ?_⟩
    · rw [List.length_map]
      exact Nat.lt_of_le_of_lt la (by rw [sizeLine_eq]; decide)
    · refine q _ ((upd_ne lx.symm).trans hx1) ((upd_ne ld.symm).trans hd1) (by rw [upd_same, List.map_append]; rfl) fun b o hb e => ?_
      simp only [List.mem_cons, List.not_mem_nil, or_false, not_or] at hb
      exact (upd_ne hb.2.2).trans (kp b o (by simp [hb.1, hb.2.1]) e)
def spJTold (T : Txt K mg) : Sp := fun vs H Q _ => ∃ (x C dx d l : Addr) (n : Int) (more : List (Str × V)) (as : List Addr), vs = [.ref x] ∧ JC T C ∧ H x = some (.ins C dx (TlF n d (("kept", .ref l) :: more))) ∧ H l = some (.lst (as.map V.ref)) ∧ ∀ p, H p = none → Q (.ref p) (upd H p (.lst (as.map V.ref)))
theorem ok_Journal_told (T : Txt K mg) : FnOk PySem.Challenge.pw_grainyard_k52_tallies_and_journals w K mg base CX0 1 T.f_Journal_told T.d_Journal_told ["self"] (spJTold T) := by
  refine T.F_Journal_told.ok sc_Journal_told (fun vs H Q E h => ?_) (fun cdv A outer s H vs Q E hr h => ?_)
  · obtain ⟨x, C, dx, d, l, n, more, as, rfl, _⟩ := h
    rfl
  · obtain ⟨x, C, dx, d, l, n, more, as, rfl, jc, hx, hl, q⟩ := h
    exact ⟨_, (pss_one (ps_ret (pe_callTy call_list_of (by rfl) T.n_list (by decide +kernel) (pa_cons (pe_fld (pv 0) rfl) pa_nil)))), _, rfl, x, C, dx, _, .ref l, rfl, hx, jc.cls.cl, jc.cls.nk, rfl, l, _, rfl, .inl (SqL.of hl), q⟩
/-! ### the tally of cuts -/
def spCInit (T : Txt K mg) : Sp := fun vs H Q _ => ∃ (x dx : Addr), vs = [.ref x] ∧ H x = some (.ins T.C_CutTally dx []) ∧ ∀ d l t H', H d = none → H l = none → H' d = some (.dK []) → H' l = some (.lst []) → H' t = some (.tup [.int 0, .int 0]) → H' x = some (.ins T.C_CutTally dx (TlF 0 d [("kept", .ref l), ("sawn", .ref t)])) → Kp [x] H H' → Q .non H'
theorem ok_CutTally_init (T : Txt K mg) : FnOk PySem.Challenge.pw_grainyard_k52_tallies_and_journals w K mg base CX0 4 T.S_CutTally_init.f T.S_CutTally_init.fd ["self"] (spCInit T) := by
  refine sup_fn0 (i := 0) (j := 1) T.S_CutTally_init sc_CutTally_init (fun vs H Q E h => ?_) (by rw [T.S_CutTally_init.har]; rfl) rfl rfl (bare_fn (ok_Journal_init T) (bs_Journal_init T)) T.S_Journal_init.asM (by decide) (by decide) (fun A outer s H vs Q E hr h => ?_)
  · obtain ⟨x, dx, rfl, _⟩ := h
    rfl
  · obtain ⟨x, dx, rfl, hx, q⟩ := h
    refine ⟨_, (pss_one (ps_fld (pv 0) (pe_tup (pa_cons pe_int (pa_cons pe_int pa_nil))) rfl)), x, T.C_CutTally, rfl, rfl, ⟨_, _, hx⟩, ⟨T.su_CCi, T.mr_CC⟩, ?_⟩
    refine ⟨x, T.C_CutTally, dx, rfl, hx, .inr rfl, fun d l G nd nl hd hl hx1 kp => ?_⟩
    refine ⟨by show 2 ≤ sizeLine; decide, fun t nt => ⟨_, rfl, x, T.C_CutTally, dx, _, rfl, (upd_ne (ne_of_none hx1 nt)).trans hx1, (clsC T).cl, (clsC T).ns, by show 3 < 1000; decide, ?_⟩⟩
    have tx := ne_of_none hx1 nt
    have dxn : d ≠ x := ne_of hd hx1 (by intro z; cases z)
    have lxn : l ≠ x := ne_of hl hx1 (by intro z; cases z)
    refine q d l t _ nd nl ((upd_ne dxn).trans ((upd_ne (ne_of_none hd nt)).trans hd)) ((upd_ne lxn).trans ((upd_ne (ne_of_none hl nt)).trans hl)) ((upd_ne tx.symm).trans upd_same) upd_same fun b o hb e => ?_
    have hbx : b ≠ x := fun z => hb (by rw [z]; exact List.mem_singleton.mpr rfl)
    have e1 := kp b o hb e
    rw [upd_ne hbx, upd_ne (ne_of_none e1 nt)]
    exact e1
def spCNote (T : Txt K mg) : Sp := fun vs H Q _ => ∃ (x dx d l t p : Addr) (n a b : Int) (kvs : List (Key × V)) (ws : List Str) (ts : List Itm) (as : List Addr), vs = [.ref x, .ref p] ∧ H x = some (.ins T.C_CutTally dx (TlF n d [("kept", .ref l), ("sawn", .ref t)])) ∧ H d = some (.dK kvs) ∧ CntOk kvs ws ∧ ws.length ≤ 900 ∧
  H l = some (.lst (as.map V.ref)) ∧ as.length ≤ 900 ∧ H t = some (.tup [.int a, .int b]) ∧ StepAt H p ts ∧ (∃ r, ts = .str (wordOf ts) :: r) ∧ Shaped ts ∧ bdB ts ∧
  ∀ t' H', H' x = some (.ins T.C_CutTally dx (TlF (n + 1) d [("kept", .ref l), ("sawn", .ref t')])) → H' d = some (.dK (putK kvs (.inr (wordOf ts)) (.int ((ws.count (wordOf ts) : Nat) + 1)))) → H' l = some (.lst ((as ++ [p]).map V.ref)) → H' t' = some (.tup [.int (a + (cutOf ts).1), .int (b + (cutOf ts).2)]) → Kp [x, d, l] H H' → Q .non H'
theorem ok_CutTally_note (T : Txt K mg) : FnOk PySem.Challenge.pw_grainyard_k52_tallies_and_journals w K mg base CX0 5 T.S_CutTally_note.f T.S_CutTally_note.fd ["self", "step"] (spCNote T) := by
  refine sup_fn1 (i := 0) (j := 2) T.S_CutTally_note sc_CutTally_note (fun vs H Q E h => ?_) (by rw [T.S_CutTally_note.har]; rfl) rfl rfl (bare_fn (ok_Journal_note T) (bs_Journal_note T)) T.S_Journal_note.asM (by decide) (by decide) (fun A outer s H vs Q E hr h => ?_)
  · obtain ⟨x, dx, d, l, t, p, n, a, b, kvs, ws, ts, as, rfl, _⟩ := h
    rfl
  · obtain ⟨x, dx, d, l, t, p, n, a, b, kvs, ws, ts, as, rfl, hx, hd, cn, lw, hl, la, ht, hp, hw, hs, hb, q⟩ := h
    refine ⟨_, _, (pss_one (ps_fld (pv 0) (pe_callR (ok_added T) (hr.mono (by decide)) (by rfl) T.g_added T.F_added.kp pass0 (pa_cons (pe_fld (pv 0) rfl) (pa_cons (pe_call (ok_sawn_by T) (hr.mono (by decide)) (by rfl) T.g_sawn_by T.F_sawn_by.kp T.b_sawn_by .nil pass0 (pa_cons (pv 1) pa_nil)) pa_nil))) rfl)), pa_cons (pv 1) pa_nil, x, T.C_CutTally, rfl, rfl, ⟨_, _, hx⟩, ⟨T.su_CCn, T.mr_CC⟩, ?_⟩
    refine ⟨.ref p, rfl, x, T.C_CutTally, dx, d, l, p, n, _, kvs, ws, ts, as, rfl, .inr rfl, hx, by simp, hd, cn, lw, hl, la, hp, hw, fun G hx1 hd1 hl1 kp => ?_⟩
    have tupG : ∀ y xs, H y = some (.tup xs) → G y = some (.tup xs) := fun y xs e => kp y _ (by
      have n1 : y ≠ x := ne_of e hx (by intro z; cases z)
      have n2 : y ≠ d := ne_of e hd (by intro z; cases z)
      have n3 : y ≠ l := ne_of e hl (by intro z; cases z)
      simp [n1, n2, n3]) e
    refine ⟨_, rfl, x, T.C_CutTally, dx, _, .ref t, rfl, hx1, (clsC T).cl, (clsC T).ns, rfl, _, rfl, p, ts, rfl, hp.mono tupG, hs, hb, fun r G1 k1 hr1 => ?_⟩
    refine ⟨[(a, b), ((cutOf ts).1, (cutOf ts).2)], .cons ⟨t, rfl, SqT.of (k1 _ _ (tupG _ _ ht))⟩ (.cons ⟨r, rfl, SqT.of hr1⟩ .nil), by simp, fun t' G2 nt k2 ht2 => ?_⟩
    have e1 : s1 [(a, b), ((cutOf ts).1, (cutOf ts).2)] = a + (cutOf ts).1 := by simp [s1]
    have e2 : s2 [(a, b), ((cutOf ts).1, (cutOf ts).2)] = b + (cutOf ts).2 := by simp [s2]
    rw [e1, e2] at ht2
    have kk := k1.trans k2
    have hx2 := kk _ _ hx1
    refine ⟨_, rfl, x, T.C_CutTally, dx, _, rfl, hx2, (clsC T).cl, (clsC T).ns, by show 4 < 1000; decide, ?_⟩
    have tx : t' ≠ x := ne_of ht2 hx2 (by intro z; cases z)
    have dxn : d ≠ x := ne_of hd hx (by intro z; cases z)
    have lxn : l ≠ x := ne_of hl hx (by intro z; cases z)
    refine q t' _ upd_same ((upd_ne dxn).trans (kk _ _ hd1)) ((upd_ne lxn).trans (kk _ _ hl1)) ((upd_ne tx).trans ht2) fun y o hy e => ?_
    have hyx : y ≠ x := fun z => hy (by rw [z]; exact List.mem_cons_self)
    exact (upd_ne hyx).trans (kk _ _ (kp y o hy e))
theorem ok_CutTally_told (T : Txt K mg) : FnOk PySem.Challenge.pw_grainyard_k52_tallies_and_journals w K mg base CX0 3 T.S_CutTally_told.f T.S_CutTally_told.fd ["self"] (fun vs H Q E => (∃ x dx fs, vs = [.ref x] ∧ H x = some (.ins T.C_CutTally dx fs)) ∧ spJTold T vs H Q E) := by
  refine sup_fnR (i := 0) (j := 1) T.S_CutTally_told sc_CutTally_told (fun vs H Q E h => ?_) (by rw [T.S_CutTally_told.har]; rfl) rfl rfl (bare_fn (ok_Journal_told T) T.b_Journal_told) (asM_of T.F_Journal_told T.m_Journal_told.fn) (by decide) (by decide) (fun H vs Q E h => ?_)
  · obtain ⟨⟨x, dx, fs, rfl, _⟩, _⟩ := h
    rfl
  · obtain ⟨⟨x, dx, fs, rfl, hx⟩, x', C, dx', d, l, n, more, as, e, r⟩ := h
    cases e
    exact ⟨x, T.C_CutTally, rfl, rfl, ⟨_, _, hx⟩, ⟨T.su_CCt, T.mr_CC⟩, x, C, dx', d, l, n, more, as, rfl, r⟩
end
/-! ### the count of a text in a list of texts -/
theorem cnt_strs (k : Str) : ∀ ss : List Str, PySem.Spec.countIn (.str k) (ss.map PyData.str) = ((ss.count k : Nat) : Int)
  | [] => rfl
  | x :: r => by
    have ih := cnt_strs k r
    simp only [List.map_cons, PySem.Spec.countIn, ih, List.count_cons]
    by_cases z : x = k
    · subst z
      simp [PySem.Spec.same]
      omega
    · have z' : (x == k) = false := beq_eq_false_iff_ne.mpr z
      simp [PySem.Spec.same, z, z']
def rCntS (K : PySem.W.Frag) : V → List V → Hp → VK → Prop := fun x xs H Q => ∃ (p : Addr) (ss : List Str) (k : Str), x = .ref p ∧ xs = [.str k] ∧ SqL K H p (ss.map V.str) ∧ Q (.int (ss.count k : Nat)) H
theorem mt_lcountS {X : Cx} : MtR X "list.count" (rCntS X.K) := by
  intro pins s σ H x xs v us Q I rx rxs h
  obtain ⟨p, ss, k, rfl, rfl, hs, q⟩ := h
  cases rx
  obtain ⟨u, rfl, t, rfl⟩ := vals1 rxs
  obtain ⟨its, rv, hl, _⟩ := I.list hs
  refine PyProof.Rows.count_list_strs hl.isList rv.strs ?_
  rw [cnt_strs]
  exact ⟨.int (ss.count k : Nat), H, I.tok _, ⟨_, rfl⟩, q⟩
/-! ### the words that were told, by the law -/
abbrev five : List Str := ["saw", "split", "glue", "stack", "turn"]
theorem Shaped.word {ts : List Itm} (h : Shaped ts) : wordOf ts ∈ five ∧ ∃ r, ts = .str (wordOf ts) :: r := by
  cases h with
  | saw => exact ⟨show ("saw" : Str) ∈ five by decide +kernel, _, rfl⟩
  | split => exact ⟨show ("split" : Str) ∈ five by decide +kernel, _, rfl⟩
  | glue => exact ⟨show ("glue" : Str) ∈ five by decide +kernel, _, rfl⟩
  | stack => exact ⟨show ("stack" : Str) ∈ five by decide +kernel, _, rfl⟩
  | turn => exact ⟨show ("turn" : Str) ∈ five by decide +kernel, _, rfl⟩
theorem Shaped.len {ts : List Itm} (h : Shaped ts) : ts.length ≤ 5 := by
  cases h <;> simp
theorem inV_strs (w : Str) : ∀ ws : List Str, inV (.str w) (ws.map V.str) = decide (w ∈ ws)
  | [] => by simp [inV]
  | x :: r => by
    have ih := inV_strs w r
    show (eqV (.str x) (.str w) || inV (.str w) (r.map V.str)) = _
    rw [ih]
    by_cases z : w = x
    · subst z
      simp [eqV]
    · have : (x == w) = false := beq_eq_false_iff_ne.mpr (Ne.symm z)
      simp [eqV, this, z]
theorem strs_flat (ws : List Str) : (ws.map V.str).all flatV = true := by
  rw [List.all_eq_true]
  intro v hv
  obtain ⟨w, _, rfl⟩ := List.mem_map.mp hv
  rfl
theorem strs_can {ws : List Str} (h : ∀ w ∈ ws, PyData.strOk w = true) : SeqAt.shaped (.list (ws.map .str)) = true ∧ PyData.eqv (.list (ws.map .str)) (.list (ws.map .str)) = true := by
  have g : ∀ ws : List Str, (∀ w ∈ ws, PyData.strOk w = true) → PyData.canLayAll0 (ws.map PyData.str) = true ∧ PyData.depthAll (ws.map PyData.str) = 0 ∧ PyData.plainAll (ws.map PyData.str) = true := by
    intro ws
    induction ws with
    | nil => exact fun _ => ⟨by simp [PyData.canLayAll0], by simp [PyData.depthAll], by simp [PyData.plainAll]⟩
    | cons t ts ih =>
      intro kn
      obtain ⟨h1, h2, h3⟩ := ih fun s hs => kn s (List.mem_cons_of_mem _ hs)
      exact ⟨by simp [PyData.canLayAll0, PyData.canLay0, kn t List.mem_cons_self, h1], by simp [PyData.depthAll, PyData.depth, h2], by simp [PyData.plainAll, PyData.plain, h3]⟩
  obtain ⟨h1, h2, h3⟩ := g ws h
  constructor
  · unfold SeqAt.shaped
    rw [Bool.and_eq_true]
    refine ⟨by simp [PyData.canLay0, h1], decide_eq_true ?_⟩
    simp only [PyData.depth]
    omega
  · exact PySem.SeqAt.eqv_refl_plain _ (by simp [PyData.plain, h3])
theorem dstrs {K : PySem.W.Frag} {H : Hp} {l : Addr} {ws : List Str} (h : H l = some (.lst (ws.map V.str))) : Dp K H (.ref l) (.list (ws.map .str)) := by
  refine .lst (SqL.of h) ?_
  clear h
  induction ws with
  | nil => exact .nil
  | cons n ns ih => exact .cons (.str _) ih
theorem words_ok : ∀ s ∈ words, PyData.strOk s = true := by decide +kernel
theorem five_ok : ∀ s ∈ five, PyData.strOk s = true := by decide +kernel
section
variable {base : Heap} {K : PySem.W.Frag} {mg : Str → Option Value} {P : Program} {w : World}
def spLPlus : Sp := fun vs H Q _ => ∃ (p q : Addr) (a b c e : Int), vs = [.ref p, .ref q] ∧ H p = some (.tup [.int a, .int b]) ∧ H q = some (.tup [.int c, .int e]) ∧ ∀ r H', H r = none → Same H H' → H' r = some (.tup [.int (a + c), .int (b + e)]) → Q (.ref r) H'
theorem ok_plus (T : Txt K mg) : FnOk P w K mg base CX0 1 T.f_plus T.d_plus ["_law_one", "_law_other"] spLPlus := by
  refine T.F_plus.ok sc_plus (fun vs H Q E h => ?_) (fun cdv A outer s H vs Q E hr h => ?_)
  · obtain ⟨p, q, a, b, c, e, rfl, _⟩ := h
    rfl
  · obtain ⟨p, q, a, b, c, e, rfl, hp, hq, k⟩ := h
    refine ⟨_, (pss_one (ps_ret (pe_tup (pa_cons (pe_op op_add (pe_ix ix_tup (pv 0) pe_int (fun _ _ => rfl)) (pe_ix ix_tup (pv 1) pe_int (fun _ _ => rfl))) (pa_cons (pe_op op_add (pe_ix ix_tup (pv 0) pe_int (fun _ _ => rfl)) (pe_ix ix_tup (pv 1) pe_int (fun _ _ => rfl))) pa_nil))))), ?_⟩
    exact ⟨_, rfl, p, _, 0, .int a, rfl, rfl, SqT.of hp, atI_nat (j := 0) rfl, _, rfl, q, _, 0, .int c, rfl, rfl, SqT.of hq, atI_nat (j := 0) rfl, a, c, rfl, rfl, _, rfl, p, _, 1, .int b, rfl, rfl, SqT.of hp, atI_nat (j := 1) rfl, _, rfl, q, _, 1, .int e, rfl, rfl, SqT.of hq, atI_nat (j := 1) rfl, b, e, rfl, rfl,
      by show 2 ≤ sizeLine; decide, fun r nr => k r _ nr (same_new nr) upd_same⟩
theorem other_side {x : Sh} {s : Str} (h : SideW s) : SideW (if s = "across" then "along" else "across") ∧ sideOf x (if s = "across" then "along" else "across") = sideOf (turnS x) s := by
  rcases h with rfl | rfl
  · rw [if_pos rfl]
    exact ⟨.inr rfl, by unfold sideOf turnS; rw [if_neg (by decide +kernel), if_pos rfl]⟩
  · rw [if_neg (by decide +kernel)]
    exact ⟨.inl rfl, by unfold sideOf turnS; rw [if_pos rfl, if_neg (by decide +kernel)]⟩
def spLCut : Sp := fun vs H Q _ => ∃ (p : Addr) (ts : List Itm), vs = [.ref p] ∧ StepAt H p ts ∧ Shaped ts ∧ bdB ts ∧ ∀ r H', Same H H' → H' r = some (.tup [.int (cutOf ts).1, .int (cutOf ts).2]) → Q (.ref r) H'
theorem ok_cut (T : Txt K mg) : FnOk P w K mg base CX0 2 T.f_cut T.d_cut ["_law_step"] spLCut := by
  refine T.F_cut.ok sc_cut (fun vs H Q E h => ?_) (fun cdv A outer s H vs Q E hr h => ?_)
  · obtain ⟨p, ts, rfl, _⟩ := h
    rfl
  · obtain ⟨p, ts, rfl, hp, hs, hb, q⟩ := h
    refine ⟨_, (pss_cons (ps_if (pt_cmpR op_notIn_seq (pe_ix ix_tup (pv 0) pe_int (fun _ _ => rfl)) (pe_tup (pa_cons pe_str (pa_cons pe_str pa_nil))) (by rfl)) (pss_one (ps_ret (pe_tup (pa_cons pe_int (pa_cons pe_int pa_nil))))) pss_nil)
      (pss_cons (ps_set (i := 1) sc_cut.nd rfl (Or.inl rfl) (pe_ifExp (pt_cmpR op_eq (pe_ix ix_tup (pv 0) pe_int (fun _ _ => rfl)) pe_str (nomark _)) (pe_ix ix_tup (pv 0) pe_int (fun _ _ => rfl)) (pe_op op_mul (pe_op op_sub (pe_ix ix_tup (pv 0) pe_int (fun _ _ => rfl)) pe_int) (pe_ix ix_tup (pv 0) pe_int (fun _ _ => rfl)))))
      (pss_cons (ps_set (i := 2) sc_cut.nd rfl (Or.inl rfl) (pe_ifExp (pt_cmpR op_eq (pe_ix ix_tup (pv 0) pe_int (fun _ _ => rfl)) pe_str (nomark _)) pe_str pe_str))
      (pss_one (ps_ret (pe_call (ok_lscaled T) (hr.mono (by decide)) (by rfl) T.g_lscaled T.F_lscaled.kp T.b_lscaled .nil pass0 (pa_cons (pe_call (ok_lside_of T) (hr.mono (by decide)) (by rfl) T.g_lside_of T.F_lside_of.kp T.b_lside_of .nil pass0 (pa_cons (pe_ix ix_tup (pv 0) pe_int (fun _ _ => rfl)) (pa_cons (pv 2) pa_nil))) (pa_cons (pv 1) pa_nil)))))))), ?_⟩
    obtain ⟨vs, hv, hts⟩ := hp
    cases hs with
    | @saw x sd a b c hsd hc =>
      match vs, hts with
      | [v0, v1, v2, v3, v4], .cons h0 (.cons h1 (.cons h2 (.cons h3 (.cons h4 .nil)))) =>
        obtain ⟨rfl, _⟩ := h0
        obtain ⟨px, rfl, hx⟩ := h1
        obtain ⟨rfl, _⟩ := h2
        cases (show v4 = .int c from h4)
        have e2 : cutOf [.str "saw", .sheet x, .str sd, .pair a b, .int c] = ((sideOf (turnS x) sd).1 * c, (sideOf (turnS x) sd).2 * c) := by unfold cutOf; exact if_pos rfl
        rw [e2] at q
        have bc : ItB (.int c) := hb _ (by simp)
        unfold ItB at bc
        refine ⟨_, rfl, p, _, 0, _, rfl, rfl, SqT.of hv, atI_nat (j := 0) rfl, by show 2 ≤ sizeLine; decide, fun t nt => ⟨t, _, rfl, .inr (SqT.of upd_same), rfl, rfl, false, by decide +kernel, iteF ?_⟩⟩
        have k0 := same_new (o := .tup [.str "saw", .str "split"]) nt
        have hv1 := k0 _ _ hv
        have hx1 := hx.same k0
        generalize upd H t (.tup [.str "saw", .str "split"]) = H1 at k0 hv1 hx1 ⊢
        refine ⟨_, rfl, p, _, 0, _, rfl, rfl, SqT.of hv1, atI_nat (j := 0) rfl, rfl, true, by decide +kernel, iteT ⟨_, rfl, p, _, 4, .int c, rfl, rfl, SqT.of hv1, atI_nat (j := 4) rfl, ?_⟩⟩
        rcases hsd with rfl | rfl
        · skip
          have e := (other_side (x := x) (s := "across") (.inl rfl)).2
          rw [if_pos rfl] at e
          refine ⟨_, rfl, p, _, 2, _, rfl, rfl, SqT.of hv1, atI_nat (j := 2) rfl, rfl, true, by decide +kernel, iteT ?_⟩
          refine ⟨_, rfl, p, _, 1, .ref px, rfl, rfl, SqT.of hv1, atI_nat (j := 1) rfl, _, rfl, px, x, "along", rfl, hx1, .inr rfl, fun r H2 k1 hr => ?_⟩
          rw [e] at hr
          exact ⟨_, rfl, r, _, _, c, rfl, hr, (by unfold Sm; omega), fun t2 H3 nt2 k2 ht2 => q t2 H3 (k0.trans (k1.trans k2)) ht2⟩
        · skip
          have e := (other_side (x := x) (s := "along") (.inr rfl)).2
          rw [if_neg (by decide +kernel)] at e
          refine ⟨_, rfl, p, _, 2, _, rfl, rfl, SqT.of hv1, atI_nat (j := 2) rfl, rfl, false, by decide +kernel, iteF ?_⟩
          refine ⟨_, rfl, p, _, 1, .ref px, rfl, rfl, SqT.of hv1, atI_nat (j := 1) rfl, _, rfl, px, x, "across", rfl, hx1, .inl rfl, fun r H2 k1 hr => ?_⟩
          rw [e] at hr
          exact ⟨_, rfl, r, _, _, c, rfl, hr, (by unfold Sm; omega), fun t2 H3 nt2 k2 ht2 => q t2 H3 (k0.trans (k1.trans k2)) ht2⟩
    | @split x sd n c hsd hn hc =>
      match vs, hts with
      | [v0, v1, v2, v3, v4], .cons h0 (.cons h1 (.cons h2 (.cons h3 (.cons h4 .nil)))) =>
        obtain ⟨rfl, _⟩ := h0
        obtain ⟨px, rfl, hx⟩ := h1
        obtain ⟨rfl, _⟩ := h2
        cases (show v3 = .int n from h3)
        cases (show v4 = .int c from h4)
        have e2 : cutOf [.str "split", .sheet x, .str sd, .int n, .int c] = ((sideOf (turnS x) sd).1 * ((n - 1) * c), (sideOf (turnS x) sd).2 * ((n - 1) * c)) := by unfold cutOf; exact if_pos rfl
        rw [e2] at q
        have bn : ItB (.int n) := hb _ (by simp)
        have bc : ItB (.int c) := hb _ (by simp)
        unfold ItB at bc bn
        have bnd : Sm ((n - 1) * c) := by
          unfold Sm
          rw [Int.natAbs_mul]
          have := Nat.mul_le_mul (show (n - 1).natAbs ≤ 101 by omega) bc
          omega
        refine ⟨_, rfl, p, _, 0, _, rfl, rfl, SqT.of hv, atI_nat (j := 0) rfl, by show 2 ≤ sizeLine; decide, fun t nt => ⟨t, _, rfl, .inr (SqT.of upd_same), rfl, rfl, false, by decide +kernel, iteF ?_⟩⟩
        have k0 := same_new (o := .tup [.str "saw", .str "split"]) nt
        have hv1 := k0 _ _ hv
        have hx1 := hx.same k0
        generalize upd H t (.tup [.str "saw", .str "split"]) = H1 at k0 hv1 hx1 ⊢
        refine ⟨_, rfl, p, _, 0, _, rfl, rfl, SqT.of hv1, atI_nat (j := 0) rfl, rfl, false, by decide +kernel, iteF ⟨_, rfl, p, _, 3, .int n, rfl, rfl, SqT.of hv1, atI_nat (j := 3) rfl, n, 1, rfl, rfl, _, rfl, p, _, 4, .int c, rfl, rfl, SqT.of hv1, atI_nat (j := 4) rfl, n - 1, c, rfl, rfl, .inl ⟨by omega, by omega⟩, ?_⟩⟩
        rcases hsd with rfl | rfl
        · skip
          have e := (other_side (x := x) (s := "across") (.inl rfl)).2
          rw [if_pos rfl] at e
          refine ⟨_, rfl, p, _, 2, _, rfl, rfl, SqT.of hv1, atI_nat (j := 2) rfl, rfl, true, by decide +kernel, iteT ?_⟩
          refine ⟨_, rfl, p, _, 1, .ref px, rfl, rfl, SqT.of hv1, atI_nat (j := 1) rfl, _, rfl, px, x, "along", rfl, hx1, .inr rfl, fun r H2 k1 hr => ?_⟩
          rw [e] at hr
          exact ⟨_, rfl, r, _, _, _, rfl, hr, bnd, fun t2 H3 nt2 k2 ht2 => q t2 H3 (k0.trans (k1.trans k2)) ht2⟩
        · skip
          have e := (other_side (x := x) (s := "along") (.inr rfl)).2
          rw [if_neg (by decide +kernel)] at e
          refine ⟨_, rfl, p, _, 2, _, rfl, rfl, SqT.of hv1, atI_nat (j := 2) rfl, rfl, false, by decide +kernel, iteF ?_⟩
          refine ⟨_, rfl, p, _, 1, .ref px, rfl, rfl, SqT.of hv1, atI_nat (j := 1) rfl, _, rfl, px, x, "across", rfl, hx1, .inl rfl, fun r H2 k1 hr => ?_⟩
          rw [e] at hr
          exact ⟨_, rfl, r, _, _, _, rfl, hr, bnd, fun t2 H3 nt2 k2 ht2 => q t2 H3 (k0.trans (k1.trans k2)) ht2⟩
    | @glue x y sd c hsd hc =>
      match vs, hts with
      | [v0, v1, v2, v3, v4], .cons h0 (.cons h1 (.cons h2 (.cons h3 (.cons h4 .nil)))) =>
        obtain ⟨rfl, _⟩ := h0
        refine ⟨_, rfl, p, _, 0, _, rfl, rfl, SqT.of hv, atI_nat (j := 0) rfl, by show 2 ≤ sizeLine; decide, fun t nt => ⟨t, _, rfl, .inr (SqT.of upd_same), rfl, rfl, true, by decide +kernel, iteT ⟨by show 2 ≤ sizeLine; decide, fun r nr => q r _ ((same_new nt).trans (same_new nr)) upd_same⟩⟩⟩
    | @stack x sd n c hsd hn hc =>
      match vs, hts with
      | [v0, v1, v2, v3, v4], .cons h0 (.cons h1 (.cons h2 (.cons h3 (.cons h4 .nil)))) =>
        obtain ⟨rfl, _⟩ := h0
        have e2 : cutOf [.str "stack", .sheet x, .str sd, .int n, .int c] = (0, 0) := by unfold cutOf; exact if_neg (by decide +kernel)
        rw [e2] at q
        refine ⟨_, rfl, p, _, 0, _, rfl, rfl, SqT.of hv, atI_nat (j := 0) rfl, by show 2 ≤ sizeLine; decide, fun t nt => ⟨t, _, rfl, .inr (SqT.of upd_same), rfl, rfl, true, by decide +kernel, iteT ⟨by show 2 ≤ sizeLine; decide, fun r nr => q r _ ((same_new nt).trans (same_new nr)) upd_same⟩⟩⟩
    | @turn x c hc =>
      match vs, hts with
      | [v0, v1, v2], .cons h0 (.cons h1 (.cons h2 .nil)) =>
        obtain ⟨rfl, _⟩ := h0
        refine ⟨_, rfl, p, _, 0, _, rfl, rfl, SqT.of hv, atI_nat (j := 0) rfl, by show 2 ≤ sizeLine; decide, fun t nt => ⟨t, _, rfl, .inr (SqT.of upd_same), rfl, rfl, true, by decide +kernel, iteT ⟨by show 2 ≤ sizeLine; decide, fun r nr => q r _ ((same_new nt).trans (same_new nr)) upd_same⟩⟩⟩
def spCRight : Sp := fun vs H Q _ => ∃ (p l : Addr) (kvs : List (Key × V)) (ss : List (List Itm)), vs = [.ref p, .ref l] ∧ H p = some (.dK kvs) ∧ CntOk kvs (ss.map wordOf) ∧ StepsL H l ss ∧ (∀ t ∈ ss, Shaped t) ∧ ss.length < 60 ∧ ∀ H', Same H H' → Q (.bl true) H'
theorem ok_counts_right (T : Txt K mg) : FnOk P w K mg base CX0 1 T.f_counts_right T.d_counts_right ["_law_counts", "_law_steps"] spCRight := by
  refine T.F_counts_right.ok sc_counts_right (fun vs H Q E h => ?_) (fun cdv A outer s H vs Q E hr h => ?_)
  · obtain ⟨p, l, kvs, ss, rfl, _⟩ := h
    rfl
  · obtain ⟨p, l, kvs, ss, rfl, hp, cn, ⟨as, hl, hP⟩, sh, l60, q⟩ := h
    refine ⟨_, (pss_cons (ps_set (i := 2) sc_counts_right.nd rfl (Or.inr rfl) (pe_lc (own := [("_law_step", 4)]) (g := (gName 4)) (tt := tYes) (te := tOp (rIxT K) (tVar 4) (tC (.int 0))) (by rfl) sc_counts_right.nd (pi_list (pv 1)) (blkOk_by (own := [("_law_step", 4)]) (N := ["_law_counts", "_law_steps", "_law_words", "_law_names", "_law_step", "_law_word"]) (sc := defScope s_counts_right) (by decide +kernel)) (fun _ _ _ _ _ => (pg_name (i := 4) sc_counts_right.nd rfl (Or.inl rfl))) (fun _ _ _ _ _ => pts_nil) (fun _ _ _ _ _ => (pe_ix ix_tup (pv 4) pe_int (fun _ _ => rfl)))))
      (pss_cons (ps_setLc (i := 3) (own := [("_law_word", 5)]) (g := (gName 5)) (tt := tTest (tOp (rIn K false) (tVar 5) (tVar 2))) (by rfl) sc_counts_right.nd rfl rfl (sw_true rfl rfl rfl (by decide +kernel)) (pi_list (pe_lst (pa_cons pe_str (pa_cons pe_str (pa_cons pe_str (pa_cons pe_str (pa_cons pe_str pa_nil))))))) (blkOk_by (own := [("_law_word", 5)]) (N := ["_law_counts", "_law_steps", "_law_words", "_law_names", "_law_step", "_law_word"]) (sc := defScope s_counts_right) (by decide +kernel)) (fun _ _ _ _ _ => (pg_name (i := 5) sc_counts_right.nd rfl (Or.inl rfl))) (fun _ _ _ _ _ => (pts_one (pt_cmpR op_in_seq (pv 5) (pv 2) (by rfl)))) (fun _ _ _ _ _ => (pv 5)))
      (pss_one (ps_ret (pe_and (pe_callB call_isi (by rfl) T.n_isinstance (by decide +kernel) (pa_cons (pv 0) (pa_cons (pe_bltn (v := .ty "dict") (by rfl) T.n_dict (by decide +kernel) rfl) pa_nil))) (pe_and (pe_cmpR (op_eqD hr.units) (pe_callB cr_sortedS (by rfl) T.n_sorted (by decide +kernel) (pa_cons (pe_callTy (call_listD rfl) (by rfl) T.n_list (by decide +kernel) (pa_cons (pv 0) pa_nil)) pa_nil)) (pe_callB cr_sortedS (by rfl) T.n_sorted (by decide +kernel) (pa_cons (pv 3) pa_nil)) (nomark _)) (pe_one (pe_callB (cr_all rfl) (by rfl) T.n_all (by decide +kernel) (pa_cons (pe_lc (own := [("_law_word", 5)]) (g := (gName 5)) (tt := tYes) (te := tOp rEq (tDGet (tVar 0) (tVar 5)) (tBM K "list" (rCntS K) (tVar 2) (tCons (tVar 5) tNil))) (by rfl) sc_counts_right.nd (pi_list (pv 3)) (blkOk_by (own := [("_law_word", 5)]) (N := ["_law_counts", "_law_steps", "_law_words", "_law_names", "_law_step", "_law_word"]) (sc := defScope s_counts_right) (by decide +kernel)) (fun _ _ _ _ _ => (pg_name (i := 5) sc_counts_right.nd rfl (Or.inl rfl))) (fun _ _ _ _ _ => pts_nil) (fun _ _ _ _ _ => (pe_cmpR op_eq (pe_dget (hu_of hr) (pv 0) (pv 5) (fun _ _ => rfl)) (pe_bm PySem.F.plainAttrs_list PySem.F.slot_list_count PySem.F.type_list_count mt_lcountS (pv 2) (pa_cons (pv 5) pa_nil)) (nomark _)))) pa_nil))))))))), ?_⟩
    have hlen := Paired.length hP
    have wl : (ss.map wordOf).length = as.length := by rw [List.length_map, hlen]
    refine ⟨_, rfl, l, rfl, ⟨_, SqL.of hl⟩, fun D nD => lc_list (K := K) (a := l) (xs := as.map V.ref) (fun i G => Same H G ∧ G D = some (.lst (((ss.take i).map wordOf).map V.str))) ⟨same_new nD, upd_same⟩ (fun i G _ z => SqL.of (z.1 _ _ hl)) (fun i v G hv z => ?_) (fun G z => ?_)⟩
    · obtain ⟨sG, hD⟩ := z
      obtain ⟨p2, t, rfl, ht, vs, hp2, hts⟩ := step_row hP hv
      obtain ⟨_, r, hw⟩ := (sh t (List.mem_of_getElem? ht)).word
      generalize ew : wordOf t = wd at hw
      subst hw
      match vs, hts with
      | v0 :: vs', .cons ⟨e, _⟩ _ =>
        subst e
        refine ⟨rfl, _, rfl, p2, _, 0, .str wd, rfl, rfl, SqT.of (sG _ _ hp2), atI_nat (j := 0) rfl, _, hD, ?_, fun a o zz => (upd_ne (ne_of_none zz nD)).trans (sG _ _ zz), ?_⟩
        · rw [List.length_map, List.length_map, List.length_take]
          exact small1000 (by omega)
        · rw [upd_same, List.take_add_one, ht, List.map_append, List.map_append]
          show _ = some (HO.lst (_ ++ [V.str (wordOf (.str wd :: r))]))
          rfl
    · obtain ⟨sG, hD⟩ := z
      rw [List.length_map, hlen, List.take_length] at hD
      have hpG := sG _ _ hp
      have nl := strs_flat (ss.map wordOf)
      refine ⟨by show 5 ≤ sizeLine; decide, fun l2 n2 => ?_⟩
      have k1 := same_new (o := .lst [V.str "saw", .str "split", .str "glue", .str "stack", .str "turn"]) n2
      have hl2 : upd G l2 (.lst [V.str "saw", .str "split", .str "glue", .str "stack", .str "turn"]) l2 = some (.lst (five.map V.str)) := upd_same
      have hD1 := k1 _ _ hD
      have hp1 := k1 _ _ hpG
      have s1 := sG.trans k1
      generalize upd G l2 (.lst [V.str "saw", .str "split", .str "glue", .str "stack", .str "turn"]) = G1 at hl2 hD1 hp1 s1 ⊢
      refine ⟨l2, rfl, ⟨_, SqL.of hl2⟩, fun D2 nD2 => lc_list (K := K) (a := l2) (xs := five.map V.str) (fun i G' => Same G1 G' ∧ G' D2 = some (.lst (((five.take i).filter fun w => decide (w ∈ ss.map wordOf)).map V.str))) ⟨same_new nD2, upd_same⟩ (fun i G' _ z => SqL.of (z.1 _ _ hl2)) (fun i v G' hv z => ?_) (fun G' z => ?_)⟩
      · obtain ⟨sG', hD2⟩ := z
        obtain ⟨wd, hwd, rfl⟩ : ∃ wd, five[i]? = some wd ∧ v = .str wd := by
          rw [List.getElem?_map] at hv
          cases z : five[i]? with
          | none => rw [z] at hv; cases hv
          | some wd => rw [z] at hv; cases hv; exact ⟨wd, rfl, rfl⟩
        refine ⟨rfl, _, rfl, _, rfl, D, _, rfl, .inl (SqL.of (sG' _ _ hD1)), rfl, nl, ?_⟩
        rw [inV_strs]
        have stp : (five.take (i + 1)).filter (fun w => decide (w ∈ ss.map wordOf)) = (five.take i).filter (fun w => decide (w ∈ ss.map wordOf)) ++ [wd].filter (fun w => decide (w ∈ ss.map wordOf)) := by
          rw [List.take_add_one, hwd, List.filter_append]
          rfl
        refine ⟨_, rfl, ?_⟩
        by_cases m : wd ∈ ss.map wordOf
        · rw [List.filter_cons_of_pos (by simpa using m)] at stp
          show if decide (wd ∈ ss.map wordOf) = true then _ else _
          rw [if_pos (decide_eq_true m)]
          refine ⟨_, rfl, _, hD2, ?_, fun a o zz => (upd_ne (ne_of_none zz nD2)).trans (sG' _ _ zz), ?_⟩
          · rw [List.length_map]
            have h1 := List.length_filter_le (fun w => decide (w ∈ ss.map wordOf)) (five.take i)
            rw [List.length_take] at h1
            have h2 : five.length = 5 := rfl
            exact small1000 (by omega)
          · rw [upd_same, stp, List.map_append]
            rfl
        · rw [List.filter_cons_of_neg (by simpa using m)] at stp
          show if decide (wd ∈ ss.map wordOf) = true then _ else _
          rw [if_neg (by simpa using m)]
          refine ⟨sG', ?_⟩
          rw [stp]
          show _ = some (HO.lst ((_ ++ []).map V.str))
          rw [List.append_nil]
          exact hD2
      · obtain ⟨sG', hD2⟩ := z
        rw [show (five.map V.str).length = 5 from rfl, show five.take 5 = five from rfl] at hD2
        obtain ⟨ks, ek, nd, mem⟩ := cn.key
        have hp2 := sG' _ _ hp1
        have sub : ∀ w ∈ ss.map wordOf, w ∈ five := fun w hw => by
          obtain ⟨t, ht, rfl⟩ := List.mem_map.mp hw
          exact (sh t ht).word.1
        have fin : ∀ w, w ∈ five.filter (fun w => decide (w ∈ ss.map wordOf)) ↔ w ∈ ss.map wordOf := fun w => by
          rw [List.mem_filter, decide_eq_true_iff]
          exact ⟨fun z => z.2, fun z => ⟨sub w z, z⟩⟩
        have fnd : (five.filter (fun w => decide (w ∈ ss.map wordOf))).Nodup := (show five.Nodup by decide +kernel).sublist List.filter_sublist
        have perm : ks.Perm (five.filter (fun w => decide (w ∈ ss.map wordOf))) := (List.perm_ext_iff_of_nodup nd fnd).mpr fun w => by rw [mem w, fin w]
        have kl : ks.length ≤ 5 := by
          rw [perm.length_eq]
          exact List.length_filter_le _ _
        generalize hns : five.filter (fun w => decide (w ∈ ss.map wordOf)) = ns at hD2 fin fnd perm
        have nl5 : ns.length ≤ 5 := by
          rw [← perm.length_eq]
          exact kl
        refine ⟨_, rfl, .ref p, .ty "dict", _, _, true, rfl, ClsV.ty _, TyX.base (TyOf.dK hp2), kit_ty (by decide +kernel), true, rfl, iteT ?_⟩
        refine ⟨_, rfl, p, kvs, rfl, .inl hp2, fun l3 n3 => ?_⟩
        have ekv : (kvs.map fun kv => kV kv.1) = ks.map V.str := by
          have e := congrArg (List.map kV) ek
          rw [List.map_map, List.map_map] at e
          exact e
        rw [ekv]
        refine ⟨l3, ks, rfl, SqL.of upd_same, by omega, fun ys l4 py sy n4 => ?_⟩
        have k3 := (same_new (o := .lst (ks.map V.str)) n3).trans (same_new (o := .lst (ys.map V.str)) n4)
        have h4 : upd (upd G' l3 (.lst (ks.map V.str))) l4 (.lst (ys.map V.str)) l4 = some (.lst (ys.map V.str)) := upd_same
        generalize upd (upd G' l3 (.lst (ks.map V.str))) l4 (.lst (ys.map V.str)) = G4 at k3 h4 ⊢
        refine ⟨_, rfl, D2, ns, rfl, SqL.of (k3 _ _ hD2), by omega, fun zs l5 pz sz n5 => ?_⟩
        have e : ys = zs := sorted_one (py.trans (perm.trans pz.symm)) sy sz
        subst e
        have k5 := same_new (o := .lst (ys.map V.str)) n5
        have ok : ∀ w ∈ ys, PyData.strOk w = true := fun w hw => five_ok w (sub w ((mem w).mp (py.mem_iff.mp hw)))
        obtain ⟨c1, c2⟩ := strs_can ok
        refine ⟨_, _, dstrs (k5 _ _ h4), dstrs upd_same, c1, c1, true, congrArg V.bl c2, iteT ?_⟩
        have k45 := k3.trans k5
        generalize upd G4 l5 (.lst (ys.map V.str)) = G5 at k45 ⊢
        refine ⟨_, rfl, D2, rfl, ⟨_, SqL.of (k45 _ _ hD2)⟩, fun D3 n6 => lc_list (K := K) (a := D2) (xs := ns.map V.str) (fun i G6 => Same G5 G6 ∧ G6 D3 = some (.lst ((List.replicate i true).map V.bl))) ⟨same_new n6, upd_same⟩ (fun i G6 _ z => SqL.of (z.1 _ _ (k45 _ _ hD2))) (fun i v G6 hv z => ?_) (fun G6 z => ?_)⟩
        · obtain ⟨s6, h6⟩ := z
          obtain ⟨wd, hwd, rfl⟩ : ∃ wd, ns[i]? = some wd ∧ v = .str wd := by
            rw [List.getElem?_map] at hv
            cases z : ns[i]? with
            | none => rw [z] at hv; cases hv
            | some wd => rw [z] at hv; cases hv; exact ⟨wd, rfl, rfl⟩
          have hw := (fin wd).mp (List.mem_of_getElem? hwd)
          have dg := DGet.k (k := Sum.inr wd) (s6 _ _ (k45 _ _ hp2))
          rw [cn.val, if_pos hw] at dg
          have hD6 := s6 _ _ (k45 _ _ (sG' _ _ hD1))
          refine ⟨rfl, _, rfl, _, rfl, p, _, rfl, dg, _, rfl, .inl ⟨rfl, _, SqL.of hD6⟩, _, rfl, D, _, wd, rfl, rfl, SqL.of hD6, rfl, _, h6, ?_, fun a o zz => (upd_ne (ne_of_none zz n6)).trans (s6 _ _ zz), ?_⟩
          · rw [List.length_map, List.length_replicate]
            have := (List.getElem?_eq_some_iff.mp hwd).1
            exact small1000 (by omega)
          · rw [upd_same, decide_eq_true rfl, List.replicate_succ', List.map_append]
            rfl
        · obtain ⟨s6, h6⟩ := z
          refine ⟨D3, _, rfl, SqL.of h6, ?_⟩
          rw [show (List.replicate (ns.map V.str).length true).all id = true by simp]
          exact q _ (s1.trans (sG'.trans (k45.trans s6)))
end
/-! ### four tallies -/
section
variable {K : PySem.W.Frag} {mg : Str → Option Value}
def clsOf (T : Txt K mg) : Nat → Addr
  | 0 => T.C_Tally
  | 1 => T.C_Journal
  | _ => T.C_CutTally
def moreOf (l t : Addr) : Nat → List (Str × V)
  | 0 => []
  | 1 => [("kept", .ref l)]
  | _ => [("kept", .ref l), ("sawn", .ref t)]
structure TalAt (T : Txt K mg) (H : Hp) (kd : Nat) (x d l : Addr) (ss : List (List Itm)) (sw : Int × Int) : Prop where
  ins : ∃ dx t : Addr, H x = some (.ins (clsOf T kd) dx (TlF (ss.length : Nat) d (moreOf l t kd))) ∧ (kd = 2 → H t = some (.tup [.int sw.1, .int sw.2]))
  dct : ∃ kvs, H d = some (.dK kvs) ∧ CntOk kvs (ss.map wordOf)
  lst : kd ≠ 0 → StepsL H l ss
def Tups (H H' : Hp) : Prop := ∀ p xs, H p = some (.tup xs) → H' p = some (.tup xs)
theorem TalAt.kp {T : Txt K mg} {H H' : Hp} {kd : Nat} {x d l : Addr} {ss : List (List Itm)} {sw : Int × Int} (h : TalAt T H kd x d l ss sw) (hx : ∀ o, H x = some o → H' x = some o) (hd : ∀ o, H d = some o → H' d = some o) (hl : kd ≠ 0 → ∀ o, H l = some o → H' l = some o) (tp : Tups H H') : TalAt T H' kd x d l ss sw := by
  obtain ⟨⟨dx, t, h1, h2⟩, ⟨kvs, h3, h4⟩, h5⟩ := h
  exact ⟨⟨dx, t, hx _ h1, fun z => tp _ _ (h2 z)⟩, ⟨kvs, hd _ h3, h4⟩, fun z => (h5 z).mono (fun xs y => hl z _ y) tp⟩
theorem TalAt.same {T : Txt K mg} {H H' : Hp} {kd : Nat} {x d l : Addr} {ss : List (List Itm)} {sw : Int × Int} (h : TalAt T H kd x d l ss sw) (s : Same H H') : TalAt T H' kd x d l ss sw :=
  h.kp (fun o e => s _ _ e) (fun o e => s _ _ e) (fun _ o e => s _ _ e) fun p xs e => s _ _ e
def chg (kd : Nat) (x d l : Addr) : List Addr := if kd = 0 then [x, d] else [x, d, l]
theorem TalAt.tups {T : Txt K mg} {H H' : Hp} {kd : Nat} {x d l : Addr} {ss : List (List Itm)} {sw : Int × Int} (h : TalAt T H kd x d l ss sw) (k : Kp (chg kd x d l) H H') : Tups H H' := by
  obtain ⟨⟨dx, t, h1, h2⟩, ⟨kvs, h3, h4⟩, h5⟩ := h
  intro p xs e
  refine k p _ (fun m => ?_) e
  have n1 : p ≠ x := ne_of e h1 (by intro z; cases z)
  have n2 : p ≠ d := ne_of e h3 (by intro z; cases z)
  unfold chg at m
  split at m
  · simp [n1, n2] at m
  · rename_i z
    obtain ⟨as, h6, _⟩ := h5 z
    have n3 : p ≠ l := ne_of e h6 (by intro z; cases z)
    simp [n1, n2, n3] at m
def swN (kd : Nat) (sw : Int × Int) (ts : List Itm) : Int × Int := if kd = 2 then (sw.1 + (cutOf ts).1, sw.2 + (cutOf ts).2) else sw
theorem words_snoc (ss : List (List Itm)) (ts : List Itm) : (ss ++ [ts]).map wordOf = ss.map wordOf ++ [wordOf ts] := by rw [List.map_append]; rfl
section
variable {T : Txt K mg} {H : Hp} {x d l p : Addr} {ss : List (List Itm)} {sw : Int × Int} {ts : List Itm} {Q : VK} {E : XK}
theorem note_T (h : TalAt T H 0 x d l ss sw) (hp : StepAt H p ts) (sh : Shaped ts) (ln : ss.length ≤ 900) (q : ∀ H', TalAt T H' 0 x d l (ss ++ [ts]) (swN 0 sw ts) → Kp (chg 0 x d l) H H' → Q .non H') : spTNote K [.ref x, .ref p] H Q E := by
  obtain ⟨⟨dx, t, h1, h2⟩, ⟨kvs, h3, h4⟩, h5⟩ := h
  refine ⟨x, _, dx, d, p, _, _, kvs, _, ts, rfl, clsT T, h1, by show 0 ≤ 2; decide, h3, h4, by rw [List.length_map]; exact ln, hp, sh.word.2, fun H' g1 g2 k => q H' ⟨⟨dx, t, ?_, fun z => by cases z⟩, ⟨_, g2, ?_⟩, fun z => absurd rfl z⟩ k⟩
  · rw [g1, List.length_append]
    rfl
  · rw [words_snoc]
    exact h4.put _
theorem note_J (h : TalAt T H 1 x d l ss sw) (hp : StepAt H p ts) (sh : Shaped ts) (ln : ss.length ≤ 900) (q : ∀ H', TalAt T H' 1 x d l (ss ++ [ts]) (swN 1 sw ts) → Kp (chg 1 x d l) H H' → Q .non H') : spJNote T [.ref x, .ref p] H Q E := by
  have h0 := h
  obtain ⟨⟨dx, t, h1, h2⟩, ⟨kvs, h3, h4⟩, h5⟩ := h
  obtain ⟨as, h6, h7⟩ := h5 (by decide)
  have la := Paired.length h7
  refine ⟨x, _, dx, d, l, p, _, _, kvs, _, ts, as, rfl, .inl rfl, h1, by show 0 ≤ 1; decide, h3, h4, by rw [List.length_map]; exact ln, h6, by omega, hp, sh.word.2, fun H' g1 g2 g3 k => q H' ⟨⟨dx, t, ?_, fun z => by cases z⟩, ⟨_, g2, ?_⟩, fun _ => ⟨as ++ [p], g3, ?_⟩⟩ k⟩
  · rw [g1, List.length_append]
    rfl
  · rw [words_snoc]
    exact h4.put _
  · have tp : Tups H H' := h0.tups k
    exact paired_snoc tp h7 (hp.mono tp)
theorem note_C (h : TalAt T H 2 x d l ss sw) (hp : StepAt H p ts) (sh : Shaped ts) (bd : bdB ts) (ln : ss.length ≤ 900) (q : ∀ H', TalAt T H' 2 x d l (ss ++ [ts]) (swN 2 sw ts) → Kp (chg 2 x d l) H H' → Q .non H') : spCNote T [.ref x, .ref p] H Q E := by
  have h0 := h
  obtain ⟨⟨dx, t, h1, h2⟩, ⟨kvs, h3, h4⟩, h5⟩ := h
  obtain ⟨as, h6, h7⟩ := h5 (by decide)
  have la := Paired.length h7
  refine ⟨x, dx, d, l, t, p, _, _, _, kvs, _, ts, as, rfl, h1, h3, h4, by rw [List.length_map]; exact ln, h6, by omega, h2 rfl, hp, sh.word.2, sh, bd, fun t' H' g1 g2 g3 g4 k => q H' ⟨⟨dx, t', ?_, fun _ => g4⟩, ⟨_, g2, ?_⟩, fun _ => ⟨as ++ [p], g3, ?_⟩⟩ k⟩
  · rw [g1, List.length_append]
    rfl
  · rw [words_snoc]
    exact h4.put _
  · have tp : Tups H H' := h0.tups k
    exact paired_snoc tp h7 (hp.mono tp)
theorem counts_use {kd : Nat} (h : TalAt T H kd x d l ss sw) (q : ∀ p kvs, H p = none → CntOk kvs (ss.map wordOf) → Q (.ref p) (upd H p (.dK kvs))) : spTCounts K [.ref x] H Q E := by
  obtain ⟨⟨dx, t, h1, h2⟩, ⟨kvs, h3, h4⟩, h5⟩ := h
  refine ⟨x, clsOf T kd, dx, d, _, _, kvs, rfl, ?_, h1, h3, fun p np => q p kvs np h4⟩
  match kd with
  | 0 => exact clsT T
  | 1 => exact clsJ T
  | _ + 2 => exact clsC T
theorem told_use {kd : Nat} (h : TalAt T H kd x d l ss sw) (nz : kd ≠ 0) (q : ∀ p as, H p = none → Paired (StepAt H) as ss → Q (.ref p) (upd H p (.lst (as.map V.ref)))) : spJTold T [.ref x] H Q E := by
  obtain ⟨⟨dx, t, h1, h2⟩, ⟨kvs, h3, h4⟩, h5⟩ := h
  obtain ⟨as, h6, h7⟩ := h5 nz
  match kd, nz with
  | 0, z => exact absurd rfl z
  | 1, _ => exact ⟨x, _, dx, d, l, _, _, as, rfl, .inl rfl, h1, h6, fun p np => q p as np h7⟩
  | _ + 2, _ => exact ⟨x, _, dx, d, l, _, _, as, rfl, .inr rfl, h1, h6, fun p np => q p as np h7⟩
end
/-! ### what the law holds -/
def kdOf (i : Fin 4) : Nat := min i.val 2
structure Tags (tg : Addr → Nat) (b sb S Z W : Addr) (x d l z : Fin 4 → Addr) : Prop where
  b : tg b = 0
  sb : tg sb = 1
  S : tg S = 2
  Z : tg Z = 3
  W : tg W = 4
  z : ∀ i, tg (z i) = 5 + i.val
  x : ∀ i, tg (x i) = 9 + i.val
  d : ∀ i, tg (d i) = 13 + i.val
  l : ∀ i : Fin 4, i.val ≠ 0 → tg (l i) = 16 + i.val
structure LS (T : Txt K mg) (tg : Addr → Nat) (H : Hp) (b sb S Z W : Addr) (x d l z : Fin 4 → Addr) (ss zz : Fin 4 → List (List Itm)) (sw sv : Fin 4 → Int × Int) (n : Nat) : Prop where
  bag : Bag H b sb
  hS : H S = some (.lst [.ref (x 0), .ref (x 1), .ref (x 2), .ref (x 3)])
  hZ : H Z = some (.lst [.ref (z 0), .ref (z 1), .ref (z 2), .ref (z 3)])
  hW : ∃ u v : Addr, H W = some (.lst [.ref u, .ref v]) ∧ H u = some (.tup [.int (sv 2).1, .int (sv 2).2]) ∧ H v = some (.tup [.int (sv 3).1, .int (sv 3).2])
  tal : ∀ i, TalAt T H (kdOf i) (x i) (d i) (l i) (ss i) (sw i)
  zs : ∀ i, StepsL H (z i) (zz i)
  sh : ∀ i, ∀ t ∈ ss i, Shaped t
  ln : ∀ i, (ss i).length ≤ n
  tags : Tags tg b sb S Z W x d l z
theorem at4 (f : Fin 4 → Addr) : ∀ i : Fin 4, atI [V.ref (f 0), .ref (f 1), .ref (f 2), .ref (f 3)] (i.val : Int) = some (.ref (f i))
  | 0 => rfl
  | 1 => rfl
  | 2 => rfl
  | 3 => rfl
theorem Bag.kp {A : List Addr} {H H' : Hp} {b sb : Addr} (B : Bag H b sb) (h1 : b ∉ A) (h2 : sb ∉ A) (k : Kp A H H') : Bag H' b sb := by
  obtain ⟨ns, i, j, m, c, B⟩ := B
  exact ⟨ns, i, j, m, c, k _ _ h1 B.hb, k _ _ h2 B.hs, B.i0, B.i1, B.m0, B.m1⟩
theorem kd_zero {i : Fin 4} : kdOf i = 0 ↔ i.val = 0 := by
  unfold kdOf
  omega
section
variable {T : Txt K mg} {tg : Addr → Nat} {H H' : Hp} {b sb S Z W : Addr} {x d l z : Fin 4 → Addr} {ss zz : Fin 4 → List (List Itm)} {sw sv : Fin 4 → Int × Int} {n : Nat}
theorem Tags.out (t : Tags tg b sb S Z W x d l z) {a : Addr} {i : Fin 4} (h1 : tg a ≠ 9 + i.val) (h2 : tg a ≠ 13 + i.val) (h3 : i.val ≠ 0 → tg a ≠ 16 + i.val) : a ∉ chg (kdOf i) (x i) (d i) (l i) := by
  intro m
  have e1 : a ≠ x i := fun e => h1 (by rw [e]; exact t.x i)
  have e2 : a ≠ d i := fun e => h2 (by rw [e]; exact t.d i)
  unfold chg at m
  split at m
  · simp [e1, e2] at m
  · rename_i k
    have k0 : i.val ≠ 0 := fun y => k (kd_zero.mpr y)
    have e3 : a ≠ l i := fun e => h3 k0 (by rw [e]; exact t.l i k0)
    simp [e1, e2, e3] at m
def upF {α : Type} (f : Fin 4 → α) (i : Fin 4) (v : α) : Fin 4 → α := fun j => if j = i then v else f j
theorem LS.moved (L : LS T tg H b sb S Z W x d l z ss zz sw sv n) {A : List Addr} (k : Kp A H H') (tp : Tups H H') (h : ∀ a ∈ A, tg a ≥ 20) : LS T tg H' b sb S Z W x d l z ss zz sw sv n := by
  obtain ⟨u, v, w1, w2, w3⟩ := L.hW
  have o : ∀ a, tg a < 20 → a ∉ A := fun a ha m => by have := h a m; omega
  have t := L.tags
  refine ⟨L.bag.kp (o _ (by rw [t.b]; decide)) (o _ (by rw [t.sb]; decide)) k, k _ _ (o _ (by rw [t.S]; decide)) L.hS, k _ _ (o _ (by rw [t.Z]; decide)) L.hZ, ⟨u, v, k _ _ (o _ (by rw [t.W]; decide)) w1, tp _ _ w2, tp _ _ w3⟩, fun i => (L.tal i).kp (fun _ => k _ _ (o _ (by rw [t.x]; omega))) (fun _ => k _ _ (o _ (by rw [t.d]; omega))) (fun nz _ => k _ _ (o _ ?_)) tp,
    fun i => (L.zs i).mono (fun _ => k _ _ (o _ (by rw [t.z]; omega))) tp, L.sh, L.ln, t⟩
  have k0 : i.val ≠ 0 := fun y => nz (kd_zero.mpr y)
  rw [t.l i k0]
  omega
theorem LS.same (L : LS T tg H b sb S Z W x d l z ss zz sw sv n) (s : Same H H') : LS T tg H' b sb S Z W x d l z ss zz sw sv n := L.moved (A := []) (fun q o _ e => s q o e) (fun p xs e => s _ _ e) fun a m => by cases m
theorem LS.keep (L : LS T tg H b sb S Z W x d l z ss zz sw sv n) (k : Keep b H H') (B : Bag H' b sb) : LS T tg H' b sb S Z W x d l z ss zz sw sv n := by
  obtain ⟨u, v, w1, w2, w3⟩ := L.hW
  have t := L.tags
  have nb : ∀ a, tg a ≠ 0 → a ≠ b := fun a h e => h (by rw [e]; exact t.b)
  have kk : ∀ a o, tg a ≠ 0 → H a = some o → H' a = some o := fun a o h e => k a o (nb a h) e
  have tp : Tups H H' := tup_keep L.bag k
  refine ⟨B, kk _ _ (by rw [t.S]; decide) L.hS, kk _ _ (by rw [t.Z]; decide) L.hZ, ⟨u, v, kk _ _ (by rw [t.W]; decide) w1, tp _ _ w2, tp _ _ w3⟩, fun i => (L.tal i).kp (fun _ => kk _ _ (by rw [t.x]; omega)) (fun _ => kk _ _ (by rw [t.d]; omega)) (fun nz _ => kk _ _ ?_) tp,
    fun i => (L.zs i).mono (fun _ => kk _ _ (by rw [t.z]; omega)) tp, L.sh, L.ln, t⟩
  have k0 : i.val ≠ 0 := fun y => nz (kd_zero.mpr y)
  rw [t.l i k0]
  omega
theorem LS.note (L : LS T tg H b sb S Z W x d l z ss zz sw sv n) {i : Fin 4} {ts : List Itm} (h : TalAt T H' (kdOf i) (x i) (d i) (l i) (ss i ++ [ts]) (swN (kdOf i) (sw i) ts)) (k : Kp (chg (kdOf i) (x i) (d i) (l i)) H H') (sh : Shaped ts) (hn : n + 1 ≤ 900) :
    LS T tg H' b sb S Z W x d l z (upF ss i (ss i ++ [ts])) zz (upF sw i (swN (kdOf i) (sw i) ts)) sv (n + 1) := by
  obtain ⟨u, v, w1, w2, w3⟩ := L.hW
  have t := L.tags
  have tp : Tups H H' := (L.tal i).tups k
  have i4 := i.isLt
  have o : ∀ a, tg a < 9 → a ∉ chg (kdOf i) (x i) (d i) (l i) := fun a ha => t.out (by omega) (by omega) (by omega)
  refine ⟨L.bag.kp (o _ (by rw [t.b]; decide)) (o _ (by rw [t.sb]; decide)) k, k _ _ (o _ (by rw [t.S]; decide)) L.hS, k _ _ (o _ (by rw [t.Z]; decide)) L.hZ, ⟨u, v, k _ _ (o _ (by rw [t.W]; decide)) w1, tp _ _ w2, tp _ _ w3⟩, fun j => ?_, fun j => (L.zs j).mono (fun _ => k _ _ (o _ (by rw [t.z]; omega))) tp, fun j => ?_, fun j => ?_, t⟩
  · unfold upF
    by_cases e : j = i
    · subst e
      rw [if_pos rfl, if_pos rfl]
      exact h
    · rw [if_neg e, if_neg e]
      have ne : j.val ≠ i.val := fun y => e (Fin.ext y)
      have j4 := j.isLt
      refine (L.tal j).kp (fun _ => k _ _ (t.out ?_ ?_ ?_)) (fun _ => k _ _ (t.out ?_ ?_ ?_)) (fun nz _ => k _ _ ?_) tp
      · rw [t.x]; omega
      · rw [t.x]; omega
      · rw [t.x]; omega
      · rw [t.d]; omega
      · rw [t.d]; omega
      · rw [t.d]; omega
      · have k0 : j.val ≠ 0 := fun y => nz (kd_zero.mpr y)
        refine t.out ?_ ?_ ?_ <;> rw [t.l j k0] <;> omega
  · unfold upF
    by_cases e : j = i
    · rw [if_pos e]
      intro u hu
      rcases List.mem_append.mp hu with hu | hu
      · exact L.sh i u hu
      · rw [List.mem_singleton.mp hu]
        exact sh
    · rw [if_neg e]
      exact L.sh j
  · unfold upF
    by_cases e : j = i
    · rw [if_pos e, List.length_append]
      have := L.ln i
      show (ss i).length + 1 ≤ _
      omega
    · rw [if_neg e]
      have := L.ln j
      omega
theorem LS.app (L : LS T tg H b sb S Z W x d l z ss zz sw sv n) {i : Fin 4} {p : Addr} {ts : List Itm} {as : List Addr} (h1 : H (z i) = some (.lst (as.map V.ref))) (h2 : Paired (StepAt H) as (zz i)) (hp : StepAt H p ts) :
    LS T tg (upd H (z i) (.lst (as.map V.ref ++ [.ref p]))) b sb S Z W x d l z ss (upF zz i (zz i ++ [ts])) sw sv n := by
  obtain ⟨u, v, w1, w2, w3⟩ := L.hW
  have t := L.tags
  have tp : Tups H (upd H (z i) (.lst (as.map V.ref ++ [.ref p]))) := tup_put h1
  have i4 := i.isLt
  have k : ∀ a o, tg a ≠ 5 + i.val → H a = some o → upd H (z i) (.lst (as.map V.ref ++ [.ref p])) a = some o := fun a o h e => (upd_ne fun y => h (by rw [y]; exact t.z i)).trans e
  refine ⟨L.bag.put (fun y => ?_) (fun y => ?_), k _ _ (by rw [t.S]; omega) L.hS, k _ _ (by rw [t.Z]; omega) L.hZ, ⟨u, v, k _ _ (by rw [t.W]; omega) w1, tp _ _ w2, tp _ _ w3⟩, fun j => (L.tal j).kp (fun _ => k _ _ (by rw [t.x]; omega)) (fun _ => k _ _ (by rw [t.d]; omega)) (fun nz _ => k _ _ ?_) tp, fun j => ?_, L.sh, L.ln, t⟩
  · have := t.z i
    rw [y, t.b] at this
    omega
  · have := t.z i
    rw [y, t.sb] at this
    omega
  · have k0 : j.val ≠ 0 := fun y => nz (kd_zero.mpr y)
    rw [t.l j k0]
    omega
  · unfold upF
    by_cases e : j = i
    · subst e
      rw [if_pos rfl]
      exact StepsL.put h1 h2 hp
    · rw [if_neg e]
      have ne : j.val ≠ i.val := fun y => e (Fin.ext y)
      exact (L.zs j).mono (fun _ => k _ _ (by rw [t.z]; omega)) tp
theorem LS.saw (L : LS T tg H b sb S Z W x d l z ss zz sw sv n) {u v : Addr} {sv' : Fin 4 → Int × Int} (hu : H u = some (.tup [.int (sv' 2).1, .int (sv' 2).2])) (hv : H v = some (.tup [.int (sv' 3).1, .int (sv' 3).2])) :
    LS T tg (upd H W (.lst [.ref u, .ref v])) b sb S Z W x d l z ss zz sw sv' n := by
  obtain ⟨u0, v0, w1, w2, w3⟩ := L.hW
  have t := L.tags
  have tp : Tups H (upd H W (.lst [.ref u, .ref v])) := tup_put w1
  have k : ∀ a o, tg a ≠ 4 → H a = some o → upd H W (.lst [.ref u, .ref v]) a = some o := fun a o h e => (upd_ne fun y => h (by rw [y]; exact t.W)).trans e
  refine ⟨L.bag.put (fun y => ?_) (fun y => ?_), k _ _ (by rw [t.S]; omega) L.hS, k _ _ (by rw [t.Z]; omega) L.hZ, ⟨u, v, upd_same, tp _ _ hu, tp _ _ hv⟩, fun j => (L.tal j).kp (fun _ => k _ _ (by rw [t.x]; omega)) (fun _ => k _ _ (by rw [t.d]; omega)) (fun nz _ => k _ _ ?_) tp, fun j => (L.zs j).mono (fun _ => k _ _ (by rw [t.z]; omega)) tp, L.sh, L.ln, t⟩
  · have := t.W
    rw [y, t.b] at this
    omega
  · have := t.W
    rw [y, t.sb] at this
    omega
  · have k0 : j.val ≠ 0 := fun y => nz (kd_zero.mpr y)
    rw [t.l j k0]
    omega
end
end
/-! ### lists of steps are alike -/
theorem lk_item {H : Hp} {n : Nat} {v v' : V} {t : Itm} (h : ItAt H v t) (h' : ItAt H v' t) : Lk H (n + 2) v v' := by
  cases t with
  | str s =>
    rw [h.1, h'.1]
    exact Lk.flat (.inr (.inr (.inr ⟨s, rfl, rfl⟩)))
  | int i =>
    rw [show v = .int i from h, show v' = .int i from h']
    exact Lk.int rfl
  | pair a b =>
    obtain ⟨p, rfl, hp⟩ := h
    obtain ⟨q, rfl, hq⟩ := h'
    exact Lk.pair hp hq rfl rfl
  | sheet x =>
    obtain ⟨p, rfl, u, z, h1, h2, h3⟩ := h
    obtain ⟨q, rfl, u', z', h1', h2', h3'⟩ := h'
    exact Lk.tups h1 h1' (by simp) (.cons (Lk.pair h2 h2' rfl rfl) (.cons (Lk.pair h3 h3' rfl rfl) .nil))
theorem lk_items {H : Hp} {n : Nat} : ∀ {vs vs' : List V} {ts : List Itm}, Paired (ItAt H) vs ts → Paired (ItAt H) vs' ts → LkAll H (n + 2) vs vs'
  | _, _, _, .nil, .nil => .nil
  | _, _, _, .cons a r, .cons a' r' => .cons (lk_item a a') (lk_items r r')
theorem lk_step {H : Hp} {n : Nat} {p q : Addr} {ts : List Itm} (h : StepAt H p ts) (h' : StepAt H q ts) (ln : ts.length ≤ 10) : Lk H (n + 3) (.ref p) (.ref q) := by
  obtain ⟨vs, g, r⟩ := h
  obtain ⟨vs', g', r'⟩ := h'
  exact Lk.tups g g' (by rw [Paired.length r]; omega) (lk_items r r')
theorem lk_rows {H : Hp} {n : Nat} : ∀ {as as' : List Addr} {ss : List (List Itm)}, Paired (StepAt H) as ss → Paired (StepAt H) as' ss → (∀ t ∈ ss, t.length ≤ 10) → LkAll H (n + 3) (as.map V.ref) (as'.map V.ref)
  | _, _, _, .nil, .nil, _ => .nil
  | _, _, _, .cons a r, .cons a' r', ln => .cons (lk_step a a' (ln _ List.mem_cons_self)) (lk_rows r r' fun t ht => ln t (List.mem_cons_of_mem _ ht))
theorem lk_steps {H : Hp} {n : Nat} {l m : Addr} {ss : List (List Itm)} (h : StepsL H l ss) (h' : StepsL H m ss) (ln : ∀ t ∈ ss, t.length ≤ 10) (six : ss.length ≤ 60) : Lk H (n + 4) (.ref l) (.ref m) := by
  obtain ⟨as, g, r⟩ := h
  obtain ⟨as', g', r'⟩ := h'
  exact Lk.lists g g' (by rw [List.length_map, Paired.length r]; omega) (lk_rows r r' ln)
theorem new_ins {H : Hp} {x dx C : Addr} {fs : List (Str × V)} (nx : H x = none) (nd : H dx = none) : Same H (upd (upd H dx (.own x)) x (.ins C dx fs)) := fun b o z => by
  rw [upd_ne (ne_of_none z nx), upd_ne (ne_of_none z nd)]
  exact z
/-! ### how the tallies are made -/
structure Liv (L : List Addr) (H : Hp) : Prop where
  nd : L.Nodup
  al : ∀ a ∈ L, ∃ o, H a = some o
theorem Liv.same {L : List Addr} {H H' : Hp} (h : Liv L H) (s : Same H H') : Liv L H' := ⟨h.nd, fun a ha => let ⟨o, e⟩ := h.al a ha; ⟨o, s _ _ e⟩⟩
theorem Liv.more {L : List Addr} {H H' : Hp} (h : Liv L H) (ps : List Addr) (nd : ps.Nodup) (n : ∀ p ∈ ps, H p = none) (s : Same H H') (e : ∀ p ∈ ps, ∃ o, H' p = some o) : Liv (ps ++ L) H' := by
  refine ⟨List.nodup_append.mpr ⟨nd, h.nd, fun a ha b hb z => ?_⟩, fun a ha => ?_⟩
  · obtain ⟨o, e1⟩ := h.al b hb
    rw [← z, n a ha] at e1
    cases e1
  · rcases List.mem_append.mp ha with ha | ha
    · exact e a ha
    · obtain ⟨o, e1⟩ := h.al a ha
      exact ⟨o, s _ _ e1⟩
theorem Liv.new {L : List Addr} {H : Hp} {p : Addr} {o : HO} (h : Liv L H) (n : H p = none) : Liv (p :: L) (upd H p o) :=
  h.more [p] (by simp) (fun q hq => by rw [List.mem_singleton.mp hq]; exact n) (same_new n) fun q hq => by rw [List.mem_singleton.mp hq]; exact ⟨_, upd_same⟩
theorem idx_at : ∀ {L : List Addr} {i : Nat} {a : Addr}, L.Nodup → L[i]? = some a → L.idxOf a = i
  | x :: L, 0, a, _, h => by
    cases h
    exact List.idxOf_cons_self
  | x :: L, i + 1, a, nd, h => by
    have h : L[i]? = some a := h
    have ne : a ≠ x := fun e => (List.nodup_cons.mp nd).1 (e ▸ List.mem_of_getElem? h)
    rw [List.idxOf_cons, (beq_eq_false_iff_ne.mpr (Ne.symm ne) : (x == a) = false), cond_false, idx_at (List.nodup_cons.mp nd).2 h]
theorem at4a (f : Fin 4 → Addr) {j : Nat} (h : j < 4) : atI [V.ref (f 0), .ref (f 1), .ref (f 2), .ref (f 3)] (0 + (j : Int)) = some (.ref (f ⟨j, h⟩)) := by
  rw [Int.zero_add]
  exact at4 f ⟨j, h⟩
theorem at4b (f : Fin 4 → Addr) {j : Nat} (h : 1 + j < 4) : atI [V.ref (f 0), .ref (f 1), .ref (f 2), .ref (f 3)] (1 + (j : Int)) = some (.ref (f ⟨1 + j, h⟩)) := by
  rw [show (1 : Int) + (j : Int) = ((1 + j : Nat) : Int) by omega]
  exact at4 f ⟨1 + j, h⟩
def mk4 {α : Type} (a b c e : α) : Fin 4 → α
  | 0 => a
  | 1 => b
  | 2 => c
  | 3 => e
section
variable {K : PySem.W.Frag} {mg : Str → Option Value}
theorem mk_T {T : Txt K mg} {H : Hp} {R : Addr → Hp → Prop} {E : XK} (q : ∀ x d H', Same H H' → (∀ l sw, TalAt T H' 0 x d l [] sw) → (∀ L, Liv L H → Liv ([x, d] ++ L) H') → R x H') :
    ∀ x dx, H x = none → H dx = none → dx ≠ x → spTInit K [.ref x] (upd (upd H dx (.own x)) x (.ins T.C_Tally dx [])) (fun v H2 => v = .non ∧ R x H2) E := by
  intro x dx nx nd ne
  have s1 := new_ins (C := T.C_Tally) (fs := []) nx nd
  refine ⟨x, _, dx, rfl, upd_same, clsT T, fun d H' hd h1 h2 k => ⟨rfl, ?_⟩⟩
  have sH : Same H H' := fun b o z => k b o (fun m => by rw [List.mem_singleton.mp m, nx] at z; cases z) (s1 b o z)
  refine q x d H' sH (fun l sw => ⟨⟨dx, l, h2, fun z => by cases z⟩, ⟨[], h1, CntOk.nil⟩, fun z => absurd rfl z⟩) fun L hL => hL.more [x, d] ?_ (fun p hp => ?_) sH fun p hp => ?_
  · have : x ≠ d := ne_of h2 h1 (by intro z; cases z)
    simp [this]
  · simp only [List.mem_cons, List.not_mem_nil, or_false] at hp
    rcases hp with rfl | rfl
    · exact nx
    · exact s1.free hd
  · simp only [List.mem_cons, List.not_mem_nil, or_false] at hp
    rcases hp with rfl | rfl
    · exact ⟨_, h2⟩
    · exact ⟨_, h1⟩
theorem mk_J {T : Txt K mg} {H : Hp} {R : Addr → Hp → Prop} {E : XK} (q : ∀ x d l H', Same H H' → (∀ sw, TalAt T H' 1 x d l [] sw) → (∀ L, Liv L H → Liv ([x, d, l] ++ L) H') → R x H') :
    ∀ x dx, H x = none → H dx = none → dx ≠ x → spJInit T [.ref x] (upd (upd H dx (.own x)) x (.ins T.C_Journal dx [])) (fun v H2 => v = .non ∧ R x H2) E := by
  intro x dx nx nd ne
  have s1 := new_ins (C := T.C_Journal) (fs := []) nx nd
  refine ⟨x, _, dx, rfl, upd_same, .inl rfl, fun d l H' hd hl h1 h3 h2 k => ⟨rfl, ?_⟩⟩
  have sH : Same H H' := fun b o z => k b o (fun m => by rw [List.mem_singleton.mp m, nx] at z; cases z) (s1 b o z)
  refine q x d l H' sH (fun sw => ⟨⟨dx, l, h2, fun z => by cases z⟩, ⟨[], h1, CntOk.nil⟩, fun z => ⟨[], h3, .nil⟩⟩) fun L hL => hL.more [x, d, l] ?_ (fun p hp => ?_) sH fun p hp => ?_
  · have n1 : x ≠ d := ne_of h2 h1 (by intro z; cases z)
    have n2 : x ≠ l := ne_of h2 h3 (by intro z; cases z)
    have n3 : d ≠ l := ne_of h1 h3 (by intro z; cases z)
    simp [n1, n2, n3]
  · simp only [List.mem_cons, List.not_mem_nil, or_false] at hp
    rcases hp with rfl | rfl | rfl
    · exact nx
    · exact s1.free hd
    · exact s1.free hl
  · simp only [List.mem_cons, List.not_mem_nil, or_false] at hp
    rcases hp with rfl | rfl | rfl
    · exact ⟨_, h2⟩
    · exact ⟨_, h1⟩
    · exact ⟨_, h3⟩
theorem mk_C {T : Txt K mg} {H : Hp} {R : Addr → Hp → Prop} {E : XK} (q : ∀ x d l H', Same H H' → TalAt T H' 2 x d l [] (0, 0) → (∀ L, Liv L H → Liv ([x, d, l] ++ L) H') → R x H') :
    ∀ x dx, H x = none → H dx = none → dx ≠ x → spCInit T [.ref x] (upd (upd H dx (.own x)) x (.ins T.C_CutTally dx [])) (fun v H2 => v = .non ∧ R x H2) E := by
  intro x dx nx nd ne
  have s1 := new_ins (C := T.C_CutTally) (fs := []) nx nd
  refine ⟨x, dx, rfl, upd_same, fun d l t H' hd hl h1 h3 ht h2 k => ⟨rfl, ?_⟩⟩
  have sH : Same H H' := fun b o z => k b o (fun m => by rw [List.mem_singleton.mp m, nx] at z; cases z) (s1 b o z)
  refine q x d l H' sH ⟨⟨dx, t, h2, fun _ => ht⟩, ⟨[], h1, CntOk.nil⟩, fun z => ⟨[], h3, .nil⟩⟩ fun L hL => hL.more [x, d, l] ?_ (fun p hp => ?_) sH fun p hp => ?_
  · have n1 : x ≠ d := ne_of h2 h1 (by intro z; cases z)
    have n2 : x ≠ l := ne_of h2 h3 (by intro z; cases z)
    have n3 : d ≠ l := ne_of h1 h3 (by intro z; cases z)
    simp [n1, n2, n3]
  · simp only [List.mem_cons, List.not_mem_nil, or_false] at hp
    rcases hp with rfl | rfl | rfl
    · exact nx
    · exact s1.free hd
    · exact s1.free hl
  · simp only [List.mem_cons, List.not_mem_nil, or_false] at hp
    rcases hp with rfl | rfl | rfl
    · exact ⟨_, h2⟩
    · exact ⟨_, h1⟩
    · exact ⟨_, h3⟩
/-- a method that three classes have in common, on one of them -/
theorem pe_cnt3 {T : Txt K mg} {X : Cx} {e : Expr} {ta : TE} {m : Str} {sp : Sp} (h : PE X e (fun σ H Q => tMeth T.C_Tally m sp [] E0 ta tNil σ H Q ∨ (tMeth T.C_Journal m sp [] E0 ta tNil σ H Q ∨ tMeth T.C_CutTally m sp [] E0 ta tNil σ H Q))) :
    PE X e (fun σ H Q => ∃ kd, ta σ H fun x H1 => ∃ a dx fs, x = .ref a ∧ H1 a = some (.ins (clsOf T kd) dx fs) ∧ fs.lookup m = none ∧ sp [x] H1 Q E0) := by
  refine ⟨fun pins s σ H Q I q => h.run pins s σ H Q I ?_⟩
  obtain ⟨kd, q⟩ := q
  match kd with
  | 0 => exact .inl q
  | 1 => exact .inr (.inl q)
  | _ + 2 => exact .inr (.inr q)
def spTold (T : Txt K mg) : Nat → Sp
  | 1 => spJTold T
  | _ => fun vs H Q E => (∃ x dx fs, vs = [.ref x] ∧ H x = some (.ins T.C_CutTally dx fs)) ∧ spJTold T vs H Q E
theorem pe_told2 {T : Txt K mg} {X : Cx} {e : Expr} {ta : TE} {m : Str} (h : PE X e (fun σ H Q => tMeth T.C_Journal m (spJTold T) [] E0 ta tNil σ H Q ∨ tMeth T.C_CutTally m (fun vs H Q E => (∃ x dx fs, vs = [.ref x] ∧ H x = some (.ins T.C_CutTally dx fs)) ∧ spJTold T vs H Q E) [] E0 ta tNil σ H Q)) :
    PE X e (fun σ H Q => ∃ kd, kd ≠ 0 ∧ ta σ H fun x H1 => ∃ a dx fs, x = .ref a ∧ H1 a = some (.ins (clsOf T kd) dx fs) ∧ fs.lookup m = none ∧ spTold T kd [x] H1 Q E0) := by
  refine ⟨fun pins s σ H Q I q => h.run pins s σ H Q I ?_⟩
  obtain ⟨kd, nz, q⟩ := q
  match kd, nz with
  | 0, nz => exact absurd rfl nz
  | 1, _ => exact .inl q
  | _ + 2, _ => exact .inr q
theorem told_use2 {T : Txt K mg} {H : Hp} {x d l : Addr} {ss : List (List Itm)} {sw : Int × Int} {Q : VK} {E : XK} {kd : Nat} (h : TalAt T H kd x d l ss sw) (nz : kd ≠ 0) (q : ∀ p as, H p = none → Paired (StepAt H) as ss → Q (.ref p) (upd H p (.lst (as.map V.ref)))) : spTold T kd [.ref x] H Q E := by
  have r := told_use (E := E) h nz q
  obtain ⟨⟨dx, t, h1, _⟩, _⟩ := h
  match kd, nz, h1 with
  | 0, nz, _ => exact absurd rfl nz
  | 1, _, _ => exact r
  | _ + 2, _, h1 => exact ⟨⟨x, dx, _, rfl, h1⟩, r⟩
theorem look_counts (n : Int) (d l t : Addr) (kd : Nat) : (TlF n d (moreOf l t kd)).lookup ("counts" : Str) = none := by
  match kd with
  | 0 => rfl
  | 1 => rfl
  | _ + 2 => rfl
theorem look_told (n : Int) (d l t : Addr) (kd : Nat) : (TlF n d (moreOf l t kd)).lookup ("told" : Str) = none := by
  match kd with
  | 0 => rfl
  | 1 => rfl
  | _ + 2 => rfl
theorem kit_own {A C : Addr} {b : Bool} (ne : A ≠ C) (ic : PySem.W.isClsIn K C = true) (tw : PySem.W.typeIn K (.ref C) = some (.type "type")) (sb : PySem.W.subIn K (.ref A) (.ref C) = some b) : PySem.W.kitOne K (.ref A) (.ref C) = some b := by
  unfold PySem.W.isClsIn at ic
  unfold PySem.W.kitOne
  rw [if_neg fun z => ne (Value.ref.inj (eq_of_beq z))]
  unfold PySem.W.kitCls
  dsimp only
  rw [ic, tw, if_pos (by decide +kernel)]
  exact sb
def tagTab : List Nat := [4, 3, 8, 7, 6, 5, 2, 12, 16, 19, 11, 15, 18, 10, 14, 17, 9, 13, 1, 0]
theorem tags_of {b sb S Z W x0 d0 x1 d1 l1 x2 d2 l2 x3 d3 l3 z0 z1 z2 z3 : Addr} (nd : [W, Z, z3, z2, z1, z0, S, x3, d3, l3, x2, d2, l2, x1, d1, l1, x0, d0, sb, b].Nodup) :
    Tags (fun a => tagTab.getD ([W, Z, z3, z2, z1, z0, S, x3, d3, l3, x2, d2, l2, x1, d1, l1, x0, d0, sb, b].idxOf a) 20) b sb S Z W (mk4 x0 x1 x2 x3) (mk4 d0 d1 d2 d3) (mk4 x0 l1 l2 l3) (mk4 z0 z1 z2 z3) := by
  have g : ∀ (i : Nat) (a : Addr), [W, Z, z3, z2, z1, z0, S, x3, d3, l3, x2, d2, l2, x1, d1, l1, x0, d0, sb, b][i]? = some a → tagTab.getD ([W, Z, z3, z2, z1, z0, S, x3, d3, l3, x2, d2, l2, x1, d1, l1, x0, d0, sb, b].idxOf a) 20 = tagTab.getD i 20 := fun i a h => by rw [idx_at nd h]
  refine ⟨g 19 _ rfl, g 18 _ rfl, g 6 _ rfl, g 1 _ rfl, g 0 _ rfl, fun i => ?_, fun i => ?_, fun i => ?_, fun i hi => ?_⟩
  · match i with
    | 0 => exact g 5 _ rfl
    | 1 => exact g 4 _ rfl
    | 2 => exact g 3 _ rfl
    | 3 => exact g 2 _ rfl
  · match i with
    | 0 => exact g 16 _ rfl
    | 1 => exact g 13 _ rfl
    | 2 => exact g 10 _ rfl
    | 3 => exact g 7 _ rfl
  · match i with
    | 0 => exact g 17 _ rfl
    | 1 => exact g 14 _ rfl
    | 2 => exact g 11 _ rfl
    | 3 => exact g 8 _ rfl
  · match i, hi with
    | 0, hi => exact absurd rfl hi
    | 1, _ => exact g 15 _ rfl
    | 2, _ => exact g 12 _ rfl
    | 3, _ => exact g 9 _ rfl
theorem LS.swap {T : Txt K mg} {tg : Addr → Nat} {H : Hp} {b sb S Z W : Addr} {x d l z : Fin 4 → Addr} {ss zz : Fin 4 → List (List Itm)} {sw sv sv' : Fin 4 → Int × Int} {n : Nat} (L : LS T tg H b sb S Z W x d l z ss zz sw sv n) (h2 : sv' 2 = sv 2) (h3 : sv' 3 = sv 3) : LS T tg H b sb S Z W x d l z ss zz sw sv' n := by
  obtain ⟨u, v, w1, w2, w3⟩ := L.hW
  exact ⟨L.bag, L.hS, L.hZ, ⟨u, v, w1, by rw [h2]; exact w2, by rw [h3]; exact w3⟩, L.tal, L.zs, L.sh, L.ln, L.tags⟩
theorem LS.le {T : Txt K mg} {tg : Addr → Nat} {H : Hp} {b sb S Z W : Addr} {x d l z : Fin 4 → Addr} {ss zz : Fin 4 → List (List Itm)} {sw sv : Fin 4 → Int × Int} {n m : Nat} (L : LS T tg H b sb S Z W x d l z ss zz sw sv n) (h : n ≤ m) : LS T tg H b sb S Z W x d l z ss zz sw sv m :=
  ⟨L.bag, L.hS, L.hZ, L.hW, L.tal, L.zs, L.sh, fun i => Nat.le_trans (L.ln i) h, L.tags⟩
end
/-! ### the law -/
section
variable {base : Heap} {K : PySem.W.Frag} {mg : Str → Option Value} {w : World}
def spLaw (K : PySem.W.Frag) : Sp := fun vs H Q _ => ∃ (a : Addr) (ns : List Int), vs = [.ref a] ∧ SqL K H a (ns.map V.int) ∧ ns.length ≤ 63 ∧ ∀ H', Q (.bl true) H'
theorem ok_law {f : Addr} {fd : FuncData} (F : Fun K "law" "law" s_law f fd) (T : Txt K mg) : FnOk PySem.Challenge.pw_grainyard_k52_tallies_and_journals w K mg base CX0 8 f fd ["_law_script"] (spLaw K) := by
  refine F.ok sc_law (fun vs H Q E h => ?_) (fun cdv A outer s H vs Q E hr h => ?_)
  · obtain ⟨a, ns, rfl, _⟩ := h
    rfl
  · obtain ⟨sc, ns, rfl, hS, hlen, q⟩ := h
    refine ⟨_, (pss_cons (ps_set (i := 1) sc_law.nd rfl (Or.inl rfl) (pe_call (ok_source T) (hr.mono (by decide)) (by rfl) T.g_source T.F_source.kp T.b_source .nil pass0 (pa_cons (pv 0) pa_nil)))
      (pss_cons (ps_par (i := 4) (j := 5) (by rfl) sc_law.nd rfl rfl (by decide) rfl rfl (pa_cons (pe_call (ok_a_root T) (hr.mono (by decide)) (by rfl) T.g_a_root T.F_a_root.kp T.b_a_root .nil pass0 (pa_cons (pv 1) pa_nil)) (pa_cons (pe_lst (pa_cons (pe_make0 T.M_Tally (ok_Tally_init T) (hr.mono (by decide)) (by rfl) T.g_Tally T.b_Tally_init .nil pass0) (pa_cons (pe_make0 T.M_Journal (ok_Journal_init T) (hr.mono (by decide)) (by rfl) T.g_Journal (bs_Journal_init T) .nil pass0) (pa_cons (pe_make0 T.M_CutTally (ok_CutTally_init T) (hr.mono (by decide)) (by rfl) T.g_CutTally (bs_CutTally_init T) .nil pass0) (pa_cons (pe_make0 T.M_CutTally (ok_CutTally_init T) (hr.mono (by decide)) (by rfl) T.g_CutTally (bs_CutTally_init T) .nil pass0) pa_nil))))) pa_nil)) (by rfl))
      (pss_cons (ps_par (i := 6) (j := 7) (by rfl) sc_law.nd rfl rfl (by decide) rfl rfl (pa_cons (pe_lst (pa_cons (pe_lst pa_nil) (pa_cons (pe_lst pa_nil) (pa_cons (pe_lst pa_nil) (pa_cons (pe_lst pa_nil) pa_nil))))) (pa_cons (pe_lst (pa_cons (pe_tup (pa_cons pe_int (pa_cons pe_int pa_nil))) (pa_cons (pe_tup (pa_cons pe_int (pa_cons pe_int pa_nil))) pa_nil))) pa_nil)) (by rfl))
      (Evl.pss_cut (ps_for PassesOwn.never rfl (pi_range1 (by rfl) T.n_range (pa_cons (pe_call (ok_pull T) (hr.mono (by decide)) (by rfl) T.g_pull T.F_pull.kp T.b_pull .nil pass0 (pa_cons (pv 1) (pa_cons pe_int pa_nil))) pa_nil)) (pg_name (i := 2) sc_law.nd rfl (Or.inl rfl)) (pss_cons (ps_par (i := 9) (j := 10) (by rfl) sc_law.nd rfl rfl (by decide) rfl rfl (pa_cons (pe_call (ok_any_step T) (hr.mono (by decide)) (by rfl) T.g_any_step T.F_any_step.kp T.b_any_step .nil pass0 (pa_cons (pv 1) (pa_cons (pv 4) pa_nil))) (pa_cons (pe_call (ok_pull T) (hr.mono (by decide)) (by rfl) T.g_pull T.F_pull.kp T.b_pull .nil pass0 (pa_cons (pv 1) (pa_cons pe_int pa_nil))) pa_nil)) (by rfl))
      (pss_cons (ps_if (pt_not (pt_val (pe_call (ok_good_step T) (hr.mono (by decide)) (by rfl) T.g_good_step T.F_good_step.kp T.b_good_step .nil pass0 (pa_cons (pv 9) pa_nil)))) (pss_one ps_continue) pss_nil)
      (Evl.pss_cut (ps_expr (PE.or2 (pe_meth (pe_ix ix_list (pv 5) (pv 10) (fun _ _ => rfl)) T.cl_Tally T.m_Tally_note (ok_Tally_note T) (hr.mono (by decide)) T.b_Tally_note .nil pass0 (pa_cons (pv 9) pa_nil)) (PE.or2 (pe_meth (pe_ix ix_list (pv 5) (pv 10) (fun _ _ => rfl)) T.cl_Journal T.S_Journal_note.meth (ok_Journal_note T) (hr.mono (by decide)) (bs_Journal_note T) .nil pass0 (pa_cons (pv 9) pa_nil)) (pe_meth (pe_ix ix_list (pv 5) (pv 10) (fun _ _ => rfl)) T.cl_CutTally T.S_CutTally_note.meth (ok_CutTally_note T) (hr.mono (by decide)) (bs_CutTally_note T) .nil pass0 (pa_cons (pv 9) pa_nil)))))
      (Evl.pss_cut (ps_expr (pe_bm PySem.F.plainAttrs_list PySem.F.slot_list_append PySem.F.type_list_append mt_append (pe_ix ix_list (pv 6) (pv 10) (fun _ _ => rfl)) (pa_cons (pv 9) pa_nil)))
      (Evl.pss_cut (ps_if (pt_cmpR op_gt (pv 10) pe_int (nomark _)) (pss_one (ps_asg (pe_call (ok_plus T) (hr.mono (by decide)) (by rfl) T.g_plus T.F_plus.kp T.b_plus .nil pass0 (pa_cons (pe_ix ix_list (pv 7) (pe_op op_sub (pv 10) pe_int) (fun _ _ => rfl)) (pa_cons (pe_call (ok_cut T) (hr.mono (by decide)) (by rfl) T.g_cut T.F_cut.kp T.b_cut .nil pass0 (pa_cons (pv 9) pa_nil)) pa_nil))) (pg_sub (pv 7) (pe_op op_sub (pv 10) pe_int) set_list))) pss_nil)
      (Evl.pss_cut (ps_for PassesOwn.never rfl (pi_range1 (by rfl) T.n_range (pa_cons pe_int pa_nil)) (pg_name (i := 8) sc_law.nd rfl (Or.inl rfl)) (pss_cons (ps_if (PW.pt (pw_or (pt_cmpR op_ne (pe_fld (pe_ix ix_list (pv 5) (pv 8) (fun _ _ => rfl)) rfl) (pe_callB call_len_seq (by rfl) T.n_len (by decide +kernel) (pa_cons (pe_ix ix_list (pv 6) (pv 8) (fun _ _ => rfl)) pa_nil)) (nomark _)) (pw_or1 (pt_not (pt_val (pe_call (ok_counts_right T) (hr.mono (by decide)) (by rfl) T.g_counts_right T.F_counts_right.kp T.b_counts_right .nil pass0 (pa_cons (pe_cnt3 (PE.or2 (pe_meth0 (pe_ix ix_list (pv 5) (pv 8) (fun _ _ => rfl)) T.cl_Tally T.m_Tally_counts (ok_Tally_counts T) (hr.mono (by decide)) T.b_Tally_counts .nil pass0) (PE.or2 (pe_meth0 (pe_ix ix_list (pv 5) (pv 8) (fun _ _ => rfl)) T.cl_Journal ⟨T.aJc, T.m_Tally_counts.fn, T.m_Tally_counts.kp⟩ (ok_Tally_counts T) (hr.mono (by decide)) T.b_Tally_counts .nil pass0) (pe_meth0 (pe_ix ix_list (pv 5) (pv 8) (fun _ _ => rfl)) T.cl_CutTally ⟨T.aCc, T.m_Tally_counts.fn, T.m_Tally_counts.kp⟩ (ok_Tally_counts T) (hr.mono (by decide)) T.b_Tally_counts .nil pass0)))) (pa_cons (pe_ix ix_list (pv 6) (pv 8) (fun _ _ => rfl)) pa_nil)))))))) (pss_one (ps_ret pe_bl)) pss_nil)
      (pss_one (ps_expr (pe_dclear (pe_cnt3 (PE.or2 (pe_meth0 (pe_ix ix_list (pv 5) (pv 8) (fun _ _ => rfl)) T.cl_Tally T.m_Tally_counts (ok_Tally_counts T) (hr.mono (by decide)) T.b_Tally_counts .nil pass0) (PE.or2 (pe_meth0 (pe_ix ix_list (pv 5) (pv 8) (fun _ _ => rfl)) T.cl_Journal ⟨T.aJc, T.m_Tally_counts.fn, T.m_Tally_counts.kp⟩ (ok_Tally_counts T) (hr.mono (by decide)) T.b_Tally_counts .nil pass0) (pe_meth0 (pe_ix ix_list (pv 5) (pv 8) (fun _ _ => rfl)) T.cl_CutTally ⟨T.aCc, T.m_Tally_counts.fn, T.m_Tally_counts.kp⟩ (ok_Tally_counts T) (hr.mono (by decide)) T.b_Tally_counts .nil pass0)))))))))
      (Evl.pss_cut (ps_for PassesOwn.never rfl (pi_range2 (by rfl) T.n_range (pa_cons pe_int (pa_cons pe_int pa_nil))) (pg_name (i := 8) sc_law.nd rfl (Or.inl rfl)) (pss_cons (ps_set (i := 11) sc_law.nd rfl (Or.inl rfl) (pe_told2 (PE.or2 (pe_meth0 (pe_ix ix_list (pv 5) (pv 8) (fun _ _ => rfl)) T.cl_Journal T.m_Journal_told (ok_Journal_told T) (hr.mono (by decide)) T.b_Journal_told .nil pass0) (pe_meth0 (pe_ix ix_list (pv 5) (pv 8) (fun _ _ => rfl)) T.cl_CutTally T.S_CutTally_told.meth (ok_CutTally_told T) (hr.mono (by decide)) (bs_CutTally_told T) .nil pass0))))
      (pss_cons (ps_if (pt_not (pt_val (pe_call (ok_like T) (hr.mono (by decide)) (by rfl) T.g_like T.F_like.kp T.b_like .nil pass0 (pa_cons (pv 11) (pa_cons (pe_ix ix_list (pv 6) (pv 8) (fun _ _ => rfl)) pa_nil))))) (pss_one (ps_ret pe_bl)) pss_nil)
      (pss_one (ps_expr (pe_bm PySem.F.plainAttrs_list PySem.F.slot_list_append PySem.F.type_list_append mt_append (pv 11) (pa_cons pe_non pa_nil)))))))
      (pss_one (ps_if (pt_not (pt_val (pe_call (ok_like T) (hr.mono (by decide)) (by rfl) T.g_like T.F_like.kp T.b_like .nil pass0 (pa_cons (pe_lst (pa_cons (pe_fld (pe_ix ix_list (pv 5) pe_int (fun _ _ => rfl)) rfl) (pa_cons (pe_fld (pe_ix ix_list (pv 5) pe_int (fun _ _ => rfl)) rfl) pa_nil))) (pa_cons (pv 7) pa_nil))))) (pss_one (ps_ret pe_bl)) pss_nil))))))))))
      (pss_cons (ps_set (i := 3) sc_law.nd rfl (Or.inl rfl) (pe_lst (pa_cons (pe_callB call_isi (by rfl) T.n_isinstance (by decide +kernel) (pa_cons (pe_ix ix_list (pv 5) pe_int (fun _ _ => rfl)) (pa_cons (pe_glob (v := .ref T.C_Journal) (by rfl) T.g_Journal rfl) pa_nil))) (pa_cons (pe_callB call_isi (by rfl) T.n_isinstance (by decide +kernel) (pa_cons (pe_ix ix_list (pv 5) pe_int (fun _ _ => rfl)) (pa_cons (pe_glob (v := .ref T.C_Tally) (by rfl) T.g_Tally rfl) pa_nil))) (pa_cons (pe_callB call_isi (by rfl) T.n_isinstance (by decide +kernel) (pa_cons (pe_ix ix_list (pv 5) pe_int (fun _ _ => rfl)) (pa_cons (pe_glob (v := .ref T.C_CutTally) (by rfl) T.g_CutTally rfl) pa_nil))) pa_nil)))))
      (pss_one (ps_ret (pe_and (pe_cmpR (op_eqD hr.units) (pv 3) (pe_lst (pa_cons pe_bl (pa_cons pe_bl (pa_cons pe_bl pa_nil)))) (nomark _)) (pe_and (pe_cmpR (op_eq_dictA (Nat.lt_of_le_of_lt (Nat.le_add_right _ 64) hr.units)) (pe_meth0 (pe_make0 T.M_Tally (ok_Tally_init T) (hr.mono (by decide)) (by rfl) T.g_Tally T.b_Tally_init .nil pass0) T.cl_Tally T.m_Tally_counts (ok_Tally_counts T) (hr.mono (by decide)) T.b_Tally_counts .nil pass0) pe_dnewK (nomark _)) (pe_one (pe_cmpR (op_eqD hr.units) (pe_fld (pe_make0 T.M_CutTally (ok_CutTally_init T) (hr.mono (by decide)) (by rfl) T.g_CutTally (bs_CutTally_init T) .nil pass0) rfl) (pe_tup (pa_cons pe_int (pa_cons pe_int pa_nil))) (nomark _)))))))))))), ?_⟩
    refine ⟨.ref sc, rfl, sc, ns, rfl, hS, hlen, fun b sb H1 hb s1 B1 => ?_⟩
    refine ⟨.ref b, rfl, b, sb, rfl, B1, fun root H2 hroot B2 k2 => ?_⟩
    have v0 : Liv [sb, b] H2 := by
      obtain ⟨ms, i, j, m, c, B⟩ := id B2
      refine ⟨by simp [B.ne], fun a ha => ?_⟩
      simp only [List.mem_cons, List.not_mem_nil, or_false] at ha
      rcases ha with rfl | rfl
      · exact ⟨_, B.hs⟩
      · exact ⟨_, B.hb⟩
    refine mk_T fun x0 d0 H3 s3 t0 v3 => ?_
    refine mk_J fun x1 d1 l1 H4 s4 t1 v4 => ?_
    refine mk_C fun x2 d2 l2 H5 s5 t2 v5 => ?_
    refine mk_C fun x3 d3 l3 H6 s6 t3 v6 => ?_
    have w6 := v6 _ (v5 _ (v4 _ (v3 _ v0)))
    refine ⟨by show 4 ≤ sizeLine; decide, fun S nS => ⟨_, _, rfl, ?_⟩⟩
    have s7 := same_new (o := .lst [V.ref x0, .ref x1, .ref x2, .ref x3]) nS
    have w7 := w6.new (o := .lst [V.ref x0, .ref x1, .ref x2, .ref x3]) nS
    have hS7 : upd H6 S (.lst [V.ref x0, .ref x1, .ref x2, .ref x3]) S = some (.lst [V.ref x0, .ref x1, .ref x2, .ref x3]) := upd_same
    have T0 : ∀ l sw, TalAt T (upd H6 S (.lst [V.ref x0, .ref x1, .ref x2, .ref x3])) 0 x0 d0 l [] sw := fun l sw => (t0 l sw).same (s4.trans (s5.trans (s6.trans s7)))
    have T1 : ∀ sw, TalAt T (upd H6 S (.lst [V.ref x0, .ref x1, .ref x2, .ref x3])) 1 x1 d1 l1 [] sw := fun sw => (t1 sw).same (s5.trans (s6.trans s7))
    have T2 := t2.same (s6.trans s7)
    have T3 := t3.same s7
    have B7 := ((((B2.same s3).same s4).same s5).same s6).same s7
    generalize upd H6 S (.lst [V.ref x0, .ref x1, .ref x2, .ref x3]) = H7 at w7 hS7 T0 T1 T2 T3 B7 ⊢
    clear v0 v3 v4 v5 v6 w6 t0 t1 t2 t3 s3 s4 s5 s6 s7 nS
    refine ⟨Nat.zero_le _, fun z0 n0 => ⟨Nat.zero_le _, fun z1 n1 => ⟨Nat.zero_le _, fun z2 n2 => ⟨Nat.zero_le _, fun z3 n3 => ⟨by show 4 ≤ sizeLine; decide, fun Z nZ => ?_⟩⟩⟩⟩⟩
    have e0 := same_new (o := .lst []) n0
    have e1 := same_new (o := .lst []) n1
    have e2 := same_new (o := .lst []) n2
    have e3 := same_new (o := .lst []) n3
    have e4 := same_new (o := .lst [V.ref z0, .ref z1, .ref z2, .ref z3]) nZ
    have w8 := ((((w7.new (o := .lst []) n0).new (o := .lst []) n1).new (o := .lst []) n2).new (o := .lst []) n3).new (o := .lst [V.ref z0, .ref z1, .ref z2, .ref z3]) nZ
    refine ⟨by show 2 ≤ sizeLine; decide, fun u nu => ⟨by show 2 ≤ sizeLine; decide, fun v nv => ⟨by show 2 ≤ sizeLine; decide, fun W nW => ⟨_, _, rfl, ?_⟩⟩⟩⟩
    have e5 := same_new (o := .tup [.int 0, .int 0]) nu
    have e6 := same_new (o := .tup [.int 0, .int 0]) nv
    have w9 := ((w8.same e5).same e6).new (o := .lst [V.ref u, .ref v]) nW
    have e7 := same_new (o := .lst [V.ref u, .ref v]) nW
    have g0 := (e1.trans (e2.trans (e3.trans (e4.trans (e5.trans (e6.trans e7)))))) _ _ upd_same
    have g1 := (e2.trans (e3.trans (e4.trans (e5.trans (e6.trans e7))))) _ _ upd_same
    have g2 := (e3.trans (e4.trans (e5.trans (e6.trans e7)))) _ _ upd_same
    have g3 := (e4.trans (e5.trans (e6.trans e7))) _ _ upd_same
    have g4 := (e5.trans (e6.trans e7)) _ _ upd_same
    have g5 := (e6.trans e7) _ _ upd_same
    have g6 := e7 _ _ upd_same
    have eG := e0.trans (e1.trans (e2.trans (e3.trans (e4.trans (e5.trans (e6.trans e7))))))
    have L0 : ∃ (tg : Addr → Nat) (x d l z : Fin 4 → Addr), LS T tg _ b sb S Z W x d l z (fun _ => []) (fun _ => []) (fun _ => (0, 0)) (fun _ => (0, 0)) 0 :=
      ⟨_, mk4 x0 x1 x2 x3, mk4 d0 d1 d2 d3, mk4 x0 l1 l2 l3, mk4 z0 z1 z2 z3, B7.same eG, eG _ _ hS7, g4, ⟨u, v, upd_same, g5, g6⟩, (fun i => match i with
        | 0 => (T0 x0 _).same eG
        | 1 => (T1 _).same eG
        | 2 => T2.same eG
        | 3 => T3.same eG), (fun i => match i with
        | 0 => ⟨[], g0, .nil⟩
        | 1 => ⟨[], g1, .nil⟩
        | 2 => ⟨[], g2, .nil⟩
        | 3 => ⟨[], g3, .nil⟩), (fun i t ht => nomatch ht), fun i => Nat.le_refl _, tags_of w9.nd⟩
    clear g0 g1 g2 g3 g4 g5 g6 e0 e1 e2 e3 e4 e5 e6 e7 eG w7 w8 w9
    obtain ⟨tg, x, d, l, z, L0⟩ := L0
    refine ⟨fun σ G => ∃ y2 y8 y9 y10 y11 ss sw n, σ = [some (.ref sc), some (.ref b), y2, none, some (.int root), some (.ref S), some (.ref Z), some (.ref W), y8, y9, y10, y11] ∧ LS T tg G b sb S Z W x d l z ss ss sw sw n, ?_, ?_⟩
    · refine ⟨.ref b, rfl, b, sb, 25, rfl, L0.bag, by decide, by decide, fun zt G t0 t1 BG kG => ?_⟩
      replace L0 := L0.keep kG BG
      obtain ⟨m, rfl⟩ := Int.eq_ofNat_of_zero_le t0
      refine ⟨(m : Int), rfl, by omega, by omega, for_range (lo := 0) (n := m) (fun i σ G => ∃ y2 y8 y9 y10 y11 ss sw, σ = [some (.ref sc), some (.ref b), y2, none, some (.int root), some (.ref S), some (.ref Z), some (.ref W), y8, y9, y10, y11] ∧ LS T tg G b sb S Z W x d l z ss ss sw sw i) ⟨none, none, none, none, none, _, _, rfl, L0⟩ ?_ ?_⟩
      · clear L0
        rintro i σ G1 hi ⟨y2, y8, y9, y10, y11, ss, sw, rfl, L⟩
        refine ⟨.ref b, rfl, .int root, rfl, b, sb, root, rfl, L.bag, hroot, fun p ts G2 a0 a1 ab hp B2 k2 => ⟨.ref b, rfl, b, sb, 4, rfl, B2, by decide, by decide, fun zt G3 b0 b1 B3 k3 => ⟨_, _, rfl, ?_⟩⟩⟩
        replace L := (L.keep k2 B2).keep k3 B3
        replace hp := hp.mono (tup_keep B2 k3)
        obtain ⟨j, rfl⟩ := Int.eq_ofNat_of_zero_le b0
        have j4 : j < 4 := by omega
        refine ⟨_, rfl, p, ts, rfl, hp, by omega, fun G4 s4 => ⟨stepB ts, rfl, ?_⟩⟩
        replace L := L.same s4
        replace hp := hp.same s4
        cases good : stepB ts with
        | false => exact iteT ⟨_, _, _, _, _, ss, sw, rfl, L.le (Nat.le_succ i)⟩
        | true =>
          refine iteF ?_
          have sh := good_shaped good
          obtain ⟨k, rfl⟩ : ∃ k : _root_.Fin 4, k.val = j := ⟨⟨j, j4⟩, rfl⟩
          refine ⟨fun σ G => σ = [some (.ref sc), some (.ref b), some (.int (0 + (i : Int))), none, some (.int root), some (.ref S), some (.ref Z), some (.ref W), y8, some (.ref p), some (.int (k.val : Int)), y11] ∧ LS T tg G b sb S Z W x d l z (upF ss k (ss k ++ [ts])) ss (upF sw k (swN (kdOf k) (sw k) ts)) sw (i + 1) ∧ StepAt G p ts, ?_, ?_⟩
          · have i9 : i + 1 ≤ 900 := by omega
            have lk := L.ln k
            have tk := L.tal k
            have kd : kdOf k = 0 ∨ kdOf k = 1 ∨ kdOf k = 2 := by unfold kdOf; omega
            have fin : ∀ G', TalAt T G' (kdOf k) (x k) (d k) (l k) (ss k ++ [ts]) (swN (kdOf k) (sw k) ts) → Kp (chg (kdOf k) (x k) (d k) (l k)) G4 G' → LS T tg G' b sb S Z W x d l z (upF ss k (ss k ++ [ts])) ss (upF sw k (swN (kdOf k) (sw k) ts)) sw (i + 1) ∧ StepAt G' p ts := fun G' h1 h2 => ⟨L.note h1 h2 sh i9, hp.mono (tk.tups h2)⟩
            rcases kd with e | e | e
            · rw [e] at tk fin ⊢
              obtain ⟨⟨dx, t, h1, _⟩, _⟩ := id tk
              refine .inl ⟨_, rfl, _, rfl, S, _, _, .ref (x k), rfl, rfl, SqL.of L.hS, at4 x k, x k, dx, _, rfl, h1, rfl, _, rfl, ?_⟩
              unfold tNil
              exact note_T tk hp sh (by omega) fun G' h1 h2 => ⟨rfl, fin G' h1 h2⟩
            · rw [e] at tk fin ⊢
              obtain ⟨⟨dx, t, h1, _⟩, _⟩ := id tk
              refine .inr (.inl ⟨_, rfl, _, rfl, S, _, _, .ref (x k), rfl, rfl, SqL.of L.hS, at4 x k, x k, dx, _, rfl, h1, rfl, _, rfl, ?_⟩)
              unfold tNil
              exact note_J tk hp sh (by omega) fun G' h1 h2 => ⟨rfl, fin G' h1 h2⟩
            · rw [e] at tk fin ⊢
              obtain ⟨⟨dx, t, h1, _⟩, _⟩ := id tk
              refine .inr (.inr ⟨_, rfl, _, rfl, S, _, _, .ref (x k), rfl, rfl, SqL.of L.hS, at4 x k, x k, dx, _, rfl, h1, rfl, _, rfl, ?_⟩)
              unfold tNil
              exact note_C tk hp sh ab (by omega) fun G' h1 h2 => ⟨rfl, fin G' h1 h2⟩
          clear L hp
          rintro σ G5 ⟨rfl, L, hp⟩
          refine ⟨fun σ G => σ = [some (.ref sc), some (.ref b), some (.int (0 + (i : Int))), none, some (.int root), some (.ref S), some (.ref Z), some (.ref W), y8, some (.ref p), some (.int (k.val : Int)), y11] ∧ LS T tg G b sb S Z W x d l z (upF ss k (ss k ++ [ts])) (upF ss k (ss k ++ [ts])) (upF sw k (swN (kdOf k) (sw k) ts)) sw (i + 1) ∧ StepAt G p ts, ?_, ?_⟩
          · obtain ⟨as, h1, h2⟩ := L.zs k
            have la := Paired.length h2
            have lk := L.ln k
            have : (upF ss k (ss k ++ [ts]) k).length = (ss k).length + 1 := by unfold upF; rw [if_pos rfl, List.length_append]; rfl
            refine ⟨_, rfl, _, rfl, Z, _, _, .ref (z k), rfl, rfl, SqL.of L.hZ, at4 z k, .inl ⟨rfl, _, SqL.of h1⟩, _, rfl, z k, _, .ref p, rfl, rfl, h1, ?_, rfl, L.app h1 h2 hp, hp.mono (tup_put h1)⟩
            rw [List.length_map]
            exact small1000 (by omega)
          clear L hp
          rintro σ G6 ⟨rfl, L, hp⟩
          refine ⟨fun σ G => σ = [some (.ref sc), some (.ref b), some (.int (0 + (i : Int))), none, some (.int root), some (.ref S), some (.ref Z), some (.ref W), y8, some (.ref p), some (.int (k.val : Int)), y11] ∧ LS T tg G b sb S Z W x d l z (upF ss k (ss k ++ [ts])) (upF ss k (ss k ++ [ts])) (upF sw k (swN (kdOf k) (sw k) ts)) (upF sw k (swN (kdOf k) (sw k) ts)) (i + 1), ?_, ?_⟩
          · refine ⟨_, rfl, (k.val : Int), 1, rfl, rfl, _, rfl, ite2 (fun e => ?_) (fun e => ?_)⟩
            · have k1 : 1 < k.val := by
                have := of_decide_eq_true e
                omega
              obtain ⟨u, v, w1, w2, w3⟩ := L.hW
              obtain rfl | rfl : k = 2 ∨ k = 3 := by omega
              · refine ⟨_, rfl, _, rfl, 2, 2, rfl, rfl, W, _, _, .ref u, rfl, rfl, SqL.of w1, atI_nat (j := 0) rfl, _, rfl, p, ts, rfl, hp, sh, ab, fun r G8 s1 hr => ⟨u, r, _, _, _, _, rfl, s1 _ _ w2, hr, fun r2 G9 nr s2 hr2 => ?_⟩⟩
                have s12 := s1.trans s2
                exact ⟨_, rfl, _, rfl, 2, 2, rfl, rfl, W, _, _, 0, rfl, rfl, s12 _ _ w1, rfl, rfl, (L.same s12).saw (u := r2) (v := v) (sv' := upF sw 2 (swN (kdOf 2) (sw 2) ts)) hr2 (s12 _ _ w3)⟩
              · refine ⟨_, rfl, _, rfl, 3, 2, rfl, rfl, W, _, _, .ref v, rfl, rfl, SqL.of w1, atI_nat (j := 1) rfl, _, rfl, p, ts, rfl, hp, sh, ab, fun r G8 s1 hr => ⟨v, r, _, _, _, _, rfl, s1 _ _ w3, hr, fun r2 G9 nr s2 hr2 => ?_⟩⟩
                have s12 := s1.trans s2
                exact ⟨_, rfl, _, rfl, 3, 2, rfl, rfl, W, _, _, 1, rfl, rfl, s12 _ _ w1, rfl, rfl, (L.same s12).saw (u := u) (v := r2) (sv' := upF sw 3 (swN (kdOf 3) (sw 3) ts)) (s12 _ _ w2) hr2⟩
            · have k1 : k.val < 2 := by
                have : ¬ (1 : Int) < (k.val : Int) := fun z => e (decide_eq_true z)
                omega
              refine ⟨rfl, L.swap ?_ ?_⟩
              · unfold upF
                rw [if_neg fun z => by rw [← z] at k1; exact absurd k1 (by decide)]
              · unfold upF
                rw [if_neg fun z => by rw [← z] at k1; exact absurd k1 (by decide)]
          clear L hp
          rintro σ G7 ⟨rfl, L⟩
          generalize upF ss k (ss k ++ [ts]) = ss' at L
          generalize upF sw k (swN (kdOf k) (sw k) ts) = sw' at L
          refine ⟨fun σ G => ∃ y8, σ = [some (.ref sc), some (.ref b), some (.int (0 + (i : Int))), none, some (.int root), some (.ref S), some (.ref Z), some (.ref W), y8, some (.ref p), some (.int (k.val : Int)), y11] ∧ LS T tg G b sb S Z W x d l z ss' ss' sw' sw' (i + 1), ?_, ?_⟩
          · refine ⟨4, rfl, by decide, by decide, for_range (lo := 0) (n := 4) (fun j σ G => ∃ y8, σ = [some (.ref sc), some (.ref b), some (.int (0 + (i : Int))), none, some (.int root), some (.ref S), some (.ref Z), some (.ref W), y8, some (.ref p), some (.int (k.val : Int)), y11] ∧ LS T tg G b sb S Z W x d l z ss' ss' sw' sw' (i + 1)) ⟨_, rfl, L⟩ ?_ (fun σ G z => z)⟩
            clear L
            rintro j σ G8 hj ⟨y8', rfl, L⟩
            have tk := L.tal ⟨j, hj⟩
            have zk := L.zs ⟨j, hj⟩
            have lk := L.ln ⟨j, hj⟩
            have shk := L.sh ⟨j, hj⟩
            obtain ⟨⟨dx, t, h1, _⟩, _⟩ := id tk
            obtain ⟨as, g1, g2⟩ := id zk
            have la := Paired.length g2
            have tc : TCls K (clsOf T (kdOf ⟨j, hj⟩)) := by
              match kdOf ⟨j, hj⟩ with
              | 0 => exact clsT T
              | 1 => exact clsJ T
              | _ + 2 => exact clsC T
            refine ⟨_, rfl, _, rfl, S, _, _, .ref (x ⟨j, hj⟩), rfl, rfl, SqL.of L.hS, at4a x hj, x ⟨j, hj⟩, _, dx, _, .int ((ss' ⟨j, hj⟩).length : Nat), rfl, h1, tc.cl, tc.nn, rfl, ?_⟩
            refine ⟨_, rfl, _, rfl, Z, _, _, .ref (z ⟨j, hj⟩), rfl, rfl, SqL.of L.hZ, at4a z hj, z ⟨j, hj⟩, _, rfl, .inl (SqL.of g1), rfl, false, ?_, iteF ?_⟩
            · rw [List.length_map, la, decide_eq_true rfl]
              rfl
            refine ⟨kdOf ⟨j, hj⟩, _, rfl, _, rfl, S, _, _, .ref (x ⟨j, hj⟩), rfl, rfl, SqL.of L.hS, at4a x hj, x ⟨j, hj⟩, dx, _, rfl, h1, look_counts _ _ _ _ _, counts_use tk fun p1 kvs np1 cn => ?_⟩
            have s1 := same_new (o := .dK kvs) np1
            replace L := L.same s1
            replace zk := zk.same s1
            refine ⟨_, rfl, _, rfl, Z, _, _, .ref (z ⟨j, hj⟩), rfl, rfl, SqL.of L.hZ, at4a z hj, p1, z ⟨j, hj⟩, kvs, ss' ⟨j, hj⟩, rfl, upd_same, cn, zk, shk, by omega, fun G9 s2 => ⟨true, rfl, iteF ?_⟩⟩
            replace L := L.same s2
            replace tk := (tk.same s1).same s2
            replace h1 := s2 _ _ (s1 _ _ h1)
            generalize upd G8 p1 (.dK kvs) = Gx at *
            refine ⟨kdOf ⟨j, hj⟩, _, rfl, _, rfl, S, _, _, .ref (x ⟨j, hj⟩), rfl, rfl, SqL.of L.hS, at4a x hj, x ⟨j, hj⟩, dx, _, rfl, h1, look_counts _ _ _ _ _, counts_use tk fun p2 kvs2 np2 cn2 => ?_⟩
            have s3 := same_new (o := .dK kvs2) np2
            have h2 : upd G9 p2 (.dK kvs2) p2 = some (.dK kvs2) := upd_same
            refine ⟨.inr (.inr (.inl ⟨rfl, .inl ⟨kvs2, h2⟩⟩)), p2, kvs2, rfl, rfl, h2, _, rfl, L.same fun a o e => ?_⟩
            rw [upd_ne (ne_of_none e np2), upd_ne (ne_of_none e np2)]
            exact e
          rintro σ G8 ⟨y8', rfl, L⟩
          refine ⟨fun σ G => ∃ y8 y11, σ = [some (.ref sc), some (.ref b), some (.int (0 + (i : Int))), none, some (.int root), some (.ref S), some (.ref Z), some (.ref W), y8, some (.ref p), some (.int (k.val : Int)), y11] ∧ LS T tg G b sb S Z W x d l z ss' ss' sw' sw' (i + 1), ?_, ?_⟩
          · refine ⟨1, 4, rfl, ⟨by decide, by decide, by decide, by decide⟩, for_range (lo := 1) (n := 3) (fun j σ G => ∃ y8 y11, σ = [some (.ref sc), some (.ref b), some (.int (0 + (i : Int))), none, some (.int root), some (.ref S), some (.ref Z), some (.ref W), y8, some (.ref p), some (.int (k.val : Int)), y11] ∧ LS T tg G b sb S Z W x d l z ss' ss' sw' sw' (i + 1)) ⟨_, _, rfl, L⟩ ?_ (fun σ G z => z)⟩
            clear L
            rintro j σ G9 hj ⟨y8', y11', rfl, L⟩
            have h4 : 1 + j < 4 := by omega
            have tk := L.tal ⟨1 + j, h4⟩
            have zk := L.zs ⟨1 + j, h4⟩
            have lk := L.ln ⟨1 + j, h4⟩
            have shk := L.sh ⟨1 + j, h4⟩
            obtain ⟨⟨dx, t, h1, _⟩, _⟩ := id tk
            refine ⟨kdOf ⟨1 + j, h4⟩, (by unfold kdOf; show min (1 + j) 2 ≠ 0; omega), _, rfl, _, rfl, S, _, _, .ref (x ⟨1 + j, h4⟩), rfl, rfl, SqL.of L.hS, at4b x h4, x ⟨1 + j, h4⟩, dx, _, rfl, h1, look_told _ _ _ _ _, told_use2 tk (by unfold kdOf; show min (1 + j) 2 ≠ 0; omega) fun p1 as np hP => ?_⟩
            have s1 := same_new (o := .lst (as.map V.ref)) np
            have hp1 : upd G9 p1 (.lst (as.map V.ref)) p1 = some (.lst (as.map V.ref)) := upd_same
            have st1 : StepsL (upd G9 p1 (.lst (as.map V.ref))) p1 (ss' ⟨1 + j, h4⟩) := ⟨as, upd_same, steps_mono (fun a xs e => s1 _ _ e) hP⟩
            have L1 := L.same s1
            refine ⟨_, rfl, _, rfl, _, rfl, Z, _, _, .ref (z ⟨1 + j, h4⟩), rfl, rfl, SqL.of L1.hZ, at4b z h4, _, _, rfl, lk_steps (n := 2) st1 (zk.same s1) (fun t ht => Nat.le_trans (shk t ht).len (by decide)) (by omega), fun G10 s2 => ⟨true, rfl, iteF ?_⟩⟩
            have hp2 := s2 _ _ hp1
            have la := Paired.length hP
            refine ⟨_, rfl, .inl ⟨rfl, _, SqL.of hp2⟩, p1, _, .non, rfl, rfl, hp2, ?_, _, _, rfl, L.same fun a o e => ?_⟩
            · rw [List.length_map]
              exact small1000 (by omega)
            · rw [upd_ne (ne_of_none e np)]
              exact s2 _ _ (s1 _ _ e)
          rintro σ G9 ⟨y8', y11', rfl, L⟩
          obtain ⟨u, v, w1, w2, w3⟩ := L.hW
          obtain ⟨⟨dx2, t2, h2, r2⟩, _⟩ := L.tal 2
          obtain ⟨⟨dx3, t3, h3, r3⟩, _⟩ := L.tal 3
          replace r2 := r2 rfl
          replace r3 := r3 rfl
          refine ⟨_, rfl, S, _, 2, .ref (x 2), rfl, rfl, SqL.of L.hS, atI_nat (j := 2) rfl, x 2, _, dx2, _, .ref t2, rfl, h2, (clsC T).cl, (clsC T).ns, rfl, ?_⟩
          refine ⟨_, rfl, S, _, 3, .ref (x 3), rfl, rfl, SqL.of L.hS, atI_nat (j := 3) rfl, x 3, _, dx3, _, .ref t3, rfl, h3, (clsC T).cl, (clsC T).ns, rfl, by show 2 ≤ sizeLine; decide, fun l9 n9 => ?_⟩
          have e9 := same_new (o := .lst [V.ref t2, .ref t3]) n9
          refine ⟨_, rfl, _, _, rfl, Lk.lists upd_same (e9 _ _ w1) (by simp) (.cons (Lk.pair (e9 _ _ r2) (e9 _ _ w2) rfl rfl) (.cons (Lk.pair (e9 _ _ r3) (e9 _ _ w3) rfl rfl) .nil)), fun G11 s11 => ⟨true, rfl, iteF ?_⟩⟩
          exact ⟨_, _, _, _, _, ss', sw', rfl, (L.same e9).same s11⟩
      · rintro σ G1 ⟨y2, y8, y9, y10, y11, ss, sw, rfl, L⟩
        exact ⟨_, _, _, _, _, ss, sw, m, rfl, L⟩
    rintro σ G ⟨y2, y8, y9, y10, y11, ss, sw, n, rfl, L⟩
    obtain ⟨⟨dx1, t1, h1, _⟩, _⟩ := L.tal 1
    obtain ⟨⟨dx2, t2, h2, _⟩, _⟩ := L.tal 2
    have tJ := TyX.base (TyOf.ins h1 T.cl_Journal T.caJ T.hn T.ht T.moJ)
    have tC := TyX.base (TyOf.ins h2 T.cl_CutTally T.caC T.hn T.ht T.moC)
    refine ⟨_, rfl, S, _, 2, .ref (x 2), rfl, rfl, SqL.of L.hS, atI_nat (j := 2) rfl, .ref (x 2), .ref T.C_Journal, .ref T.C_CutTally, .ref T.C_Journal, true, rfl, ClsV.own _, tC, kit_own T.neCJ T.icJ T.twJ T.sbCJ, ?_⟩
    refine ⟨_, rfl, S, _, 1, .ref (x 1), rfl, rfl, SqL.of L.hS, atI_nat (j := 1) rfl, .ref (x 1), .ref T.C_Tally, .ref T.C_Journal, .ref T.C_Tally, true, rfl, ClsV.own _, tJ, kit_own T.neJT T.icT T.twT T.sbJT, ?_⟩
    refine ⟨_, rfl, S, _, 1, .ref (x 1), rfl, rfl, SqL.of L.hS, atI_nat (j := 1) rfl, .ref (x 1), .ref T.C_CutTally, .ref T.C_Journal, .ref T.C_CutTally, false, rfl, ClsV.own _, tJ, kit_own T.neCJ.symm T.icC T.twC T.sbJC, ?_⟩
    refine ⟨by show 3 ≤ sizeLine; decide, fun l1 n1 => ?_⟩
    have hl1 : upd G l1 (.lst [V.bl true, .bl true, .bl false]) l1 = some (.lst [V.bl true, .bl true, .bl false]) := upd_same
    generalize upd G l1 (.lst [V.bl true, .bl true, .bl false]) = G1 at hl1 ⊢
    refine ⟨_, rfl, by show 3 ≤ sizeLine; decide, fun l2 n2 => ?_⟩
    have e2 := same_new (o := .lst [V.bl true, .bl true, .bl false]) n2
    refine ⟨.list [.bool true, .bool true, .bool false], .list [.bool true, .bool true, .bool false], .lst (SqL.of (e2 _ _ hl1)) (.cons (.bl _) (.cons (.bl _) (.cons (.bl _) .nil))), .lst (SqL.of upd_same) (.cons (.bl _) (.cons (.bl _) (.cons (.bl _) .nil))), by kernel_rfl, by kernel_rfl, true, by kernel_rfl, iteT ?_⟩
    refine mk_T fun x4 d4 H4 s4 t4 _ => ?_
    obtain ⟨⟨dx4, u4, h4, _⟩, _⟩ := t4 x4 (0, 0)
    refine ⟨x4, dx4, _, rfl, h4, rfl, ?_⟩
    unfold tNil
    refine counts_use (t4 x4 (0, 0)) fun p kvs np cn => ?_
    have ek : kvs = [] := by
      have := cn.len
      exact List.length_eq_zero_iff.mp (Nat.le_zero.mp this)
    subst ek
    refine fun p2 n3 => ⟨p, p2, [], [], rfl, rfl, (upd_ne (ne_of_none upd_same n3)).trans upd_same, upd_same, rfl, (fun _ m => nomatch m), true, rfl, iteT ?_⟩
    refine mk_C fun x5 d5 l5 H5 s5 t5 _ => ?_
    obtain ⟨⟨dx5, u5, h5, r5⟩, _⟩ := t5
    replace r5 := r5 rfl
    refine ⟨x5, _, dx5, _, .ref u5, rfl, h5, (clsC T).cl, (clsC T).ns, rfl, by show 2 ≤ sizeLine; decide, fun p3 n4 => ?_⟩
    have e4 := same_new (o := .tup [V.int 0, .int 0]) n4
    refine ⟨_, _, dpair (e4 _ _ r5), dpair upd_same, by kernel_rfl, by kernel_rfl, ?_⟩
    rw [show PyData.eqv (.tuple [.int 0, .int 0]) (.tuple [.int 0, .int 0]) = true by rw [pair_eqv]; rfl]
    exact q _
end
theorem all_mk {w : World} {K : PySem.W.Frag} {h : Heap} {mg : Str → Option Value} {fa : Addr} (X : K.In h) (G : h.Ns mainGlobals mg) (hfa : mg "law" = some (.ref fa))
    {C_Tally : Addr} (aC_Tally : PySem.W.nsIn K mainGlobals "Tally" = some (some (.ref C_Tally))) (pg_Tally : PySem.W.plainGet K C_Tally Str.empty = true) (hd_Tally : PySem.W.hasDictIn K C_Tally = true) (po_Tally : PySem.W.plainOver K C_Tally = true) (sa_Tally : PySem.W.findIn K (.ref C_Tally) "__setattr__" = some (some (.builtin "object.__setattr__"))) (mk_Tally : PySem.W.makesIn K C_Tally = true) (kc_Tally : PySem.W.keepIn K (.ref C_Tally) = true) (sf_Tally : PySem.W.selfFirst K C_Tally = true) (nq_Tally : PySem.W.noSeq K C_Tally = true) (n_Tally_notes : PySem.W.findIn K (.ref C_Tally) "notes" = some none) (n_Tally_words : PySem.W.findIn K (.ref C_Tally) "words" = some none) (n_Tally_kept : PySem.W.findIn K (.ref C_Tally) "kept" = some none) (n_Tally_sawn : PySem.W.findIn K (.ref C_Tally) "sawn" = some none)
    {C_Journal : Addr} (aC_Journal : PySem.W.nsIn K mainGlobals "Journal" = some (some (.ref C_Journal))) (pg_Journal : PySem.W.plainGet K C_Journal Str.empty = true) (hd_Journal : PySem.W.hasDictIn K C_Journal = true) (po_Journal : PySem.W.plainOver K C_Journal = true) (sa_Journal : PySem.W.findIn K (.ref C_Journal) "__setattr__" = some (some (.builtin "object.__setattr__"))) (mk_Journal : PySem.W.makesIn K C_Journal = true) (kc_Journal : PySem.W.keepIn K (.ref C_Journal) = true) (sf_Journal : PySem.W.selfFirst K C_Journal = true) (nq_Journal : PySem.W.noSeq K C_Journal = true) (n_Journal_notes : PySem.W.findIn K (.ref C_Journal) "notes" = some none) (n_Journal_words : PySem.W.findIn K (.ref C_Journal) "words" = some none) (n_Journal_kept : PySem.W.findIn K (.ref C_Journal) "kept" = some none) (n_Journal_sawn : PySem.W.findIn K (.ref C_Journal) "sawn" = some none)
    {C_CutTally : Addr} (aC_CutTally : PySem.W.nsIn K mainGlobals "CutTally" = some (some (.ref C_CutTally))) (pg_CutTally : PySem.W.plainGet K C_CutTally Str.empty = true) (hd_CutTally : PySem.W.hasDictIn K C_CutTally = true) (po_CutTally : PySem.W.plainOver K C_CutTally = true) (sa_CutTally : PySem.W.findIn K (.ref C_CutTally) "__setattr__" = some (some (.builtin "object.__setattr__"))) (mk_CutTally : PySem.W.makesIn K C_CutTally = true) (kc_CutTally : PySem.W.keepIn K (.ref C_CutTally) = true) (sf_CutTally : PySem.W.selfFirst K C_CutTally = true) (nq_CutTally : PySem.W.noSeq K C_CutTally = true) (n_CutTally_notes : PySem.W.findIn K (.ref C_CutTally) "notes" = some none) (n_CutTally_words : PySem.W.findIn K (.ref C_CutTally) "words" = some none) (n_CutTally_kept : PySem.W.findIn K (.ref C_CutTally) "kept" = some none) (n_CutTally_sawn : PySem.W.findIn K (.ref C_CutTally) "sawn" = some none)
    {od0 an0 : Option Addr} {sl0 : Array (Option Value)} {kV0 oc0 dc0 pm0 cd0 ct0 : Value} {f0 : Addr}
    (a0 : PySem.W.nsIn K mainGlobals "added" = some (some (.ref f0))) (l0 : K.lookup f0 = some ⟨oc0, od0, .func (PySem.W.fnOf "added" "added" (defArgs s_added) (defBody s_added) (defScope s_added) .none kV0 dc0 pm0 an0 cd0 ct0), sl0⟩) (c0 : PySem.W.codeIn K cd0 "added" = true) (k0 : PySem.W.keepIn K (.ref f0) = true)
    {od1 an1 : Option Addr} {sl1 : Array (Option Value)} {kV1 oc1 dc1 pm1 cd1 ct1 : Value} {f1 : Addr}
    (a1 : PySem.W.nsIn K mainGlobals "scaled" = some (some (.ref f1))) (l1 : K.lookup f1 = some ⟨oc1, od1, .func (PySem.W.fnOf "scaled" "scaled" (defArgs s_scaled) (defBody s_scaled) (defScope s_scaled) .none kV1 dc1 pm1 an1 cd1 ct1), sl1⟩) (c1 : PySem.W.codeIn K cd1 "scaled" = true) (k1 : PySem.W.keepIn K (.ref f1) = true)
    {od2 an2 : Option Addr} {sl2 : Array (Option Value)} {kV2 oc2 dc2 pm2 cd2 ct2 : Value} {f2 : Addr}
    (a2 : PySem.W.nsIn K mainGlobals "turned" = some (some (.ref f2))) (l2 : K.lookup f2 = some ⟨oc2, od2, .func (PySem.W.fnOf "turned" "turned" (defArgs s_turned) (defBody s_turned) (defScope s_turned) .none kV2 dc2 pm2 an2 cd2 ct2), sl2⟩) (c2 : PySem.W.codeIn K cd2 "turned" = true) (k2 : PySem.W.keepIn K (.ref f2) = true)
    {od3 an3 : Option Addr} {sl3 : Array (Option Value)} {kV3 oc3 dc3 pm3 cd3 ct3 : Value} {f3 : Addr}
    (a3 : PySem.W.nsIn K mainGlobals "side_of" = some (some (.ref f3))) (l3 : K.lookup f3 = some ⟨oc3, od3, .func (PySem.W.fnOf "side_of" "side_of" (defArgs s_side_of) (defBody s_side_of) (defScope s_side_of) .none kV3 dc3 pm3 an3 cd3 ct3), sl3⟩) (c3 : PySem.W.codeIn K cd3 "side_of" = true) (k3 : PySem.W.keepIn K (.ref f3) = true)
    {od4 an4 : Option Addr} {sl4 : Array (Option Value)} {kV4 oc4 dc4 pm4 cd4 ct4 : Value} {f4 : Addr}
    (a4 : PySem.W.nsIn K mainGlobals "cuts_of" = some (some (.ref f4))) (l4 : K.lookup f4 = some ⟨oc4, od4, .func (PySem.W.fnOf "cuts_of" "cuts_of" (defArgs s_cuts_of) (defBody s_cuts_of) (defScope s_cuts_of) .none kV4 dc4 pm4 an4 cd4 ct4), sl4⟩) (c4 : PySem.W.codeIn K cd4 "cuts_of" = true) (k4 : PySem.W.keepIn K (.ref f4) = true)
    {od5 an5 : Option Addr} {sl5 : Array (Option Value)} {kV5 oc5 dc5 pm5 cd5 ct5 : Value} {f5 : Addr}
    (a5 : PySem.W.nsIn K mainGlobals "sawn_by" = some (some (.ref f5))) (l5 : K.lookup f5 = some ⟨oc5, od5, .func (PySem.W.fnOf "sawn_by" "sawn_by" (defArgs s_sawn_by) (defBody s_sawn_by) (defScope s_sawn_by) .none kV5 dc5 pm5 an5 cd5 ct5), sl5⟩) (c5 : PySem.W.codeIn K cd5 "sawn_by" = true) (k5 : PySem.W.keepIn K (.ref f5) = true)
    {od6 an6 : Option Addr} {sl6 : Array (Option Value)} {oc6 dc6 pm6 cd6 ct6 : Value} {f6 : Addr} {kV6 : Value}
    (a6 : PySem.W.findIn K (.ref C_Tally) "__init__" = some (some (.ref f6))) (i6 : PySem.W.isFn K (.ref f6) = true) (l6 : K.lookup f6 = some ⟨oc6, od6, .func (PySem.W.fnOf "__init__" "Tally.__init__" (defArgs s_Tally_init) (defBody s_Tally_init) (defScope s_Tally_init) .none kV6 dc6 pm6 an6 cd6 ct6), sl6⟩) (c6 : PySem.W.codeIn K cd6 "Tally.__init__" = true) (k6 : PySem.W.keepIn K (.ref f6) = true)
    {od7 an7 : Option Addr} {sl7 : Array (Option Value)} {oc7 dc7 pm7 cd7 ct7 : Value} {f7 : Addr} {kV7 : Value}
    (a7 : PySem.W.findIn K (.ref C_Tally) "note" = some (some (.ref f7))) (i7 : PySem.W.isFn K (.ref f7) = true) (l7 : K.lookup f7 = some ⟨oc7, od7, .func (PySem.W.fnOf "note" "Tally.note" (defArgs s_Tally_note) (defBody s_Tally_note) (defScope s_Tally_note) .none kV7 dc7 pm7 an7 cd7 ct7), sl7⟩) (c7 : PySem.W.codeIn K cd7 "Tally.note" = true) (k7 : PySem.W.keepIn K (.ref f7) = true)
    {od8 an8 : Option Addr} {sl8 : Array (Option Value)} {oc8 dc8 pm8 cd8 ct8 : Value} {f8 : Addr} {kV8 : Value}
    (a8 : PySem.W.findIn K (.ref C_Tally) "counts" = some (some (.ref f8))) (i8 : PySem.W.isFn K (.ref f8) = true) (l8 : K.lookup f8 = some ⟨oc8, od8, .func (PySem.W.fnOf "counts" "Tally.counts" (defArgs s_Tally_counts) (defBody s_Tally_counts) (defScope s_Tally_counts) .none kV8 dc8 pm8 an8 cd8 ct8), sl8⟩) (c8 : PySem.W.codeIn K cd8 "Tally.counts" = true) (k8 : PySem.W.keepIn K (.ref f8) = true)
    (S_Journal_init : SupF PySem.Challenge.pw_grainyard_k52_tallies_and_journals K mg "__init__" "Journal.__init__" s_Journal_init C_Journal)
    (S_Journal_note : SupF PySem.Challenge.pw_grainyard_k52_tallies_and_journals K mg "note" "Journal.note" s_Journal_note C_Journal)
    {od11 an11 : Option Addr} {sl11 : Array (Option Value)} {oc11 dc11 pm11 cd11 ct11 : Value} {f11 : Addr} {kV11 : Value}
    (a11 : PySem.W.findIn K (.ref C_Journal) "told" = some (some (.ref f11))) (i11 : PySem.W.isFn K (.ref f11) = true) (l11 : K.lookup f11 = some ⟨oc11, od11, .func (PySem.W.fnOf "told" "Journal.told" (defArgs s_Journal_told) (defBody s_Journal_told) (defScope s_Journal_told) .none kV11 dc11 pm11 an11 cd11 ct11), sl11⟩) (c11 : PySem.W.codeIn K cd11 "Journal.told" = true) (k11 : PySem.W.keepIn K (.ref f11) = true)
    (S_CutTally_init : SupF PySem.Challenge.pw_grainyard_k52_tallies_and_journals K mg "__init__" "CutTally.__init__" s_CutTally_init C_CutTally)
    (S_CutTally_note : SupF PySem.Challenge.pw_grainyard_k52_tallies_and_journals K mg "note" "CutTally.note" s_CutTally_note C_CutTally)
    (S_CutTally_told : SupF PySem.Challenge.pw_grainyard_k52_tallies_and_journals K mg "told" "CutTally.told" s_CutTally_told C_CutTally)
    {od15 an15 : Option Addr} {sl15 : Array (Option Value)} {kV15 oc15 dc15 pm15 cd15 ct15 : Value} {f15 : Addr}
    (a15 : PySem.W.nsIn K mainGlobals "_law_source" = some (some (.ref f15))) (l15 : K.lookup f15 = some ⟨oc15, od15, .func (PySem.W.fnOf "_law_source" "_law_source" (defArgs s_source) (defBody s_source) (defScope s_source) .none kV15 dc15 pm15 an15 cd15 ct15), sl15⟩) (c15 : PySem.W.codeIn K cd15 "_law_source" = true) (k15 : PySem.W.keepIn K (.ref f15) = true)
    {od16 an16 : Option Addr} {sl16 : Array (Option Value)} {kV16 oc16 dc16 pm16 cd16 ct16 : Value} {f16 : Addr}
    (a16 : PySem.W.nsIn K mainGlobals "_law_pull" = some (some (.ref f16))) (l16 : K.lookup f16 = some ⟨oc16, od16, .func (PySem.W.fnOf "_law_pull" "_law_pull" (defArgs s_pull) (defBody s_pull) (defScope s_pull) .none kV16 dc16 pm16 an16 cd16 ct16), sl16⟩) (c16 : PySem.W.codeIn K cd16 "_law_pull" = true) (k16 : PySem.W.keepIn K (.ref f16) = true)
    {od17 an17 : Option Addr} {sl17 : Array (Option Value)} {kV17 oc17 dc17 pm17 cd17 ct17 : Value} {f17 : Addr}
    (a17 : PySem.W.nsIn K mainGlobals "_law_of" = some (some (.ref f17))) (l17 : K.lookup f17 = some ⟨oc17, od17, .func (PySem.W.fnOf "_law_of" "_law_of" (defArgs s_of) (defBody s_of) (defScope s_of) .none kV17 dc17 pm17 an17 cd17 ct17), sl17⟩) (c17 : PySem.W.codeIn K cd17 "_law_of" = true) (k17 : PySem.W.keepIn K (.ref f17) = true)
    {od18 an18 : Option Addr} {sl18 : Array (Option Value)} {kV18 oc18 dc18 pm18 cd18 ct18 : Value} {f18 : Addr}
    (a18 : PySem.W.nsIn K mainGlobals "_law_roots" = some (some (.ref f18))) (l18 : K.lookup f18 = some ⟨oc18, od18, .func (PySem.W.fnOf "_law_roots" "_law_roots" (defArgs s_roots) (defBody s_roots) (defScope s_roots) .none kV18 dc18 pm18 an18 cd18 ct18), sl18⟩) (c18 : PySem.W.codeIn K cd18 "_law_roots" = true) (k18 : PySem.W.keepIn K (.ref f18) = true)
    {od19 an19 : Option Addr} {sl19 : Array (Option Value)} {kV19 oc19 dc19 pm19 cd19 ct19 : Value} {f19 : Addr}
    (a19 : PySem.W.nsIn K mainGlobals "_law_a_root" = some (some (.ref f19))) (l19 : K.lookup f19 = some ⟨oc19, od19, .func (PySem.W.fnOf "_law_a_root" "_law_a_root" (defArgs s_a_root) (defBody s_a_root) (defScope s_a_root) .none kV19 dc19 pm19 an19 cd19 ct19), sl19⟩) (c19 : PySem.W.codeIn K cd19 "_law_a_root" = true) (k19 : PySem.W.keepIn K (.ref f19) = true)
    {od20 an20 : Option Addr} {sl20 : Array (Option Value)} {kV20 oc20 dc20 pm20 cd20 ct20 : Value} {f20 : Addr}
    (a20 : PySem.W.nsIn K mainGlobals "_law_any_pair" = some (some (.ref f20))) (l20 : K.lookup f20 = some ⟨oc20, od20, .func (PySem.W.fnOf "_law_any_pair" "_law_any_pair" (defArgs s_any_pair) (defBody s_any_pair) (defScope s_any_pair) .none kV20 dc20 pm20 an20 cd20 ct20), sl20⟩) (c20 : PySem.W.codeIn K cd20 "_law_any_pair" = true) (k20 : PySem.W.keepIn K (.ref f20) = true)
    {od21 an21 : Option Addr} {sl21 : Array (Option Value)} {kV21 oc21 dc21 pm21 cd21 ct21 : Value} {f21 : Addr}
    (a21 : PySem.W.nsIn K mainGlobals "_law_sign" = some (some (.ref f21))) (l21 : K.lookup f21 = some ⟨oc21, od21, .func (PySem.W.fnOf "_law_sign" "_law_sign" (defArgs s_lsign) (defBody s_lsign) (defScope s_lsign) .none kV21 dc21 pm21 an21 cd21 ct21), sl21⟩) (c21 : PySem.W.codeIn K cd21 "_law_sign" = true) (k21 : PySem.W.keepIn K (.ref f21) = true)
    {od22 an22 : Option Addr} {sl22 : Array (Option Value)} {kV22 oc22 dc22 pm22 cd22 ct22 : Value} {f22 : Addr}
    (a22 : PySem.W.nsIn K mainGlobals "_law_a_length" = some (some (.ref f22))) (l22 : K.lookup f22 = some ⟨oc22, od22, .func (PySem.W.fnOf "_law_a_length" "_law_a_length" (defArgs s_a_length) (defBody s_a_length) (defScope s_a_length) .none kV22 dc22 pm22 an22 cd22 ct22), sl22⟩) (c22 : PySem.W.codeIn K cd22 "_law_a_length" = true) (k22 : PySem.W.keepIn K (.ref f22) = true)
    {od23 an23 : Option Addr} {sl23 : Array (Option Value)} {kV23 oc23 dc23 pm23 cd23 ct23 : Value} {f23 : Addr}
    (a23 : PySem.W.nsIn K mainGlobals "_law_a_sheet" = some (some (.ref f23))) (l23 : K.lookup f23 = some ⟨oc23, od23, .func (PySem.W.fnOf "_law_a_sheet" "_law_a_sheet" (defArgs s_a_sheet) (defBody s_a_sheet) (defScope s_a_sheet) .none kV23 dc23 pm23 an23 cd23 ct23), sl23⟩) (c23 : PySem.W.codeIn K cd23 "_law_a_sheet" = true) (k23 : PySem.W.keepIn K (.ref f23) = true)
    {od24 an24 : Option Addr} {sl24 : Array (Option Value)} {kV24 oc24 dc24 pm24 cd24 ct24 : Value} {f24 : Addr}
    (a24 : PySem.W.nsIn K mainGlobals "_law_scaled" = some (some (.ref f24))) (l24 : K.lookup f24 = some ⟨oc24, od24, .func (PySem.W.fnOf "_law_scaled" "_law_scaled" (defArgs s_lscaled) (defBody s_lscaled) (defScope s_lscaled) .none kV24 dc24 pm24 an24 cd24 ct24), sl24⟩) (c24 : PySem.W.codeIn K cd24 "_law_scaled" = true) (k24 : PySem.W.keepIn K (.ref f24) = true)
    {od25 an25 : Option Addr} {sl25 : Array (Option Value)} {kV25 oc25 dc25 pm25 cd25 ct25 : Value} {f25 : Addr}
    (a25 : PySem.W.nsIn K mainGlobals "_law_side_of" = some (some (.ref f25))) (l25 : K.lookup f25 = some ⟨oc25, od25, .func (PySem.W.fnOf "_law_side_of" "_law_side_of" (defArgs s_lside_of) (defBody s_lside_of) (defScope s_lside_of) .none kV25 dc25 pm25 an25 cd25 ct25), sl25⟩) (c25 : PySem.W.codeIn K cd25 "_law_side_of" = true) (k25 : PySem.W.keepIn K (.ref f25) = true)
    {od26 an26 : Option Addr} {sl26 : Array (Option Value)} {kV26 oc26 dc26 pm26 cd26 ct26 : Value} {f26 : Addr}
    (a26 : PySem.W.nsIn K mainGlobals "_law_with" = some (some (.ref f26))) (l26 : K.lookup f26 = some ⟨oc26, od26, .func (PySem.W.fnOf "_law_with" "_law_with" (defArgs s_with) (defBody s_with) (defScope s_with) .none kV26 dc26 pm26 an26 cd26 ct26), sl26⟩) (c26 : PySem.W.codeIn K cd26 "_law_with" = true) (k26 : PySem.W.keepIn K (.ref f26) = true)
    {od27 an27 : Option Addr} {sl27 : Array (Option Value)} {kV27 oc27 dc27 pm27 cd27 ct27 : Value} {f27 : Addr}
    (a27 : PySem.W.nsIn K mainGlobals "_law_any_step" = some (some (.ref f27))) (l27 : K.lookup f27 = some ⟨oc27, od27, .func (PySem.W.fnOf "_law_any_step" "_law_any_step" (defArgs s_any_step) (defBody s_any_step) (defScope s_any_step) .none kV27 dc27 pm27 an27 cd27 ct27), sl27⟩) (c27 : PySem.W.codeIn K cd27 "_law_any_step" = true) (k27 : PySem.W.keepIn K (.ref f27) = true)
    {od28 an28 : Option Addr} {sl28 : Array (Option Value)} {kV28 oc28 dc28 pm28 cd28 ct28 : Value} {f28 : Addr}
    (a28 : PySem.W.nsIn K mainGlobals "_law_is_pair" = some (some (.ref f28))) (l28 : K.lookup f28 = some ⟨oc28, od28, .func (PySem.W.fnOf "_law_is_pair" "_law_is_pair" (defArgs s_lis_pair) (defBody s_lis_pair) (defScope s_lis_pair) .none kV28 dc28 pm28 an28 cd28 ct28), sl28⟩) (c28 : PySem.W.codeIn K cd28 "_law_is_pair" = true) (k28 : PySem.W.keepIn K (.ref f28) = true)
    {od29 an29 : Option Addr} {sl29 : Array (Option Value)} {kV29 oc29 dc29 pm29 cd29 ct29 : Value} {f29 : Addr}
    (a29 : PySem.W.nsIn K mainGlobals "_law_is_pairs" = some (some (.ref f29))) (l29 : K.lookup f29 = some ⟨oc29, od29, .func (PySem.W.fnOf "_law_is_pairs" "_law_is_pairs" (defArgs s_is_pairs) (defBody s_is_pairs) (defScope s_is_pairs) .none kV29 dc29 pm29 an29 cd29 ct29), sl29⟩) (c29 : PySem.W.codeIn K cd29 "_law_is_pairs" = true) (k29 : PySem.W.keepIn K (.ref f29) = true)
    {od30 an30 : Option Addr} {sl30 : Array (Option Value)} {kV30 oc30 dc30 pm30 cd30 ct30 : Value} {f30 : Addr}
    (a30 : PySem.W.nsIn K mainGlobals "_law_at_least" = some (some (.ref f30))) (l30 : K.lookup f30 = some ⟨oc30, od30, .func (PySem.W.fnOf "_law_at_least" "_law_at_least" (defArgs s_at_least) (defBody s_at_least) (defScope s_at_least) .none kV30 dc30 pm30 an30 cd30 ct30), sl30⟩) (c30 : PySem.W.codeIn K cd30 "_law_at_least" = true) (k30 : PySem.W.keepIn K (.ref f30) = true)
    {od31 an31 : Option Addr} {sl31 : Array (Option Value)} {kV31 oc31 dc31 pm31 cd31 ct31 : Value} {f31 : Addr}
    (a31 : PySem.W.nsIn K mainGlobals "_law_good_step" = some (some (.ref f31))) (l31 : K.lookup f31 = some ⟨oc31, od31, .func (PySem.W.fnOf "_law_good_step" "_law_good_step" (defArgs s_good_step) (defBody s_good_step) (defScope s_good_step) .none kV31 dc31 pm31 an31 cd31 ct31), sl31⟩) (c31 : PySem.W.codeIn K cd31 "_law_good_step" = true) (k31 : PySem.W.keepIn K (.ref f31) = true)
    {od32 an32 : Option Addr} {sl32 : Array (Option Value)} {kV32 oc32 dc32 pm32 cd32 ct32 : Value} {f32 : Addr}
    (a32 : PySem.W.nsIn K mainGlobals "_law_plus" = some (some (.ref f32))) (l32 : K.lookup f32 = some ⟨oc32, od32, .func (PySem.W.fnOf "_law_plus" "_law_plus" (defArgs s_plus) (defBody s_plus) (defScope s_plus) .none kV32 dc32 pm32 an32 cd32 ct32), sl32⟩) (c32 : PySem.W.codeIn K cd32 "_law_plus" = true) (k32 : PySem.W.keepIn K (.ref f32) = true)
    {od33 an33 : Option Addr} {sl33 : Array (Option Value)} {kV33 oc33 dc33 pm33 cd33 ct33 : Value} {f33 : Addr}
    (a33 : PySem.W.nsIn K mainGlobals "_law_cut" = some (some (.ref f33))) (l33 : K.lookup f33 = some ⟨oc33, od33, .func (PySem.W.fnOf "_law_cut" "_law_cut" (defArgs s_cut) (defBody s_cut) (defScope s_cut) .none kV33 dc33 pm33 an33 cd33 ct33), sl33⟩) (c33 : PySem.W.codeIn K cd33 "_law_cut" = true) (k33 : PySem.W.keepIn K (.ref f33) = true)
    {od34 an34 : Option Addr} {sl34 : Array (Option Value)} {kV34 oc34 dc34 pm34 cd34 ct34 : Value} {f34 : Addr}
    (a34 : PySem.W.nsIn K mainGlobals "_law_counts_right" = some (some (.ref f34))) (l34 : K.lookup f34 = some ⟨oc34, od34, .func (PySem.W.fnOf "_law_counts_right" "_law_counts_right" (defArgs s_counts_right) (defBody s_counts_right) (defScope s_counts_right) .none kV34 dc34 pm34 an34 cd34 ct34), sl34⟩) (c34 : PySem.W.codeIn K cd34 "_law_counts_right" = true) (k34 : PySem.W.keepIn K (.ref f34) = true)
    {od35 an35 : Option Addr} {sl35 : Array (Option Value)} {kV35 oc35 dc35 pm35 cd35 ct35 : Value} {f35 : Addr}
    (a35 : PySem.W.nsIn K mainGlobals "_law_like" = some (some (.ref f35))) (l35 : K.lookup f35 = some ⟨oc35, od35, .func (PySem.W.fnOf "_law_like" "_law_like" (defArgs s_like) (defBody s_like) (defScope s_like) .none kV35 dc35 pm35 an35 cd35 ct35), sl35⟩) (c35 : PySem.W.codeIn K cd35 "_law_like" = true) (k35 : PySem.W.keepIn K (.ref f35) = true)
    {od36 an36 : Option Addr} {sl36 : Array (Option Value)} {kV36 oc36 dc36 pm36 cd36 ct36 : Value} {f36 : Addr}
    (a36 : PySem.W.nsIn K mainGlobals "law" = some (some (.ref f36))) (l36 : K.lookup f36 = some ⟨oc36, od36, .func (PySem.W.fnOf "law" "law" (defArgs s_law) (defBody s_law) (defScope s_law) .none kV36 dc36 pm36 an36 cd36 ct36), sl36⟩) (c36 : PySem.W.codeIn K cd36 "law" = true) (k36 : PySem.W.keepIn K (.ref f36) = true)
    (z0 : PySem.W.nsIn K mainGlobals "isinstance" = some none)
    (z1 : PySem.W.nsIn K mainGlobals "range" = some none)
    (z2 : PySem.W.nsIn K mainGlobals "sum" = some none)
    (z3 : PySem.W.nsIn K mainGlobals "dict" = some none)
    (z4 : PySem.W.nsIn K mainGlobals "list" = some none)
    (z5 : PySem.W.nsIn K mainGlobals "int" = some none)
    (z6 : PySem.W.nsIn K mainGlobals "tuple" = some none)
    (z7 : PySem.W.nsIn K mainGlobals "all" = some none)
    (z8 : PySem.W.nsIn K mainGlobals "len" = some none)
    (z9 : PySem.W.nsIn K mainGlobals "abs" = some none)
    (z10 : PySem.W.nsIn K mainGlobals "str" = some none)
    (z11 : PySem.W.nsIn K mainGlobals "sorted" = some none)
    (z12 : PySem.W.nsIn K mainGlobals "bool" = some none)
    (su_JJi : PySem.W.ks_superIn K C_Journal C_Journal "__init__" = some (some (.ref f6)))
    (su_CJi : PySem.W.ks_superIn K C_CutTally C_Journal "__init__" = some (some (.ref f6)))
    (su_CCi : PySem.W.ks_superIn K C_CutTally C_CutTally "__init__" = some (some (.ref S_Journal_init.f)))
    (su_JJn : PySem.W.ks_superIn K C_Journal C_Journal "note" = some (some (.ref f7)))
    (su_CJn : PySem.W.ks_superIn K C_CutTally C_Journal "note" = some (some (.ref f7)))
    (su_CCn : PySem.W.ks_superIn K C_CutTally C_CutTally "note" = some (some (.ref S_Journal_note.f)))
    (su_CCt : PySem.W.ks_superIn K C_CutTally C_CutTally "told" = some (some (.ref f11)))
    (mr_JJ : PySem.W.mroIn K C_Journal (.ref C_Journal) = some true)
    (mr_CJ : PySem.W.mroIn K C_CutTally (.ref C_Journal) = some true)
    (mr_CC : PySem.W.mroIn K C_CutTally (.ref C_CutTally) = some true)
    (aJc : PySem.W.findIn K (.ref C_Journal) "counts" = some (some (.ref f8)))
    (aCc : PySem.W.findIn K (.ref C_CutTally) "counts" = some (some (.ref f8)))
    (hn : PySem.W.specialIn K (.builtin "object.__class__") "__get__" = some (some (.builtin "getset_descriptor.__get__")))
    (ht : PySem.W.takesIn K (.builtin "object.__class__") = some true)
    (caJ : PySem.W.findIn K (.ref C_Journal) "__class__" = some (some (.builtin "object.__class__")))
    (caC : PySem.W.findIn K (.ref C_CutTally) "__class__" = some (some (.builtin "object.__class__")))
    (moJ : PySem.W.mroIn K C_Journal (.type "object") = some true)
    (moC : PySem.W.mroIn K C_CutTally (.type "object") = some true)
    (icT : PySem.W.isClsIn K C_Tally = true)
    (icJ : PySem.W.isClsIn K C_Journal = true)
    (icC : PySem.W.isClsIn K C_CutTally = true)
    (twT : PySem.W.typeIn K (.ref C_Tally) = some (.type "type"))
    (twJ : PySem.W.typeIn K (.ref C_Journal) = some (.type "type"))
    (twC : PySem.W.typeIn K (.ref C_CutTally) = some (.type "type"))
    (sbCJ : PySem.W.subIn K (.ref C_CutTally) (.ref C_Journal) = some true)
    (sbJT : PySem.W.subIn K (.ref C_Journal) (.ref C_Tally) = some true)
    (sbJC : PySem.W.subIn K (.ref C_Journal) (.ref C_CutTally) = some false)
    (neCJ : C_CutTally ≠ C_Journal)
    (neJT : C_Journal ≠ C_Tally)
    : ∃ fd : FuncData, (∀ (s : Shared) (v : Value), BindsTo s fd ⟨[v], []⟩ [("_law_script", v)]) ∧ ∀ base : Heap, K.In base → base.Ns mainGlobals mg → FnOk PySem.Challenge.pw_grainyard_k52_tallies_and_journals w K mg base CX0 8 fa fd ["_law_script"] (spLaw K) := by
  have e := hfa.symm.trans (PySem.W.mg_of X G a36)
  cases e
  have F0 := fun_mk (st := s_added) l0 c0 k0
  have F1 := fun_mk (st := s_scaled) l1 c1 k1
  have b1 := F1.binds (ps := ["pair", "number"]) fun _ _ _ _ _ _ us hl => match us, hl with | [_, _], _ => rfl
  have F2 := fun_mk (st := s_turned) l2 c2 k2
  have b2 := F2.binds (ps := ["sheet"]) fun _ _ _ _ _ _ us hl => match us, hl with | [_], _ => rfl
  have F3 := fun_mk (st := s_side_of) l3 c3 k3
  have b3 := F3.binds (ps := ["sheet", "side"]) fun _ _ _ _ _ _ us hl => match us, hl with | [_, _], _ => rfl
  have F4 := fun_mk (st := s_cuts_of) l4 c4 k4
  have b4 := F4.binds (ps := ["step"]) fun _ _ _ _ _ _ us hl => match us, hl with | [_], _ => rfl
  have F5 := fun_mk (st := s_sawn_by) l5 c5 k5
  have b5 := F5.binds (ps := ["step"]) fun _ _ _ _ _ _ us hl => match us, hl with | [_], _ => rfl
  have F6 := fun_mk (st := s_Tally_init) l6 c6 k6
  have b6 := F6.binds (ps := ["self"]) fun _ _ _ _ _ _ us hl => match us, hl with | [_], _ => rfl
  have F7 := fun_mk (st := s_Tally_note) l7 c7 k7
  have b7 := F7.binds (ps := ["self", "step"]) fun _ _ _ _ _ _ us hl => match us, hl with | [_, _], _ => rfl
  have F8 := fun_mk (st := s_Tally_counts) l8 c8 k8
  have b8 := F8.binds (ps := ["self"]) fun _ _ _ _ _ _ us hl => match us, hl with | [_], _ => rfl
  have F11 := fun_mk (st := s_Journal_told) l11 c11 k11
  have b11 := F11.binds (ps := ["self"]) fun _ _ _ _ _ _ us hl => match us, hl with | [_], _ => rfl
  have F15 := fun_mk (st := s_source) l15 c15 k15
  have b15 := F15.binds (ps := ["_law_script"]) fun _ _ _ _ _ _ us hl => match us, hl with | [_], _ => rfl
  have F16 := fun_mk (st := s_pull) l16 c16 k16
  have b16 := F16.binds (ps := ["_law_bag", "_law_size"]) fun _ _ _ _ _ _ us hl => match us, hl with | [_, _], _ => rfl
  have F17 := fun_mk (st := s_of) l17 c17 k17
  have b17 := F17.binds (ps := ["_law_bag", "_law_some"]) fun _ _ _ _ _ _ us hl => match us, hl with | [_, _], _ => rfl
  have F18 := fun_mk (st := s_roots) l18 c18 k18
  have b18 := F18.binds (ps := []) fun _ _ _ _ _ _ us hl => match us, hl with | [], _ => rfl
  have F19 := fun_mk (st := s_a_root) l19 c19 k19
  have b19 := F19.binds (ps := ["_law_bag"]) fun _ _ _ _ _ _ us hl => match us, hl with | [_], _ => rfl
  have F20 := fun_mk (st := s_any_pair) l20 c20 k20
  have b20 := F20.binds (ps := ["_law_bag"]) fun _ _ _ _ _ _ us hl => match us, hl with | [_], _ => rfl
  have F21 := fun_mk (st := s_lsign) l21 c21 k21
  have b21 := F21.binds (ps := ["_law_pair", "_law_root"]) fun _ _ _ _ _ _ us hl => match us, hl with | [_, _], _ => rfl
  have F22 := fun_mk (st := s_a_length) l22 c22 k22
  have b22 := F22.binds (ps := ["_law_bag", "_law_root"]) fun _ _ _ _ _ _ us hl => match us, hl with | [_, _], _ => rfl
  have F23 := fun_mk (st := s_a_sheet) l23 c23 k23
  have b23 := F23.binds (ps := ["_law_bag", "_law_root"]) fun _ _ _ _ _ _ us hl => match us, hl with | [_, _], _ => rfl
  have F24 := fun_mk (st := s_lscaled) l24 c24 k24
  have b24 := F24.binds (ps := ["_law_pair", "_law_number"]) fun _ _ _ _ _ _ us hl => match us, hl with | [_, _], _ => rfl
  have F25 := fun_mk (st := s_lside_of) l25 c25 k25
  have b25 := F25.binds (ps := ["_law_sheet", "_law_side"]) fun _ _ _ _ _ _ us hl => match us, hl with | [_, _], _ => rfl
  have F26 := fun_mk (st := s_with) l26 c26 k26
  have b26 := F26.binds (ps := ["_law_sheet", "_law_side", "_law_pair"]) fun _ _ _ _ _ _ us hl => match us, hl with | [_, _, _], _ => rfl
  have F27 := fun_mk (st := s_any_step) l27 c27 k27
  have b27 := F27.binds (ps := ["_law_bag", "_law_root"]) fun _ _ _ _ _ _ us hl => match us, hl with | [_, _], _ => rfl
  have F28 := fun_mk (st := s_lis_pair) l28 c28 k28
  have b28 := F28.binds (ps := ["_law_x"]) fun _ _ _ _ _ _ us hl => match us, hl with | [_], _ => rfl
  have F29 := fun_mk (st := s_is_pairs) l29 c29 k29
  have b29 := F29.binds (ps := ["_law_x"]) fun _ _ _ _ _ _ us hl => match us, hl with | [_], _ => rfl
  have F30 := fun_mk (st := s_at_least) l30 c30 k30
  have b30 := F30.binds (ps := ["_law_x", "_law_least"]) fun _ _ _ _ _ _ us hl => match us, hl with | [_, _], _ => rfl
  have F31 := fun_mk (st := s_good_step) l31 c31 k31
  have b31 := F31.binds (ps := ["_law_step"]) fun _ _ _ _ _ _ us hl => match us, hl with | [_], _ => rfl
  have F32 := fun_mk (st := s_plus) l32 c32 k32
  have b32 := F32.binds (ps := ["_law_one", "_law_other"]) fun _ _ _ _ _ _ us hl => match us, hl with | [_, _], _ => rfl
  have F33 := fun_mk (st := s_cut) l33 c33 k33
  have b33 := F33.binds (ps := ["_law_step"]) fun _ _ _ _ _ _ us hl => match us, hl with | [_], _ => rfl
  have F34 := fun_mk (st := s_counts_right) l34 c34 k34
  have b34 := F34.binds (ps := ["_law_counts", "_law_steps"]) fun _ _ _ _ _ _ us hl => match us, hl with | [_, _], _ => rfl
  have F35 := fun_mk (st := s_like) l35 c35 k35
  have b35 := F35.binds (ps := ["_law_found", "_law_due"]) fun _ _ _ _ _ _ us hl => match us, hl with | [_, _], _ => rfl
  have F36 := fun_mk (st := s_law) l36 c36 k36
  have T : Txt K mg := {
    f_added := f0
    d_added := _
    F_added := F0
    g_added := PySem.W.mg_of X G a0
    f_scaled := f1
    d_scaled := _
    F_scaled := F1
    g_scaled := PySem.W.mg_of X G a1
    b_scaled := b1
    f_turned := f2
    d_turned := _
    F_turned := F2
    g_turned := PySem.W.mg_of X G a2
    b_turned := b2
    f_side_of := f3
    d_side_of := _
    F_side_of := F3
    g_side_of := PySem.W.mg_of X G a3
    b_side_of := b3
    f_cuts_of := f4
    d_cuts_of := _
    F_cuts_of := F4
    g_cuts_of := PySem.W.mg_of X G a4
    b_cuts_of := b4
    f_sawn_by := f5
    d_sawn_by := _
    F_sawn_by := F5
    g_sawn_by := PySem.W.mg_of X G a5
    b_sawn_by := b5
    C_Tally := C_Tally
    cl_Tally := .mk pg_Tally hd_Tally po_Tally sa_Tally
    g_Tally := PySem.W.mg_of X G aC_Tally
    sf_Tally := sf_Tally
    nq_Tally := nq_Tally
    n_Tally_notes := n_Tally_notes
    n_Tally_words := n_Tally_words
    n_Tally_kept := n_Tally_kept
    n_Tally_sawn := n_Tally_sawn
    M_Tally := .mk mk_Tally a6 i6 kc_Tally
    f_Tally_init := f6
    d_Tally_init := _
    F_Tally_init := F6
    b_Tally_init := b6
    m_Tally_note := .mk a7 i7 k7
    f_Tally_note := f7
    d_Tally_note := _
    F_Tally_note := F7
    b_Tally_note := b7
    m_Tally_counts := .mk a8 i8 k8
    f_Tally_counts := f8
    d_Tally_counts := _
    F_Tally_counts := F8
    b_Tally_counts := b8
    C_Journal := C_Journal
    cl_Journal := .mk pg_Journal hd_Journal po_Journal sa_Journal
    g_Journal := PySem.W.mg_of X G aC_Journal
    sf_Journal := sf_Journal
    nq_Journal := nq_Journal
    n_Journal_notes := n_Journal_notes
    n_Journal_words := n_Journal_words
    n_Journal_kept := n_Journal_kept
    n_Journal_sawn := n_Journal_sawn
    M_Journal := .mk mk_Journal S_Journal_init.at_ S_Journal_init.fn kc_Journal
    S_Journal_init := S_Journal_init
    S_Journal_note := S_Journal_note
    m_Journal_told := .mk a11 i11 k11
    f_Journal_told := f11
    d_Journal_told := _
    F_Journal_told := F11
    b_Journal_told := b11
    C_CutTally := C_CutTally
    cl_CutTally := .mk pg_CutTally hd_CutTally po_CutTally sa_CutTally
    g_CutTally := PySem.W.mg_of X G aC_CutTally
    sf_CutTally := sf_CutTally
    nq_CutTally := nq_CutTally
    n_CutTally_notes := n_CutTally_notes
    n_CutTally_words := n_CutTally_words
    n_CutTally_kept := n_CutTally_kept
    n_CutTally_sawn := n_CutTally_sawn
    M_CutTally := .mk mk_CutTally S_CutTally_init.at_ S_CutTally_init.fn kc_CutTally
    S_CutTally_init := S_CutTally_init
    S_CutTally_note := S_CutTally_note
    S_CutTally_told := S_CutTally_told
    f_source := f15
    d_source := _
    F_source := F15
    g_source := PySem.W.mg_of X G a15
    b_source := b15
    f_pull := f16
    d_pull := _
    F_pull := F16
    g_pull := PySem.W.mg_of X G a16
    b_pull := b16
    f_of := f17
    d_of := _
    F_of := F17
    g_of := PySem.W.mg_of X G a17
    b_of := b17
    f_roots := f18
    d_roots := _
    F_roots := F18
    g_roots := PySem.W.mg_of X G a18
    b_roots := b18
    f_a_root := f19
    d_a_root := _
    F_a_root := F19
    g_a_root := PySem.W.mg_of X G a19
    b_a_root := b19
    f_any_pair := f20
    d_any_pair := _
    F_any_pair := F20
    g_any_pair := PySem.W.mg_of X G a20
    b_any_pair := b20
    f_lsign := f21
    d_lsign := _
    F_lsign := F21
    g_lsign := PySem.W.mg_of X G a21
    b_lsign := b21
    f_a_length := f22
    d_a_length := _
    F_a_length := F22
    g_a_length := PySem.W.mg_of X G a22
    b_a_length := b22
    f_a_sheet := f23
    d_a_sheet := _
    F_a_sheet := F23
    g_a_sheet := PySem.W.mg_of X G a23
    b_a_sheet := b23
    f_lscaled := f24
    d_lscaled := _
    F_lscaled := F24
    g_lscaled := PySem.W.mg_of X G a24
    b_lscaled := b24
    f_lside_of := f25
    d_lside_of := _
    F_lside_of := F25
    g_lside_of := PySem.W.mg_of X G a25
    b_lside_of := b25
    f_with := f26
    d_with := _
    F_with := F26
    g_with := PySem.W.mg_of X G a26
    b_with := b26
    f_any_step := f27
    d_any_step := _
    F_any_step := F27
    g_any_step := PySem.W.mg_of X G a27
    b_any_step := b27
    f_lis_pair := f28
    d_lis_pair := _
    F_lis_pair := F28
    g_lis_pair := PySem.W.mg_of X G a28
    b_lis_pair := b28
    f_is_pairs := f29
    d_is_pairs := _
    F_is_pairs := F29
    g_is_pairs := PySem.W.mg_of X G a29
    b_is_pairs := b29
    f_at_least := f30
    d_at_least := _
    F_at_least := F30
    g_at_least := PySem.W.mg_of X G a30
    b_at_least := b30
    f_good_step := f31
    d_good_step := _
    F_good_step := F31
    g_good_step := PySem.W.mg_of X G a31
    b_good_step := b31
    f_plus := f32
    d_plus := _
    F_plus := F32
    g_plus := PySem.W.mg_of X G a32
    b_plus := b32
    f_cut := f33
    d_cut := _
    F_cut := F33
    g_cut := PySem.W.mg_of X G a33
    b_cut := b33
    f_counts_right := f34
    d_counts_right := _
    F_counts_right := F34
    g_counts_right := PySem.W.mg_of X G a34
    b_counts_right := b34
    f_like := f35
    d_like := _
    F_like := F35
    g_like := PySem.W.mg_of X G a35
    b_like := b35
    n_isinstance := PySem.W.mg_none_of X G z0
    n_range := PySem.W.mg_none_of X G z1
    n_sum := PySem.W.mg_none_of X G z2
    n_dict := PySem.W.mg_none_of X G z3
    n_list := PySem.W.mg_none_of X G z4
    n_int := PySem.W.mg_none_of X G z5
    n_tuple := PySem.W.mg_none_of X G z6
    n_all := PySem.W.mg_none_of X G z7
    n_len := PySem.W.mg_none_of X G z8
    n_abs := PySem.W.mg_none_of X G z9
    n_str := PySem.W.mg_none_of X G z10
    n_sorted := PySem.W.mg_none_of X G z11
    n_bool := PySem.W.mg_none_of X G z12
    su_JJi := su_JJi
    su_CJi := su_CJi
    su_CCi := su_CCi
    su_JJn := su_JJn
    su_CJn := su_CJn
    su_CCn := su_CCn
    su_CCt := su_CCt
    mr_JJ := mr_JJ
    mr_CJ := mr_CJ
    mr_CC := mr_CC
    aJc := aJc
    aCc := aCc
    hn := hn
    ht := ht
    caJ := caJ
    caC := caC
    moJ := moJ
    moC := moC
    icT := icT
    icJ := icJ
    icC := icC
    twT := twT
    twJ := twJ
    twC := twC
    sbCJ := sbCJ
    sbJT := sbJT
    sbJC := sbJC
    neCJ := neCJ
    neJT := neJT }
  exact ⟨PySem.W.fnOf "law" "law" (defArgs s_law) (defBody s_law) (defScope s_law) .none kV36 dc36 pm36 an36 cd36 ct36, fun s v => .of_eq rfl, fun base _ _ => ok_law F36 T⟩
end Gy
open PySem PySem.W PyProof.Rows
set_option maxRecDepth 100000 in
set_option maxHeartbeats 0 in
theorem PySem.Challenge.cw_grainyard_k52_tallies_and_journals_holds : PySem.Challenge.rw_grainyard_k52_tallies_and_journals.Holds := by
  w_on; o_law; k_head; (case hw => w_witness2)
  k_fill
  refine L2.walk_of (l := PySem.Challenge.rw_grainyard_k52_tallies_and_journals) (n := 63) (k := 8) (x := "_law_script") (CX := fun _ => L2.CX0) (sp := fun w => Gy.spLaw _) rfl (by decide) rfl ⟨rfl, by decide, by decide⟩ (fun w h Y => PySem.W.kIn_of Y) ?F (fun _ _ a ns hl _ hS => ⟨a, ns, rfl, hS, hl, fun _ => rfl⟩) (fun _ _ _ _ _ h => h)
  case F =>
    intro w mg fa h KX G hmg
    refine' Gy.all_mk KX G hmg ?aC_Tally ?pg_Tally ?hd_Tally ?po_Tally ?sa_Tally ?mk_Tally ?kc_Tally ?sf_Tally ?nq_Tally ?n_Tally_notes ?n_Tally_words ?n_Tally_kept ?n_Tally_sawn ?aC_Journal ?pg_Journal ?hd_Journal ?po_Journal ?sa_Journal ?mk_Journal ?kc_Journal ?sf_Journal ?nq_Journal ?n_Journal_notes ?n_Journal_words ?n_Journal_kept ?n_Journal_sawn ?aC_CutTally ?pg_CutTally ?hd_CutTally ?po_CutTally ?sa_CutTally ?mk_CutTally ?kc_CutTally ?sf_CutTally ?nq_CutTally ?n_CutTally_notes ?n_CutTally_words ?n_CutTally_kept ?n_CutTally_sawn ?a0 ?l0 ?c0 ?k0 ?a1 ?l1 ?c1 ?k1 ?a2 ?l2 ?c2 ?k2 ?a3 ?l3 ?c3 ?k3 ?a4 ?l4 ?c4 ?k4 ?a5 ?l5 ?c5 ?k5 ?a6 ?i6 ?l6 ?c6 ?k6 ?a7 ?i7 ?l7 ?c7 ?k7 ?a8 ?i8 ?l8 ?c8 ?k8 ?S_Journal_init ?S_Journal_note ?a11 ?i11 ?l11 ?c11 ?k11 ?S_CutTally_init ?S_CutTally_note ?S_CutTally_told ?a15 ?l15 ?c15 ?k15 ?a16 ?l16 ?c16 ?k16 ?a17 ?l17 ?c17 ?k17 ?a18 ?l18 ?c18 ?k18 ?a19 ?l19 ?c19 ?k19 ?a20 ?l20 ?c20 ?k20 ?a21 ?l21 ?c21 ?k21 ?a22 ?l22 ?c22 ?k22 ?a23 ?l23 ?c23 ?k23 ?a24 ?l24 ?c24 ?k24 ?a25 ?l25 ?c25 ?k25 ?a26 ?l26 ?c26 ?k26 ?a27 ?l27 ?c27 ?k27 ?a28 ?l28 ?c28 ?k28 ?a29 ?l29 ?c29 ?k29 ?a30 ?l30 ?c30 ?k30 ?a31 ?l31 ?c31 ?k31 ?a32 ?l32 ?c32 ?k32 ?a33 ?l33 ?c33 ?k33 ?a34 ?l34 ?c34 ?k34 ?a35 ?l35 ?c35 ?k35 ?a36 ?l36 ?c36 ?k36 ?z0 ?z1 ?z2 ?z3 ?z4 ?z5 ?z6 ?z7 ?z8 ?z9 ?z10 ?z11 ?z12 ?su_JJi ?su_CJi ?su_CCi ?su_JJn ?su_CJn ?su_CCn ?su_CCt ?mr_JJ ?mr_CJ ?mr_CC ?aJc ?aCc ?hn ?ht ?caJ ?caC ?moJ ?moC ?icT ?icJ ?icC ?twT ?twJ ?twC ?sbCJ ?sbJT ?sbJC ?neCJ ?neJT
    (case aC_Tally => k_is); (case pg_Tally => k_is); (case hd_Tally => k_is); (case po_Tally => k_is); (case sa_Tally => k_is); (case mk_Tally => k_is); (case kc_Tally => k_is); (case sf_Tally => k_is); (case nq_Tally => k_is); (case n_Tally_notes => k_is); (case n_Tally_words => k_is); (case n_Tally_kept => k_is); (case n_Tally_sawn => k_is); (case aC_Journal => k_is); (case pg_Journal => k_is); (case hd_Journal => k_is); (case po_Journal => k_is); (case sa_Journal => k_is); (case mk_Journal => k_is); (case kc_Journal => k_is); (case sf_Journal => k_is); (case nq_Journal => k_is); (case n_Journal_notes => k_is); (case n_Journal_words => k_is); (case n_Journal_kept => k_is); (case n_Journal_sawn => k_is); (case aC_CutTally => k_is); (case pg_CutTally => k_is); (case hd_CutTally => k_is); (case po_CutTally => k_is); (case sa_CutTally => k_is); (case mk_CutTally => k_is); (case kc_CutTally => k_is); (case sf_CutTally => k_is); (case nq_CutTally => k_is); (case n_CutTally_notes => k_is); (case n_CutTally_words => k_is); (case n_CutTally_kept => k_is); (case n_CutTally_sawn => k_is); (case a0 => k_is); (case l0 => k_is); (case c0 => k_is); (case k0 => k_is); (case a1 => k_is); (case l1 => k_is); (case c1 => k_is); (case k1 => k_is); (case a2 => k_is); (case l2 => k_is); (case c2 => k_is); (case k2 => k_is); (case a3 => k_is); (case l3 => k_is); (case c3 => k_is); (case k3 => k_is); (case a4 => k_is); (case l4 => k_is); (case c4 => k_is); (case k4 => k_is); (case a5 => k_is); (case l5 => k_is); (case c5 => k_is); (case k5 => k_is); (case a6 => k_is); (case i6 => k_is); (case l6 => k_is); (case c6 => k_is); (case k6 => k_is); (case a7 => k_is); (case i7 => k_is); (case l7 => k_is); (case c7 => k_is); (case k7 => k_is); (case a8 => k_is); (case i8 => k_is); (case l8 => k_is); (case c8 => k_is); (case k8 => k_is); (case S_Journal_init => refine' Gy.supw (P := PySem.Challenge.pw_grainyard_k52_tallies_and_journals) KX G ?op ?nsu rfl rfl (by decide +kernel) (by decide +kernel) (by decide +kernel) (by decide +kernel) ?ic ?aI ?lI ?iF ?kp ?cI ?lc ?lco ?hvs ?hfi; (case op => k_is); (case nsu => k_is); (case ic => k_is); (case aI => k_is); (case lI => k_is); (case iF => k_is); (case kp => k_is); (case cI => k_is); (case lc => k_is); (case lco => k_is); (case hvs => rfl); (case hfi => decide +kernel)); (case S_Journal_note => refine' Gy.supw (P := PySem.Challenge.pw_grainyard_k52_tallies_and_journals) KX G ?op ?nsu rfl rfl (by decide +kernel) (by decide +kernel) (by decide +kernel) (by decide +kernel) ?ic ?aI ?lI ?iF ?kp ?cI ?lc ?lco ?hvs ?hfi; (case op => k_is); (case nsu => k_is); (case ic => k_is); (case aI => k_is); (case lI => k_is); (case iF => k_is); (case kp => k_is); (case cI => k_is); (case lc => k_is); (case lco => k_is); (case hvs => rfl); (case hfi => decide +kernel)); (case a11 => k_is); (case i11 => k_is); (case l11 => k_is); (case c11 => k_is); (case k11 => k_is); (case S_CutTally_init => refine' Gy.supw (P := PySem.Challenge.pw_grainyard_k52_tallies_and_journals) KX G ?op ?nsu rfl rfl (by decide +kernel) (by decide +kernel) (by decide +kernel) (by decide +kernel) ?ic ?aI ?lI ?iF ?kp ?cI ?lc ?lco ?hvs ?hfi; (case op => k_is); (case nsu => k_is); (case ic => k_is); (case aI => k_is); (case lI => k_is); (case iF => k_is); (case kp => k_is); (case cI => k_is); (case lc => k_is); (case lco => k_is); (case hvs => rfl); (case hfi => decide +kernel)); (case S_CutTally_note => refine' Gy.supw (P := PySem.Challenge.pw_grainyard_k52_tallies_and_journals) KX G ?op ?nsu rfl rfl (by decide +kernel) (by decide +kernel) (by decide +kernel) (by decide +kernel) ?ic ?aI ?lI ?iF ?kp ?cI ?lc ?lco ?hvs ?hfi; (case op => k_is); (case nsu => k_is); (case ic => k_is); (case aI => k_is); (case lI => k_is); (case iF => k_is); (case kp => k_is); (case cI => k_is); (case lc => k_is); (case lco => k_is); (case hvs => rfl); (case hfi => decide +kernel)); (case S_CutTally_told => refine' Gy.supw (P := PySem.Challenge.pw_grainyard_k52_tallies_and_journals) KX G ?op ?nsu rfl rfl (by decide +kernel) (by decide +kernel) (by decide +kernel) (by decide +kernel) ?ic ?aI ?lI ?iF ?kp ?cI ?lc ?lco ?hvs ?hfi; (case op => k_is); (case nsu => k_is); (case ic => k_is); (case aI => k_is); (case lI => k_is); (case iF => k_is); (case kp => k_is); (case cI => k_is); (case lc => k_is); (case lco => k_is); (case hvs => rfl); (case hfi => decide +kernel)); (case a15 => k_is); (case l15 => k_is); (case c15 => k_is); (case k15 => k_is); (case a16 => k_is); (case l16 => k_is); (case c16 => k_is); (case k16 => k_is); (case a17 => k_is); (case l17 => k_is); (case c17 => k_is); (case k17 => k_is); (case a18 => k_is); (case l18 => k_is); (case c18 => k_is); (case k18 => k_is); (case a19 => k_is); (case l19 => k_is); (case c19 => k_is); (case k19 => k_is); (case a20 => k_is); (case l20 => k_is); (case c20 => k_is); (case k20 => k_is); (case a21 => k_is); (case l21 => k_is); (case c21 => k_is); (case k21 => k_is); (case a22 => k_is); (case l22 => k_is); (case c22 => k_is); (case k22 => k_is); (case a23 => k_is); (case l23 => k_is); (case c23 => k_is); (case k23 => k_is); (case a24 => k_is); (case l24 => k_is); (case c24 => k_is); (case k24 => k_is); (case a25 => k_is); (case l25 => k_is); (case c25 => k_is); (case k25 => k_is); (case a26 => k_is); (case l26 => k_is); (case c26 => k_is); (case k26 => k_is); (case a27 => k_is); (case l27 => k_is); (case c27 => k_is); (case k27 => k_is); (case a28 => k_is); (case l28 => k_is); (case c28 => k_is); (case k28 => k_is); (case a29 => k_is); (case l29 => k_is); (case c29 => k_is); (case k29 => k_is); (case a30 => k_is); (case l30 => k_is); (case c30 => k_is); (case k30 => k_is); (case a31 => k_is); (case l31 => k_is); (case c31 => k_is); (case k31 => k_is); (case a32 => k_is); (case l32 => k_is); (case c32 => k_is); (case k32 => k_is); (case a33 => k_is); (case l33 => k_is); (case c33 => k_is); (case k33 => k_is); (case a34 => k_is); (case l34 => k_is); (case c34 => k_is); (case k34 => k_is); (case a35 => k_is); (case l35 => k_is); (case c35 => k_is); (case k35 => k_is); (case a36 => k_is); (case l36 => k_is); (case c36 => k_is); (case k36 => k_is); (case z0 => k_is); (case z1 => k_is); (case z2 => k_is); (case z3 => k_is); (case z4 => k_is); (case z5 => k_is); (case z6 => k_is); (case z7 => k_is); (case z8 => k_is); (case z9 => k_is); (case z10 => k_is); (case z11 => k_is); (case z12 => k_is); (case su_JJi => ks_is); (case su_CJi => ks_is); (case su_CCi => ks_is); (case su_JJn => ks_is); (case su_CJn => ks_is); (case su_CCn => ks_is); (case su_CCt => ks_is); (case mr_JJ => k_is); (case mr_CJ => k_is); (case mr_CC => k_is); (case aJc => k_is); (case aCc => k_is); (case hn => k_is); (case ht => k_is); (case caJ => k_is); (case caC => k_is); (case moJ => k_is); (case moC => k_is); (case icT => k_is); (case icJ => k_is); (case icC => k_is); (case twT => k_is); (case twJ => k_is); (case twC => k_is); (case sbCJ => k_is); (case sbJT => k_is); (case sbJC => k_is); (case neCJ => decide); (case neJT => decide)

