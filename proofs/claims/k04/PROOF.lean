import PyProof.Rows.All
import Wide.All
import OpenK.AllK
import Wide.FinOn
import PySem.Challenge.RW_neartwins_k04_whole_sums_there_and_back
import HandS.ForMost
import HandS.Evl
import HandS.Defaults
import HandS.Wide
import HandS.IsInst
import HandS.Flow
set_option Elab.async false
set_option linter.all false
set_option maxRecDepth 100000
namespace NF

theorem gcd_step {a b : Int} (h : b ≠ 0) : Int.gcd b (a.fmod b) = Int.gcd a b ∧ (a.fmod b).natAbs < b.natAbs := by
  constructor
  · rw [Int.fmod_def, Int.gcd_sub_mul_left_right, Int.gcd_comm]
  · rcases Int.lt_or_gt_of_ne h with hb | hb
    · have e := Int.neg_fmod_neg a b
      have h1 := Int.fmod_nonneg_of_pos (-a) (show 0 < -b by omega)
      have h2 := Int.fmod_lt_of_pos (-a) (show 0 < -b by omega)
      omega
    · have h1 := Int.fmod_nonneg_of_pos a hb
      have h2 := Int.fmod_lt_of_pos a hb
      omega

/-- what reduced does -/
theorem red_pos {a b : Int} (h : 0 < b) : a.fdiv (Int.gcd a b) = (Rat.divInt a b).num ∧ b.fdiv (Int.gcd a b) = (Rat.divInt a b).den := by
  have hg : (0 : Int) < Int.gcd a b := by
    have : 0 < Int.gcd a b := Int.gcd_pos_of_ne_zero_right _ (by omega)
    omega
  constructor
  · rw [Rat.num_divInt, Int.gcd_comm b a, Int.sign_eq_one_of_pos h, Int.one_mul, Int.fdiv_eq_ediv_of_nonneg _ (by omega)]
  · rw [Rat.den_divInt, if_neg (by omega), Int.gcd_comm b a, Int.fdiv_eq_ediv_of_nonneg _ (by omega)]
    rw [Int.natCast_ediv]
    congr 1
    omega
theorem red_neg {a b : Int} (h : b < 0) : a.fdiv (-(Int.gcd a b : Int)) = (Rat.divInt a b).num ∧ b.fdiv (-(Int.gcd a b : Int)) = (Rat.divInt a b).den := by
  have d1 : (Int.gcd a b : Int) ∣ a := Int.gcd_dvd_left ..
  have d2 : (Int.gcd a b : Int) ∣ b := Int.gcd_dvd_right ..
  constructor
  · rw [Rat.num_divInt, Int.gcd_comm b a, Int.sign_eq_neg_one_of_neg h, Int.fdiv_eq_ediv_of_dvd (by rwa [Int.neg_dvd]), Int.ediv_neg, Int.neg_mul, Int.one_mul, Int.neg_ediv_of_dvd d1]
  · rw [Rat.den_divInt, if_neg (by omega), Int.gcd_comm b a, Int.fdiv_eq_ediv_of_dvd (by rwa [Int.neg_dvd]), Int.ediv_neg, ← Int.neg_ediv_of_dvd d2]
    rw [Int.natCast_ediv]
    congr 1
    omega

/-- how many bits a fraction has -/
def Sz (B : Nat) (x : Rat) : Prop := x.num.natAbs < 2 ^ B ∧ x.den < 2 ^ B
theorem Sz.mono {A B : Nat} {x : Rat} (h : Sz A x) (e : A ≤ B) : Sz B x :=
  ⟨Nat.lt_of_lt_of_le h.1 (Nat.pow_le_pow_right (by decide) e), Nat.lt_of_lt_of_le h.2 (Nat.pow_le_pow_right (by decide) e)⟩
theorem sz_div {B : Nat} {a b : Int} (ha : a.natAbs < 2 ^ B) (hb : b.natAbs < 2 ^ B) (h : b ≠ 0) : Sz B (Rat.divInt a b) := by
  constructor
  · rw [Rat.num_divInt]
    have d1 : (Int.gcd b a : Int) ∣ a := Int.gcd_dvd_right ..
    refine Nat.lt_of_le_of_lt ?_ ha
    have : (b.sign * a / ↑(b.gcd a)).natAbs ≤ (b.sign * a).natAbs := by
      exact Int.natAbs_ediv_le_natAbs ..
    refine Nat.le_trans this ?_
    rw [Int.natAbs_mul]
    have : b.sign.natAbs = 1 := Int.natAbs_sign_of_ne_zero h
    rw [this]; omega
  · rw [Rat.den_divInt, if_neg h]
    exact Nat.lt_of_le_of_lt (Nat.div_le_self ..) hb

theorem den0 (x : Rat) : (x.den : Int) ≠ 0 := by have := x.den_nz; omega
theorem denp (x : Rat) : (0 : Int) < (x.den : Int) := by have := x.den_nz; omega
theorem add_rt (x y : Rat) : x + y = Rat.divInt (x.num * y.den + y.num * x.den) (x.den * y.den) := by
  rw [← Rat.divInt_add_divInt _ _ (den0 x) (den0 y), Rat.num_divInt_den, Rat.num_divInt_den]
theorem sub_rt (x y : Rat) : x - y = Rat.divInt (x.num * y.den - y.num * x.den) (x.den * y.den) := by
  rw [← Rat.divInt_sub_divInt _ _ (den0 x) (den0 y), Rat.num_divInt_den, Rat.num_divInt_den]
theorem mul_rt (x y : Rat) : x * y = Rat.divInt (x.num * y.num) (x.den * y.den) := by
  rw [← Rat.divInt_mul_divInt, Rat.num_divInt_den, Rat.num_divInt_den]
theorem div_rt (x y : Rat) : x / y = Rat.divInt (x.num * y.den) (x.den * y.num) := by
  rw [Rat.div_def, Rat.inv_def, ← Rat.divInt_mul_divInt, Rat.num_divInt_den]
theorem nz_num {x : Rat} (h : x.num ≠ 0) : x ≠ 0 := fun e => h (by rw [e]; rfl)
theorem num_nz {x : Rat} (h : x ≠ 0) : x.num ≠ 0 := fun e => h (Rat.num_eq_zero.mp e)

theorem bits_mul {i j : Int} {a b : Nat} (ha : i.natAbs < 2 ^ a) (hb : j.natAbs < 2 ^ b) : (i * j).natAbs < 2 ^ (a + b) := by
  rw [Int.natAbs_mul, Nat.pow_add]
  exact Nat.mul_lt_mul'' ha hb
theorem bits_add {i j : Int} {a : Nat} (ha : i.natAbs < 2 ^ a) (hb : j.natAbs < 2 ^ a) : (i + j).natAbs < 2 ^ (a + 1) := by
  rw [Nat.pow_succ]; omega
theorem bits_sub {i j : Int} {a : Nat} (ha : i.natAbs < 2 ^ a) (hb : j.natAbs < 2 ^ a) : (i - j).natAbs < 2 ^ (a + 1) := by
  rw [Nat.pow_succ]; omega
theorem bits_up {i : Int} {a b : Nat} (h : i.natAbs < 2 ^ a) (e : a ≤ b) : i.natAbs < 2 ^ b := Nat.lt_of_lt_of_le h (Nat.pow_le_pow_right (by decide) e)
theorem Sz.num {B : Nat} {x : Rat} (h : Sz B x) : x.num.natAbs < 2 ^ B := h.1
theorem Sz.den {B : Nat} {x : Rat} (h : Sz B x) : (x.den : Int).natAbs < 2 ^ B := by have := h.2; omega
theorem den_mul0 (x y : Rat) : (x.den : Int) * y.den ≠ 0 := Int.mul_ne_zero (den0 x) (den0 y)
theorem Sz.add {B : Nat} {x y : Rat} (hx : Sz B x) (hy : Sz B y) : Sz (2 * B + 1) (x + y) := by
  rw [add_rt]
  exact sz_div (bits_up (bits_add (bits_mul hx.num hy.den) (bits_mul hy.num hx.den)) (by omega)) (bits_up (bits_mul hx.den hy.den) (by omega)) (den_mul0 x y)
theorem Sz.sub {B : Nat} {x y : Rat} (hx : Sz B x) (hy : Sz B y) : Sz (2 * B + 1) (x - y) := by
  rw [sub_rt]
  exact sz_div (bits_up (bits_sub (bits_mul hx.num hy.den) (bits_mul hy.num hx.den)) (by omega)) (bits_up (bits_mul hx.den hy.den) (by omega)) (den_mul0 x y)
theorem Sz.mul {B : Nat} {x y : Rat} (hx : Sz B x) (hy : Sz B y) : Sz (2 * B + 1) (x * y) := by
  rw [mul_rt]
  exact sz_div (bits_up (bits_mul hx.num hy.num) (by omega)) (bits_up (bits_mul hx.den hy.den) (by omega)) (den_mul0 x y)
theorem Sz.div {B : Nat} {x y : Rat} (hx : Sz B x) (hy : Sz B y) (h : y ≠ 0) : Sz (2 * B + 1) (x / y) := by
  rw [div_rt]
  exact sz_div (bits_up (bits_mul hx.num hy.den) (by omega)) (bits_up (bits_mul hx.den hy.num) (by omega)) (Int.mul_ne_zero (den0 x) (num_nz h))

/-- how far two are apart -/
def ap (x y : Rat) : Rat := if x < y then y - x else x - y
theorem Sz.ap {B : Nat} {x y : Rat} (hx : Sz B x) (hy : Sz B y) : Sz (2 * B + 1) (ap x y) := by
  unfold NF.ap
  split
  · exact hy.sub hx
  · exact hx.sub hy
theorem ap_comm (x y : Rat) : ap x y = ap y x := by
  unfold NF.ap; grind
theorem ap_tri (x y z : Rat) : ¬ (ap x z + ap z y < ap x y) := by
  unfold NF.ap; grind
theorem ap_zero (x y : Rat) : ap x y = 0 ↔ x = y := by
  unfold NF.ap; grind
theorem ap_pos (x y : Rat) : ¬ (ap x y < 0) := by
  unfold NF.ap; grind
theorem lt3 (x y : Rat) : (if x < y then 1 else 0) + (if x = y then 1 else 0) + (if y < x then 1 else 0) = 1 := by grind
theorem lt_rt (x y : Rat) : x < y ↔ x.num * y.den < y.num * x.den := Rat.lt_iff x y
theorem t1 (x y : Rat) : x + y - y = x := by grind
theorem t2 (x y : Rat) : y + x = x + y := by grind
theorem t3 (x y z : Rat) : 0 + x + y + z = x + y + z := by grind
theorem t4 (x y z : Rat) : x + (y + z) = x + y + z := by grind
theorem t5 (x y z : Rat) : x * y * z = x * (z * y) := by grind
theorem t6 (x y z : Rat) : (x + y) * z = x * z + y * z := by grind
theorem t7 (x z : Rat) (h : z ≠ 0) : x * z / z = x := by grind
theorem cop (x : Rat) : Int.gcd x.num x.den = 1 := x.reduced
end NF

namespace NF
open PySem PySem.Spec PyProof.Rows L2 Evl

/-! ### a fraction as a value -/
section
variable {K : PySem.W.Frag} {H H1 H2 : Hp} {σ : L2.St} {ta tb te : TE} {x y z : Rat} {v w : V} {b : Bool}
def Rt (K : PySem.W.Frag) (H : Hp) (v : V) (x : Rat) : Prop := ∃ p, v = .ref p ∧ SqT K H p [.int x.num, .int x.den]
theorem Rt.mono (h : Rt K H v x) (e : Ex H H1) : Rt K H1 v x := by
  obtain ⟨p, e1, h⟩ := h
  exact ⟨p, e1, ex_t e h⟩
theorem Rt.of {p : Addr} {n d : Int} (h : H p = some (.tup [.int n, .int d])) (en : n = x.num) (ed : d = x.den) : Rt K H (.ref p) x := by
  subst en ed
  exact ⟨p, rfl, SqT.of h⟩
def EvF (K : PySem.W.Frag) (te : TE) (σ : L2.St) (H : Hp) (x : Rat) : Prop := ∀ H1, Ex H H1 → ∀ Q : VK, (∀ v H2, Ex H1 H2 → Rt K H2 v x → Q v H2) → te σ H1 Q
theorem EvF.mono (h : EvF K te σ H x) (e : Ex H H1) : EvF K te σ H1 x := fun H2 a Q q => h H2 (e.trans a) Q q
theorem EvF.to (h : EvF K te σ H x) (e : x = y) : EvF K te σ H y := e ▸ h
theorem ef_var {i : Nat} (h : σ[i]? = some (some v)) (r : Rt K H v x) : EvF K (tVar i) σ H x := fun H1 e _ q => ⟨v, h, q v H1 (Ex.refl H1) (r.mono e)⟩
theorem ev_ix0 (ha : EvF K ta σ H x) : Ev (tOp (rIxT K) ta (tC (.int 0))) σ H (.int x.num) := fun H1 e Q q => ha H1 e _ fun v H2 e2 r => by
  obtain ⟨p, rfl, hs⟩ := r
  exact ⟨p, _, 0, _, rfl, rfl, hs, atI_nat (j := 0) rfl, q H2 e2⟩
theorem ev_ix1 (ha : EvF K ta σ H x) : Ev (tOp (rIxT K) ta (tC (.int 1))) σ H (.int x.den) := fun H1 e Q q => ha H1 e _ fun v H2 e2 r => by
  obtain ⟨p, rfl, hs⟩ := r
  exact ⟨p, _, 1, _, rfl, rfl, hs, atI_nat (j := 1) rfl, q H2 e2⟩
theorem eqv_rt : PyData.eqv (.tuple [.int x.num, .int x.den]) (.tuple [.int y.num, .int y.den]) = decide (x = y) := by
  have e : PyData.eqv (.tuple [.int x.num, .int x.den]) (.tuple [.int y.num, .int y.den]) = (x.num == y.num && ((x.den : Int) == (y.den : Int))) := by
    simp [PyData.eqv, PyData.eqvAll]
  rw [e]
  by_cases h : x = y
  · subst h; simp
  · rw [decide_eq_false h]
    by_cases h1 : x.num = y.num
    · have h2 : (x.den : Int) ≠ y.den := fun e => h (Rat.ext h1 (by omega))
      simp [h2]
    · simp [h1]
theorem dp_rt (h : Rt K H v x) : Dp K H v (.tuple [.int x.num, .int x.den]) := by
  obtain ⟨p, rfl, hs⟩ := h
  exact .tup hs (.cons (.int _) (.cons (.int _) .nil))
theorem ev_eqF (ha : EvF K ta σ H x) (hb : EvF K tb σ H y) : Ev (tOp (rEqD K) ta tb) σ H (.bl (decide (x = y))) := fun H1 e Q q =>
  ha H1 e _ fun v H2 e2 r => hb H2 (e.trans e2) _ fun w H3 e3 r' => ⟨_, _, dp_rt (r.mono e3), dp_rt r', rfl, rfl, by rw [eqv_rt]; exact q H3 (e2.trans e3)⟩
theorem ev_neF (ha : EvF K ta σ H x) (hb : EvF K tb σ H y) : Ev (tOp (rNeD K) ta tb) σ H (.bl (!decide (x = y))) := fun H1 e Q q =>
  ha H1 e _ fun v H2 e2 r => hb H2 (e.trans e2) _ fun w H3 e3 r' => ⟨_, _, dp_rt (r.mono e3), dp_rt r', rfl, rfl, by rw [eqv_rt]; exact q H3 (e2.trans e3)⟩
/-- a written pair -/
theorem ef_tup {n d : Int} (h : EvU te σ H [.int n, .int d]) (en : n = x.num) (ed : d = x.den) : EvF K te σ H x := fun H1 e Q q =>
  h H1 e _ fun p H2 _ e2 hp => q _ H2 e2 (Rt.of hp en ed)
theorem ef_if {t : TT} (h : EvT t σ H b) (h1 : b = true → EvF K ta σ H x) (h2 : b = false → EvF K tb σ H x) : EvF K (tIf t ta tb) σ H x := fun H1 e Q q => h H1 e _ fun H2 e2 => by
  cases b with
  | true =>
    show ta σ H2 Q
    exact h1 rfl H2 (e.trans e2) Q fun v H3 e3 r => q v H3 (e2.trans e3) r
  | false =>
    show tb σ H2 Q
    exact h2 rfl H2 (e.trans e2) Q fun v H3 e3 r => q v H3 (e2.trans e3) r
variable {D : Ends} {tu tw tz : TS}
theorem s_retF (h : EvF K te σ H x) (k : ∀ u H1, Ex H H1 → Rt K H1 u x → D.rt u H1) : tRet te D σ H := h H (Ex.refl H) _ k
theorem q_asgF {i : Nat} (h : EvF K te σ H x) (k : ∀ u H1, Ex H H1 → Rt K H1 u x → tz D (σ.set i (some u)) H1) : tSeq (tAsg te (gName i)) tz D σ H := h H (Ex.refl H) _ fun u H1 e r => k u H1 e r
theorem s_asgF {i : Nat} (h : EvF K te σ H x) (k : ∀ u H1, Ex H H1 → Rt K H1 u x → D.nx (σ.set i (some u)) H1) : tAsg te (gName i) D σ H := h H (Ex.refl H) _ fun u H1 e r => k u H1 e r
theorem s_par {i j : Nat} {ta : TA} (h : EvA ta σ H [v, w]) (k : ∀ H1, Ex H H1 → D.nx ((σ.set i (some v)).set j (some w)) H1) : tPar i j ta D σ H := h H (Ex.refl H) _ fun H1 e => ⟨v, w, rfl, k H1 e⟩
end

/-! ### // by any divisor but 0 -/
def CDivX (_ j : Int) : Prop := j ≠ 0 ∧ j.natAbs.log2 < 9000
theorem op_fdivX {X : Cx} : OpR X (binaryOp .FloorDiv) (rI CDivX fun i j => .int (i.fdiv j)) := opI fun _ _ _ _ _ _ _ hc q => floordiv_int hc.1 q (.inl (PyProof.noPylong_of_log2 hc.2))
theorem divX {i j : Int} {b : Nat} (h : j ≠ 0) (hb : j.natAbs < 2 ^ b) (h0 : 0 < b) (h9 : b ≤ 9000) : CDivX i j := ⟨h, Nat.lt_of_lt_of_le (PySem.Flt.log2_lt_of h0 hb) h9⟩

/-! ### a def that is called -/
structure Cal (P : Program) (w : World) (K : PySem.W.Frag) (mg : Str → Option Value) (base : Heap) (k : Nat) (x : Str) (ps : List Str) (dvs : List V) (sp : Sp) : Prop where
  ex : ∃ (f : Addr) (fd : FuncData) (ds : List Value), FnOk P w K mg base CX0 k f fd ps sp ∧ mg x = some (.ref f) ∧ PySem.W.keepIn K (.ref f) = true ∧ Binds K fd ps ds ∧ Vals dvs ds
theorem pe_cal {X : Cx} {j k : Nat} {x : Str} {ps : List Str} {dvs : List V} {sp : Sp} {e : Expr} {es : List Expr} {t : TA} {p pos : Pos} (C : Cal X.prog X.w X.K X.mg X.base k x ps dvs sp) (hr : Room j X.A) (hk : k ≤ j) (hg : Gl X x)
    (ha : PA X (e :: es) t) (hdb : (x == ("__debug__" : Str)) = false := by decide) (he : starEach (e :: es) X.env = (false, eval e X.env) :: starEach es X.env := by rfl) (hpl : (backTo pos (starEach es X.env)).any (·.1) = false := by rfl) :
    PE X (.Call (.Name x p) (e :: es) [] pos) (tCall sp dvs E0 t) := by
  obtain ⟨f, fd, ds, F, hm, kp, b, d⟩ := C.ex
  exact pe_call F (hr.mono hk) hg hm kp b d pass0 ha hdb he hpl

/-! ### promises -/
def spGcd : Sp := fun vs H Q _ => ∃ a b : Int, vs = [.int a, .int b] ∧ ∀ H', Ex H H' → Q (.int (Int.gcd a b)) H'
def spRed (K : PySem.W.Frag) : Sp := fun vs H Q _ => ∃ (a b : Int) (B : Nat), vs = [.int a, .int b] ∧ b ≠ 0 ∧ a.natAbs < 2 ^ B ∧ b.natAbs < 2 ^ B ∧ 0 < B ∧ B ≤ 9000 ∧ ∀ v H', Ex H H' → Rt K H' v (Rat.divInt a b) → Q v H'
def sp2 (K : PySem.W.Frag) (C : Rat → Rat → Prop) (f : Rat → Rat → Rat) : Sp := fun vs H Q _ => ∃ (v w : V) (x y : Rat) (B : Nat), vs = [v, w] ∧ Rt K H v x ∧ Rt K H w y ∧ C x y ∧ Sz B x ∧ Sz B y ∧ 0 < B ∧ B ≤ 4000 ∧ ∀ u H', Ex H H' → Rt K H' u (f x y) → Q u H'
def spLt (K : PySem.W.Frag) : Sp := fun vs H Q _ => ∃ (v w : V) (x y : Rat) (B : Nat), vs = [v, w] ∧ Rt K H v x ∧ Rt K H w y ∧ Sz B x ∧ Sz B y ∧ 0 < B ∧ B ≤ 400000 ∧ ∀ H', Ex H H' → Q (.bl (decide (x < y))) H'
section
variable {K : PySem.W.Frag} {H H1 H2 : Hp} {σ : L2.St} {ta tb te : TE} {x y z : Rat} {v w : V} {B : Nat} {C : Rat → Rat → Prop} {f : Rat → Rat → Rat} {E : XK}
theorem ef_2 (ha : EvF K ta σ H x) (hb : EvF K tb σ H y) (hc : C x y) (sx : Sz B x) (sy : Sz B y) (h0 : 0 < B) (h4 : B ≤ 4000) : EvF K (tCall (sp2 K C f) [] E (tCons ta (tCons tb tNil))) σ H (f x y) := fun H1 e Q q =>
  ha H1 e _ fun v H2 e2 r => hb H2 (e.trans e2) _ fun w H3 e3 r' => ⟨v, w, x, y, B, rfl, r.mono e3, r', hc, sx, sy, h0, h4, fun u H' e4 ru => q u H' ((e2.trans e3).trans e4) ru⟩
theorem ev_lt (ha : EvF K ta σ H x) (hb : EvF K tb σ H y) (sx : Sz B x) (sy : Sz B y) (h0 : 0 < B) (h4 : B ≤ 400000) : Ev (tCall (spLt K) [] E (tCons ta (tCons tb tNil))) σ H (.bl (decide (x < y))) := fun H1 e Q q =>
  ha H1 e _ fun v H2 e2 r => hb H2 (e.trans e2) _ fun w H3 e3 r' => ⟨v, w, x, y, B, rfl, r.mono e3, r', sx, sy, h0, h4, fun H' e4 => q H' ((e2.trans e3).trans e4)⟩
theorem ef_red {a b : Int} (ha : Ev ta σ H (.int a)) (hb : Ev tb σ H (.int b)) (hn : b ≠ 0) (ba : a.natAbs < 2 ^ B) (bb : b.natAbs < 2 ^ B) (h0 : 0 < B) (h4 : B ≤ 9000) : EvF K (tCall (spRed K) [] E (tCons ta (tCons tb tNil))) σ H (Rat.divInt a b) := fun H1 e Q q =>
  ha H1 e _ fun H2 e2 => hb H2 (e.trans e2) _ fun H3 e3 => ⟨a, b, B, rfl, hn, ba, bb, h0, h4, fun u H' e4 ru => q u H' ((e2.trans e3).trans e4) ru⟩
theorem ev_gcd {a b : Int} (ha : Ev ta σ H (.int a)) (hb : Ev tb σ H (.int b)) : Ev (tCall spGcd [] E (tCons ta (tCons tb tNil))) σ H (.int (Int.gcd a b)) := fun H1 e Q q =>
  ha H1 e _ fun H2 e2 => hb H2 (e.trans e2) _ fun H3 e3 => ⟨a, b, rfl, fun H' e4 => q H' ((e2.trans e3).trans e4)⟩
end
end NF

namespace NF
open PySem PySem.Spec PyProof.Rows L2 Evl
/-! ### isinstance -/
theorem c_ty {X : Cx} {x : Str} {n : String} {pos : Pos} (hm : X.mg x = none) (hg : Gl X x) (hv : bootBuiltins x = some (.type n)) (hn : x ≠ "__name__") (hd : (x == ("__debug__" : Str)) = false := by decide) : PE X (.Name x pos) (tC (.ty n)) := pe_bltn hg hm hv rfl hn hd
section
variable {K : PySem.W.Frag} {H H1 H2 : Hp} {σ : L2.St} {ta tb te : TE} {v w : V} {t c : String} {b : Bool} {E : XK}
theorem tyx_mono {t : Value} (h : TyX K H v t) (e : Ex H H1) : TyX K H1 v t := by
  cases h with
  | base b =>
    refine .base ?_
    cases b with
    | non => exact .non
    | bl y => exact .bl y
    | int i => exact .int i
    | str y => exact .str y
    | flt y => exact .flt y
    | lst ea => exact .lst (e _ _ ea)
    | frz ea => exact .frz (e _ _ ea)
    | tup ea => exact .tup (e _ _ ea)
    | dK ea => exact .dK (e _ _ ea)
    | dT ea => exact .dT (e _ _ ea)
    | ins ea cl ha hn htk hm => exact .ins (e _ _ ea) cl ha hn htk hm
  | byt y => exact .byt y
  | set ea => exact .set (e _ _ ea)
  | kList ea c => exact .kList ea c
  | kTuple ea c => exact .kTuple ea c
  | kDict ea c => exact .kDict ea c
  | fTuple ea => exact .fTuple (e _ _ ea)
  | fDict ea => exact .fDict (e _ _ ea)
theorem ev_isi (h : Ev ta σ H v) (ty : TyX K H v (.type t)) (kb : kitB t c = some b) : Ev (tCB (rIsi K) (tCons ta (tCons (tC (.ty c)) tNil))) σ H (.bl b) := fun H1 e Q q =>
  h H1 e _ fun H2 e2 => ⟨v, .ty c, _, _, b, rfl, .ty c, tyx_mono ty (e.trans e2), kit_ty kb, q H2 e2⟩
def spWhole (K : PySem.W.Frag) : Sp := fun vs H Q _ => ∃ (v : V) (t : String) (b1 b2 : Bool), vs = [v] ∧ TyX K H v (.type t) ∧ kitB t "int" = some b1 ∧ kitB t "bool" = some b2 ∧ ∀ H', Ex H H' → Q (.bl (b1 && !b2)) H'
theorem ev_whole {b1 b2 : Bool} (h : Ev ta σ H v) (ty : TyX K H v (.type t)) (k1 : kitB t "int" = some b1) (k2 : kitB t "bool" = some b2) : Ev (tCall (spWhole K) [] E (tCons ta tNil)) σ H (.bl (b1 && !b2)) := fun H1 e Q q =>
  h H1 e _ fun H2 e2 => ⟨v, t, b1, b2, rfl, tyx_mono ty (e.trans e2), k1, k2, fun H' e3 => q H' (e2.trans e3)⟩
theorem kit_ii : kitB "int" "int" = some true := by decide +kernel
theorem kit_ib : kitB "int" "bool" = some false := by decide +kernel
theorem kit_tt : kitB "tuple" "tuple" = some true := by decide +kernel
theorem ty_int (i : Int) : TyX K H (.int i) (.type "int") := .base (.int i)
theorem ev_wholeI {i : Int} (h : Ev ta σ H (.int i)) : Ev (tCall (spWhole K) [] E (tCons ta tNil)) σ H (.bl true) := ev_whole h (ty_int i) kit_ii kit_ib
theorem ty_tup {p : Addr} {xs : List V} (h : SqT K H p xs) : TyX K H (.ref p) (.type "tuple") := by
  rcases h with (h | ⟨o, h⟩) | ⟨o, its, n, e, c, _⟩
  · exact .base (.tup h)
  · exact .fTuple h
  · exact .kTuple e c
end
def spFrac (K : PySem.W.Frag) : Sp := fun vs H Q _ => ∃ (a b : Int) (B : Nat), vs = [.int a, .int b] ∧ b ≠ 0 ∧ a.natAbs < 2 ^ B ∧ b.natAbs < 2 ^ B ∧ 0 < B ∧ B ≤ 9000 ∧ ∀ v H', Ex H H' → Rt K H' v (Rat.divInt a b) → Q v H'
def spIsF (K : PySem.W.Frag) : Sp := fun vs H Q _ => ∃ (v : V) (x : Rat), vs = [v] ∧ Rt K H v x ∧ ∀ H', Ex H H' → Q (.bl true) H'
/-- fractions in a list -/
inductive RtAll (K : PySem.W.Frag) (H : Hp) : List V → List Rat → Prop
  | nil : RtAll K H [] []
  | cons {v : V} {vs : List V} {x : Rat} {xs : List Rat} : Rt K H v x → RtAll K H vs xs → RtAll K H (v :: vs) (x :: xs)
theorem RtAll.mono {K : PySem.W.Frag} {H H1 : Hp} (e : Ex H H1) : ∀ {vs : List V} {xs : List Rat}, RtAll K H vs xs → RtAll K H1 vs xs
  | _, _, .nil => .nil
  | _, _, .cons h t => .cons (h.mono e) (RtAll.mono e t)
theorem RtAll.get {K : PySem.W.Frag} {H : Hp} : ∀ {vs : List V} {xs : List Rat} {i : Nat} {v : V}, RtAll K H vs xs → vs[i]? = some v → ∃ x, xs[i]? = some x ∧ Rt K H v x
  | _, _, _, _, .nil, e => by simp at e
  | _, _, 0, _, .cons h _, e => by
    have e' := Option.some.inj e
    subst e'
    exact ⟨_, rfl, h⟩
  | _, _, i + 1, _, .cons _ t, e => RtAll.get (i := i) t e
theorem RtAll.length {K : PySem.W.Frag} {H : Hp} : ∀ {vs : List V} {xs : List Rat}, RtAll K H vs xs → vs.length = xs.length
  | _, _, .nil => rfl
  | _, _, .cons _ t => congrArg Nat.succ (RtAll.length t)
def sumF (x0 : Rat) (xs : List Rat) : Rat := xs.foldl (· + ·) x0
theorem sumF_take {x0 x : Rat} {xs : List Rat} {i : Nat} (h : xs[i]? = some x) : sumF x0 (xs.take (i + 1)) = sumF x0 (xs.take i) + x := by
  unfold sumF
  rw [List.take_add_one, h, List.foldl_append]
  rfl
/-- one summand after another -/
theorem Sz.addAB {A B : Nat} {x y : Rat} (hx : Sz A x) (hy : Sz B y) : Sz (A + B + 1) (x + y) := by
  rw [add_rt]
  exact sz_div (bits_add (bits_mul hx.num hy.den) (bits_up (bits_mul hy.num hx.den) (by omega))) (bits_up (bits_mul hx.den hy.den) (by omega)) (den_mul0 x y)
theorem sz_sum {B : Nat} {x0 : Rat} {xs : List Rat} (h0 : Sz B x0) (hs : ∀ x ∈ xs, Sz B x) : ∀ i, i ≤ xs.length → Sz ((i + 1) * (B + 1)) (sumF x0 (xs.take i))
  | 0, _ => by
    refine Sz.mono (A := B) ?_ (by omega)
    exact h0
  | i + 1, h => by
    have hi : i < xs.length := by omega
    rw [sumF_take (List.getElem?_eq_getElem hi)]
    refine Sz.mono ((sz_sum h0 hs i (by omega)).addAB (hs _ (List.getElem_mem hi))) ?_
    rw [Nat.succ_mul (i + 1)]
    omega
def spTot (K : PySem.W.Frag) : Sp := fun vs H Q _ => ∃ (a : Addr) (us : List V) (xs : List Rat) (w : V) (x0 : Rat) (B : Nat), vs = [.ref a, w] ∧ SqL K H a us ∧ RtAll K H us xs ∧ ((w = .non ∧ x0 = 0) ∨ Rt K H w x0) ∧ Sz B x0 ∧ (∀ x ∈ xs, Sz B x) ∧
  (xs.length + 2) * (B + 1) ≤ 4000 ∧ ∀ u H', Ex H H' → Rt K H' u (sumF x0 xs) → Q u H'
end NF

namespace NF
open PySem PySem.Spec PyProof.Rows L2 Evl
def topS (i : Nat) : Stmt := PySem.Challenge.pw_neartwins_k04_whole_sums_there_and_back.main.body.getD i (.Pass ⟨0, 0, 0, 0⟩)
abbrev s_greatest_divisor : Stmt := topS 7
theorem sc_greatest_divisor : FnScope ["one", "other"] ["one", "other"] (defScope s_greatest_divisor) := ⟨rfl, rfl, rfl, by decide +kernel, rfl, by decide +kernel, by decide +kernel⟩
abbrev s_reduced : Stmt := topS 9
theorem sc_reduced : FnScope ["top", "bottom", "divisor"] ["top", "bottom"] (defScope s_reduced) := ⟨rfl, rfl, rfl, by decide +kernel, rfl, by decide +kernel, by decide +kernel⟩
abbrev s_plus : Stmt := topS 11
theorem sc_plus : FnScope ["one", "other"] ["one", "other"] (defScope s_plus) := ⟨rfl, rfl, rfl, by decide +kernel, rfl, by decide +kernel, by decide +kernel⟩
abbrev s_minus : Stmt := topS 12
theorem sc_minus : FnScope ["one", "other"] ["one", "other"] (defScope s_minus) := ⟨rfl, rfl, rfl, by decide +kernel, rfl, by decide +kernel, by decide +kernel⟩
abbrev s_times : Stmt := topS 13
theorem sc_times : FnScope ["one", "other"] ["one", "other"] (defScope s_times) := ⟨rfl, rfl, rfl, by decide +kernel, rfl, by decide +kernel, by decide +kernel⟩
abbrev s_over : Stmt := topS 14
theorem sc_over : FnScope ["one", "other"] ["one", "other"] (defScope s_over) := ⟨rfl, rfl, rfl, by decide +kernel, rfl, by decide +kernel, by decide +kernel⟩
abbrev s_under : Stmt := topS 15
theorem sc_under : FnScope ["one", "other"] ["one", "other"] (defScope s_under) := ⟨rfl, rfl, rfl, by decide +kernel, rfl, by decide +kernel, by decide +kernel⟩
abbrev s_apart : Stmt := topS 16
theorem sc_apart : FnScope ["one", "other"] ["one", "other"] (defScope s_apart) := ⟨rfl, rfl, rfl, by decide +kernel, rfl, by decide +kernel, by decide +kernel⟩
section
variable {P : Program} {w : World} {K : PySem.W.Frag} {mg : Str → Option Value} {base : Heap} {f : Addr} {fd : FuncData}
theorem ok_gcd (F : Fun K "greatest_divisor" "greatest_divisor" s_greatest_divisor f fd) (n_abs : mg "abs" = none) : FnOk P w K mg base CX0 1 f fd ["one", "other"] spGcd := by
  refine F.ok sc_greatest_divisor (fun vs H Q E h => ?_) (fun cdv A outer s H vs Q E hr h => ?_)
  · obtain ⟨a, b, rfl, _⟩ := h
    rfl
  · obtain ⟨a, b, rfl, q⟩ := h
    refine ⟨_, (pss_cons (ps_while PassesOwn.never (pt_cmpR op_ne (pv 1) pe_int (nomark _)) (pss_one (ps_par (i := 0) (j := 1) (by rfl) sc_greatest_divisor.nd rfl rfl (by decide) rfl rfl (pa_cons (pv 1) (pa_cons (pe_op op_modN (pv 0) (pv 1)) pa_nil)) (by rfl))))
      (pss_one (ps_ret (pe_callB call_abs (by rfl) n_abs PyProof.Rows.boot_abs (pa_cons (pv 0) pa_nil))))), ?_⟩
    refine q_while (fun m σ' H' => ∃ c d : Int, σ' = [some (.int c), some (.int d)] ∧ d.natAbs = m ∧ Int.gcd c d = Int.gcd a b ∧ Ex H H') b.natAbs ⟨a, b, rfl, rfl, rfl, Ex.refl H⟩ ?_
    rintro m σ' H' ⟨c, d, rfl, rfl, eg, ex⟩
    refine ⟨_, et_test (ev_op (ev_var rfl) ev_c (rv_ne rfl)), fun hb H1 e1 => ?_, fun hb H1 e1 => ?_⟩
    · have hd : d ≠ 0 := by
        intro z
        subst z
        simp at hb
      obtain ⟨g1, g2⟩ := gcd_step (a := c) hd
      refine ⟨fun σ2 H2 => ∃ c' d' : Int, σ2 = [some (.int c'), some (.int d')] ∧ d'.natAbs < d.natAbs ∧ Int.gcd c' d' = Int.gcd a b ∧ Ex H H2, ?_, ?_⟩
      · rintro σ2 H2 ⟨c', d', e, l, g, x⟩
        exact ⟨_, l, c', d', e, rfl, g, x⟩
      · exact s_par (ea_cons (ev_var rfl) (ea_cons (ev_op (ev_var rfl) (ev_var rfl) (rv_I hd)) ea_nil)) fun H2 e2 => ⟨d, c.fmod d, rfl, g2, by rw [g1, eg], (ex.trans e1).trans e2⟩
    · have hd : d = 0 := by
        by_cases z : d = 0
        · exact z
        · simp [z] at hb
      subst hd
      have ea : RC (fun xs H Q => ∃ i, xs = [V.int i] ∧ Q (V.int (if i < 0 then -i else i)) H) [V.int c] H1 (V.int (if c < 0 then -c else c)) := fun H1 _ Q' q' => ⟨c, rfl, q' H1 (Ex.refl H1)⟩
      refine s_ret (v := .int (Int.gcd a b)) (ev_is (ev_cb (ea_cons (ev_var rfl) ea_nil) ea) ?_) fun H2 e2 => q H2 ((ex.trans e1).trans e2)
      rw [← eg, Int.gcd_zero_right]
      congr 1
      split <;> omega
theorem ok_red (F : Fun K "reduced" "reduced" s_reduced f fd) (C_greatest_divisor : Cal P w K mg base 1 "greatest_divisor" ["one", "other"] [] spGcd) : FnOk P w K mg base CX0 2 f fd ["top", "bottom"] (spRed K) := by
  refine F.ok sc_reduced (fun vs H Q E h => ?_) (fun cdv A outer s H vs Q E hr h => ?_)
  · obtain ⟨a, b, _, rfl, _⟩ := h
    rfl
  · obtain ⟨a, b, B, rfl, hb0, ha, hb, hB0, hB, q⟩ := h
    refine ⟨_, (pss_cons (ps_set (i := 2) sc_reduced.nd rfl (.inl rfl) (pe_cal C_greatest_divisor hr (by decide) (by rfl) (pa_cons (pv 0) (pa_cons (pv 1) pa_nil))))
      (pss_cons (ps_if (pt_cmpR op_lt (pv 1) pe_int (nomark _)) (pss_one (ps_set (i := 2) sc_reduced.nd rfl (.inl rfl) (pe_un un_neg (pv 2)))) pss_nil)
      (pss_one (ps_ret (pe_tup (pa_cons (pe_op op_fdivX (pv 0) (pv 2)) (pa_cons (pe_op op_fdivX (pv 1) (pv 2)) pa_nil))))))), ?_⟩
    have hg : 0 < Int.gcd a b := Int.gcd_pos_of_ne_zero_right _ hb0
    have hgb : ((Int.gcd a b : Nat) : Int).natAbs < 2 ^ B := by
      have h1 : Int.gcd a b ≤ b.natAbs := Nat.le_of_dvd (by omega) (Int.gcd_dvd_natAbs_right a b)
      omega
    refine q_asg (ev_gcd (ev_var rfl) (ev_var rfl)) fun H1 e1 => ?_
    refine q_ifAsg (v := .int (if b < 0 then -(Int.gcd a b : Int) else Int.gcd a b)) (et_test (ev_op (ev_var rfl) ev_c rv_I0)) (fun hb => ?_) (fun hb => ?_) fun H2 e2 => ?_
    · have hl : b < 0 := of_decide_eq_true hb
      rw [if_pos hl]
      exact ev_un (ev_var rfl) ru_neg
    · have hl : ¬ b < 0 := of_decide_eq_false hb
      rw [if_neg hl]
      rfl
    · have hd0 : (if b < 0 then -(Int.gcd a b : Int) else Int.gcd a b) ≠ 0 := by split <;> omega
      have hdb : (if b < 0 then -(Int.gcd a b : Int) else Int.gcd a b).natAbs < 2 ^ B := by split <;> omega
      refine s_retU (eu_tup (ea_cons (ev_op (ev_var rfl) (ev_var rfl) (rv_I (divX hd0 hdb hB0 hB))) (ea_cons (ev_op (ev_var rfl) (ev_var rfl) (rv_I (divX hd0 hdb hB0 hB))) ea_nil)) (by show 2 ≤ 100000; decide)) fun p H3 _ e3 hp => ?_
      refine q _ _ ((e1.trans e2).trans e3) (Rt.of hp ?_ ?_)
      · by_cases hl : b < 0
        · rw [if_pos hl]
          exact (red_neg hl).1
        · rw [if_neg hl]
          exact (red_pos (by omega)).1
      · by_cases hl : b < 0
        · rw [if_pos hl]
          exact (red_neg hl).2
        · rw [if_neg hl]
          exact (red_pos (by omega)).2
theorem ok_plus (F : Fun K "plus" "plus" s_plus f fd) (C_reduced : Cal P w K mg base 2 "reduced" ["top", "bottom"] [] (spRed K)) : FnOk P w K mg base CX0 3 f fd ["one", "other"] (sp2 K (fun _ _ => True) (· + ·)) := by
  refine F.ok sc_plus (fun vs H Q E h => ?_) (fun cdv A outer s H vs Q E hr h => ?_)
  · obtain ⟨_, _, _, _, _, rfl, _⟩ := h
    rfl
  · obtain ⟨v, w, x, y, B, rfl, rx, ry, _, sx, sy, h0, hB, q⟩ := h
    refine ⟨_, (pss_one (ps_ret (pe_cal C_reduced hr (by decide) (by rfl) (pa_cons (pe_op op_add (pe_op op_mulW (pe_ix ix_tup (pv 0) pe_int (fun _ _ => rfl)) (pe_ix ix_tup (pv 1) pe_int (fun _ _ => rfl))) (pe_op op_mulW (pe_ix ix_tup (pv 1) pe_int (fun _ _ => rfl)) (pe_ix ix_tup (pv 0) pe_int (fun _ _ => rfl)))) (pa_cons (pe_op op_mulW (pe_ix ix_tup (pv 0) pe_int (fun _ _ => rfl)) (pe_ix ix_tup (pv 1) pe_int (fun _ _ => rfl))) pa_nil))))), ?_⟩
    have m1 := rv_I (H := H) (g := fun i j => V.int (i * j)) (wide_mul sx.num sy.den h0 h0 (by omega))
    have m2 := rv_I (H := H) (g := fun i j => V.int (i * j)) (wide_mul sy.num sx.den h0 h0 (by omega))
    have m3 := rv_I (H := H) (g := fun i j => V.int (i * j)) (wide_mul sx.den sy.den h0 h0 (by omega))
    have a1 : EvF K (tVar 0) (start ["one", "other"] [v, w]) H x := ef_var rfl rx
    have a2 : EvF K (tVar 1) (start ["one", "other"] [v, w]) H y := ef_var rfl ry
    refine s_retF (EvF.to (ef_red (B := 2 * B + 1) (ev_op (ev_op (ev_ix0 a1) (ev_ix1 a2) m1) (ev_op (ev_ix0 a2) (ev_ix1 a1) m2) rv_I0) (ev_op (ev_ix1 a1) (ev_ix1 a2) m3) (den_mul0 x y)
      (bits_up (bits_add (bits_mul sx.num sy.den) (bits_mul sy.num sx.den)) (by omega)) (bits_up (bits_mul sx.den sy.den) (by omega)) (by omega) (by omega)) (add_rt x y).symm) fun u H1 e1 r => q u H1 e1 r
theorem ok_minus (F : Fun K "minus" "minus" s_minus f fd) (C_reduced : Cal P w K mg base 2 "reduced" ["top", "bottom"] [] (spRed K)) : FnOk P w K mg base CX0 3 f fd ["one", "other"] (sp2 K (fun _ _ => True) (· - ·)) := by
  refine F.ok sc_minus (fun vs H Q E h => ?_) (fun cdv A outer s H vs Q E hr h => ?_)
  · obtain ⟨_, _, _, _, _, rfl, _⟩ := h
    rfl
  · obtain ⟨v, w, x, y, B, rfl, rx, ry, _, sx, sy, h0, hB, q⟩ := h
    refine ⟨_, (pss_one (ps_ret (pe_cal C_reduced hr (by decide) (by rfl) (pa_cons (pe_op op_sub (pe_op op_mulW (pe_ix ix_tup (pv 0) pe_int (fun _ _ => rfl)) (pe_ix ix_tup (pv 1) pe_int (fun _ _ => rfl))) (pe_op op_mulW (pe_ix ix_tup (pv 1) pe_int (fun _ _ => rfl)) (pe_ix ix_tup (pv 0) pe_int (fun _ _ => rfl)))) (pa_cons (pe_op op_mulW (pe_ix ix_tup (pv 0) pe_int (fun _ _ => rfl)) (pe_ix ix_tup (pv 1) pe_int (fun _ _ => rfl))) pa_nil))))), ?_⟩
    have m1 := rv_I (H := H) (g := fun i j => V.int (i * j)) (wide_mul sx.num sy.den h0 h0 (by omega))
    have m2 := rv_I (H := H) (g := fun i j => V.int (i * j)) (wide_mul sy.num sx.den h0 h0 (by omega))
    have m3 := rv_I (H := H) (g := fun i j => V.int (i * j)) (wide_mul sx.den sy.den h0 h0 (by omega))
    have a1 : EvF K (tVar 0) (start ["one", "other"] [v, w]) H x := ef_var rfl rx
    have a2 : EvF K (tVar 1) (start ["one", "other"] [v, w]) H y := ef_var rfl ry
    refine s_retF (EvF.to (ef_red (B := 2 * B + 1) (ev_op (ev_op (ev_ix0 a1) (ev_ix1 a2) m1) (ev_op (ev_ix0 a2) (ev_ix1 a1) m2) rv_I0) (ev_op (ev_ix1 a1) (ev_ix1 a2) m3) (den_mul0 x y)
      (bits_up (bits_sub (bits_mul sx.num sy.den) (bits_mul sy.num sx.den)) (by omega)) (bits_up (bits_mul sx.den sy.den) (by omega)) (by omega) (by omega)) (sub_rt x y).symm) fun u H1 e1 r => q u H1 e1 r
theorem ok_times (F : Fun K "times" "times" s_times f fd) (C_reduced : Cal P w K mg base 2 "reduced" ["top", "bottom"] [] (spRed K)) : FnOk P w K mg base CX0 3 f fd ["one", "other"] (sp2 K (fun _ _ => True) (· * ·)) := by
  refine F.ok sc_times (fun vs H Q E h => ?_) (fun cdv A outer s H vs Q E hr h => ?_)
  · obtain ⟨_, _, _, _, _, rfl, _⟩ := h
    rfl
  · obtain ⟨v, w, x, y, B, rfl, rx, ry, _, sx, sy, h0, hB, q⟩ := h
    refine ⟨_, (pss_one (ps_ret (pe_cal C_reduced hr (by decide) (by rfl) (pa_cons (pe_op op_mulW (pe_ix ix_tup (pv 0) pe_int (fun _ _ => rfl)) (pe_ix ix_tup (pv 1) pe_int (fun _ _ => rfl))) (pa_cons (pe_op op_mulW (pe_ix ix_tup (pv 0) pe_int (fun _ _ => rfl)) (pe_ix ix_tup (pv 1) pe_int (fun _ _ => rfl))) pa_nil))))), ?_⟩
    have m1 := rv_I (H := H) (g := fun i j => V.int (i * j)) (wide_mul sx.num sy.num h0 h0 (by omega))
    have m3 := rv_I (H := H) (g := fun i j => V.int (i * j)) (wide_mul sx.den sy.den h0 h0 (by omega))
    have a1 : EvF K (tVar 0) (start ["one", "other"] [v, w]) H x := ef_var rfl rx
    have a2 : EvF K (tVar 1) (start ["one", "other"] [v, w]) H y := ef_var rfl ry
    refine s_retF (EvF.to (ef_red (B := 2 * B + 1) (ev_op (ev_ix0 a1) (ev_ix0 a2) m1) (ev_op (ev_ix1 a1) (ev_ix1 a2) m3) (den_mul0 x y)
      (bits_up (bits_mul sx.num sy.num) (by omega)) (bits_up (bits_mul sx.den sy.den) (by omega)) (by omega) (by omega)) (mul_rt x y).symm) fun u H1 e1 r => q u H1 e1 r
theorem ok_over (F : Fun K "over" "over" s_over f fd) (C_reduced : Cal P w K mg base 2 "reduced" ["top", "bottom"] [] (spRed K)) : FnOk P w K mg base CX0 3 f fd ["one", "other"] (sp2 K (fun _ y => y ≠ 0) (· / ·)) := by
  refine F.ok sc_over (fun vs H Q E h => ?_) (fun cdv A outer s H vs Q E hr h => ?_)
  · obtain ⟨_, _, _, _, _, rfl, _⟩ := h
    rfl
  · obtain ⟨v, w, x, y, B, rfl, rx, ry, hy, sx, sy, h0, hB, q⟩ := h
    refine ⟨_, (pss_cons (ps_if (pt_cmpR op_eq (pe_ix ix_tup (pv 1) pe_int (fun _ _ => rfl)) pe_int (nomark _)) (pss_one ps_never) pss_nil)
      (pss_one (ps_ret (pe_cal C_reduced hr (by decide) (by rfl) (pa_cons (pe_op op_mulW (pe_ix ix_tup (pv 0) pe_int (fun _ _ => rfl)) (pe_ix ix_tup (pv 1) pe_int (fun _ _ => rfl))) (pa_cons (pe_op op_mulW (pe_ix ix_tup (pv 0) pe_int (fun _ _ => rfl)) (pe_ix ix_tup (pv 1) pe_int (fun _ _ => rfl))) pa_nil)))))), ?_⟩
    have m1 := rv_I (H := H) (g := fun i j => V.int (i * j)) (wide_mul sx.num sy.den h0 h0 (by omega))
    have m3 := rv_I (H := H) (g := fun i j => V.int (i * j)) (wide_mul sx.den sy.num h0 h0 (by omega))
    have a1 : EvF K (tVar 0) (start ["one", "other"] [v, w]) H x := ef_var rfl rx
    have a2 : EvF K (tVar 1) (start ["one", "other"] [v, w]) H y := ef_var rfl ry
    have nz := num_nz hy
    refine q_when (et_test (ev_op (ev_ix0 a2) ev_c (rv_eq rfl))) (fun hb => ?_) fun _ H1 e1 => ?_
    · exact absurd (V.int.inj (of_decide_eq_true hb)) nz
    · refine s_retF (EvF.to (EvF.mono (ef_red (B := 2 * B + 1) (ev_op (ev_ix0 a1) (ev_ix1 a2) m1) (ev_op (ev_ix1 a1) (ev_ix0 a2) m3) (Int.mul_ne_zero (den0 x) nz)
        (bits_up (bits_mul sx.num sy.den) (by omega)) (bits_up (bits_mul sx.den sy.num) (by omega)) (by omega) (by omega)) e1) (div_rt x y).symm) fun u H2 e2 r => q u H2 (e1.trans e2) r
theorem ok_under (F : Fun K "under" "under" s_under f fd) : FnOk P w K mg base CX0 1 f fd ["one", "other"] (spLt K) := by
  refine F.ok sc_under (fun vs H Q E h => ?_) (fun cdv A outer s H vs Q E hr h => ?_)
  · obtain ⟨_, _, _, _, _, rfl, _⟩ := h
    rfl
  · obtain ⟨v, w, x, y, B, rfl, rx, ry, sx, sy, h0, hB, q⟩ := h
    refine ⟨_, (pss_one (ps_ret (pe_cmpR op_lt (pe_op op_mulW (pe_ix ix_tup (pv 0) pe_int (fun _ _ => rfl)) (pe_ix ix_tup (pv 1) pe_int (fun _ _ => rfl))) (pe_op op_mulW (pe_ix ix_tup (pv 1) pe_int (fun _ _ => rfl)) (pe_ix ix_tup (pv 0) pe_int (fun _ _ => rfl))) (nomark _)))), ?_⟩
    have m1 := rv_I (H := H) (g := fun i j => V.int (i * j)) (wide_mul sx.num sy.den h0 h0 (by omega))
    have m2 := rv_I (H := H) (g := fun i j => V.int (i * j)) (wide_mul sy.num sx.den h0 h0 (by omega))
    have a1 : EvF K (tVar 0) (start ["one", "other"] [v, w]) H x := ef_var rfl rx
    have a2 : EvF K (tVar 1) (start ["one", "other"] [v, w]) H y := ef_var rfl ry
    refine s_ret (ev_is (ev_op (ev_op (ev_ix0 a1) (ev_ix1 a2) m1) (ev_op (ev_ix0 a2) (ev_ix1 a1) m2) rv_I0) ?_) q
    show V.bl _ = V.bl _
    congr 1
    exact decide_eq_decide.mpr (lt_rt x y).symm
theorem ok_apart (F : Fun K "apart" "apart" s_apart f fd) (C_under : Cal P w K mg base 1 "under" ["one", "other"] [] (spLt K)) (C_minus : Cal P w K mg base 3 "minus" ["one", "other"] [] (sp2 K (fun _ _ => True) (· - ·))) : FnOk P w K mg base CX0 4 f fd ["one", "other"] (sp2 K (fun _ _ => True) ap) := by
  refine F.ok sc_apart (fun vs H Q E h => ?_) (fun cdv A outer s H vs Q E hr h => ?_)
  · obtain ⟨_, _, _, _, _, rfl, _⟩ := h
    rfl
  · obtain ⟨v, w, x, y, B, rfl, rx, ry, _, sx, sy, h0, hB, q⟩ := h
    refine ⟨_, (pss_cons (ps_if (pt_val (pe_cal C_under hr (by decide) (by rfl) (pa_cons (pv 0) (pa_cons (pv 1) pa_nil)))) (pss_one (ps_ret (pe_cal C_minus hr (by decide) (by rfl) (pa_cons (pv 1) (pa_cons (pv 0) pa_nil))))) pss_nil)
      (pss_one (ps_ret (pe_cal C_minus hr (by decide) (by rfl) (pa_cons (pv 0) (pa_cons (pv 1) pa_nil)))))), ?_⟩
    have a1 : EvF K (tVar 0) (start ["one", "other"] [v, w]) H x := ef_var rfl rx
    have a2 : EvF K (tVar 1) (start ["one", "other"] [v, w]) H y := ef_var rfl ry
    refine q_when (et_B (ev_lt a1 a2 sx sy h0 (by omega))) (fun hb H1 e1 => ?_) fun hb H1 e1 => ?_
    · have hl : x < y := of_decide_eq_true hb
      refine s_retF (EvF.to ((ef_2 (f := (· - ·)) a2 a1 True.intro sy sx h0 hB).mono e1) ?_) fun u H2 e2 r => q u H2 (e1.trans e2) r
      show y - x = ap x y
      unfold ap
      rw [if_pos hl]
    · have hl : ¬ x < y := of_decide_eq_false hb
      refine s_retF (EvF.to ((ef_2 (f := (· - ·)) a1 a2 True.intro sx sy h0 hB).mono e1) ?_) fun u H2 e2 r => q u H2 (e1.trans e2) r
      show x - y = ap x y
      unfold ap
      rw [if_neg hl]
end
end NF

namespace NF
open PySem PySem.Spec PyProof.Rows L2 Evl
abbrev s_is_whole : Stmt := topS 6
theorem sc_is_whole : FnScope ["thing"] ["thing"] (defScope s_is_whole) := ⟨rfl, rfl, rfl, by decide +kernel, rfl, by decide +kernel, by decide +kernel⟩
abbrev s_is_fraction : Stmt := topS 8
theorem sc_is_fraction : FnScope ["thing", "top", "bottom"] ["thing"] (defScope s_is_fraction) := ⟨rfl, rfl, rfl, by decide +kernel, rfl, by decide +kernel, by decide +kernel⟩
abbrev s_fraction : Stmt := topS 10
theorem sc_fraction : FnScope ["top", "bottom"] ["top", "bottom"] (defScope s_fraction) := ⟨rfl, rfl, rfl, by decide +kernel, rfl, by decide +kernel, by decide +kernel⟩
abbrev s_total : Stmt := topS 17
theorem sc_total : FnScope ["some", "start", "result", "each"] ["some", "start"] (defScope s_total) := ⟨rfl, rfl, rfl, by decide +kernel, rfl, by decide +kernel, by decide +kernel⟩
section
variable {P : Program} {w : World} {K : PySem.W.Frag} {mg : Str → Option Value} {base : Heap} {f : Addr} {fd : FuncData}
theorem ok_whole (F : Fun K "is_whole" "is_whole" s_is_whole f fd) (n_isinstance : mg "isinstance" = none) (n_int : mg "int" = none) (n_bool : mg "bool" = none) : FnOk P w K mg base CX0 1 f fd ["thing"] (spWhole K) := by
  refine F.ok sc_is_whole (fun vs H Q E h => ?_) (fun cdv A outer s H vs Q E hr h => ?_)
  · obtain ⟨_, _, _, _, rfl, _⟩ := h
    rfl
  · obtain ⟨v, t, b1, b2, rfl, ty, k1, k2, q⟩ := h
    refine ⟨_, (pss_one (ps_ret (pe_and (pe_callB call_isi (by rfl) n_isinstance PyProof.Rows.boot_isinstance (pa_cons (pv 0) (pa_cons (c_ty (n := "int") n_int (by rfl) (by decide +kernel) (by decide)) pa_nil))) (pe_one (pe_not (pe_callB call_isi (by rfl) n_isinstance PyProof.Rows.boot_isinstance (pa_cons (pv 0) (pa_cons (c_ty (n := "bool") n_bool (by rfl) (by decide +kernel) (by decide)) pa_nil)))))))), ?_⟩
    exact s_ret (ev_andV (ev_isi (ev_var rfl) ty k1) fun _ => ev_notV (ev_isi (ev_var rfl) ty k2)) q
theorem ok_isF (F : Fun K "is_fraction" "is_fraction" s_is_fraction f fd) (n_isinstance : mg "isinstance" = none) (n_tuple : mg "tuple" = none) (n_len : mg "len" = none) (C_is_whole : Cal P w K mg base 1 "is_whole" ["thing"] [] (spWhole K))
    (C_greatest_divisor : Cal P w K mg base 1 "greatest_divisor" ["one", "other"] [] spGcd) : FnOk P w K mg base CX0 2 f fd ["thing"] (spIsF K) := by
  refine F.ok sc_is_fraction (fun vs H Q E h => ?_) (fun cdv A outer s H vs Q E hr h => ?_)
  · obtain ⟨_, _, rfl, _⟩ := h
    rfl
  · obtain ⟨v, x, rfl, ⟨p, rfl, hp⟩, q⟩ := h
    refine ⟨_, (pss_cons (ps_if (PW.pt (pw_or (pt_not (pt_val (pe_callB call_isi (by rfl) n_isinstance PyProof.Rows.boot_isinstance (pa_cons (pv 0) (pa_cons (c_ty (n := "tuple") n_tuple (by rfl) (by decide +kernel) (by decide)) pa_nil))))) (pw_or1 (pt_cmpR op_ne (pe_callB call_len_seq (by rfl) n_len PySem.boot_len (pa_cons (pv 0) pa_nil)) pe_int (nomark _))))) (pss_one (ps_ret pe_bl)) pss_nil)
      (pss_cons (ps_asg (pv 0) (pg_tup rfl (pgs_cons (pg_name (i := 1) sc_is_fraction.nd rfl (.inl rfl)) (pgs_cons (pg_name (i := 2) sc_is_fraction.nd rfl (.inl rfl)) pgs_nil))))
      (pss_cons (ps_if (PW.pt (pw_or (pt_not (pt_val (pe_cal C_is_whole hr (by decide) (by rfl) (pa_cons (pv 1) pa_nil)))) (pw_or (pt_not (pt_val (pe_cal C_is_whole hr (by decide) (by rfl) (pa_cons (pv 2) pa_nil)))) (pw_or1 (pt_cmpR op_lt (pv 2) pe_int (nomark _)))))) (pss_one (ps_ret pe_bl)) pss_nil)
      (pss_one (ps_ret (pe_cmpR op_eq (pe_cal C_greatest_divisor hr (by decide) (by rfl) (pa_cons (pv 1) (pa_cons (pv 2) pa_nil))) pe_int (nomark _))))))), ?_⟩
    have el : RC (fun xs H Q => ∃ p ys, xs = [V.ref p] ∧ (SqL K H p ys ∨ SqT K H p ys) ∧ Q (.int ys.length) H) [V.ref p] H (.int 2) := fun H1 e Q' q' => ⟨p, _, rfl, .inr (ex_t e hp), q' H1 (Ex.refl H1)⟩
    refine q_when (et_or (et_not (et_B (ev_isi (ev_var rfl) (ty_tup hp) kit_tt))) fun _ => et_test (ev_op (ev_cb (ea_cons (ev_var rfl) ea_nil) el) ev_c (rv_ne rfl))) (fun hb => ?_) fun _ H1 e1 => ?_
    · simp at hb
    · refine ⟨.ref p, rfl, p, _, rfl, ex_t e1 hp, rfl, _, _, rfl, _, _, rfl, rfl, ?_⟩
      refine q_when (et_or (et_not (et_B (ev_wholeI (ev_var rfl)))) fun _ => et_or (et_not (et_B (ev_wholeI (ev_var rfl)))) fun _ => et_test (ev_op (ev_var rfl) ev_c rv_I0)) (fun hb => ?_) fun _ H2 e2 => ?_
      · have := denp x
        simp at hb
        omega
      · refine s_ret (ev_is (ev_op (ev_gcd (ev_var rfl) (ev_var rfl)) ev_c (rv_eq rfl)) ?_) fun H3 e3 => q H3 ((e1.trans e2).trans e3)
        rw [cop x]
        rfl
theorem ok_frac {dvs : List V} (F : FunD K "fraction" "fraction" (defArgs s_fraction) (defBody s_fraction) (defScope s_fraction) dvs [] f fd) (C_is_whole : Cal P w K mg base 1 "is_whole" ["thing"] [] (spWhole K))
    (C_reduced : Cal P w K mg base 2 "reduced" ["top", "bottom"] [] (spRed K)) : FnOk P w K mg base CX0 3 f fd ["top", "bottom"] (spFrac K) := by
  refine F.ok sc_fraction (fun vs H Q E h => ?_) (fun cdv A outer s H vs Q E hr h => ?_)
  · obtain ⟨_, _, _, rfl, _⟩ := h
    rfl
  · obtain ⟨a, b, B, rfl, hb0, ha, hb, hB0, hB, q⟩ := h
    refine ⟨_, PSs.nox ((pss_cons (ps_if (PW.pt (pw_or (pt_not (pt_val (pe_cal C_is_whole hr (by decide) (by rfl) (pa_cons (pv 0) pa_nil)))) (pw_or (pt_not (pt_val (pe_cal C_is_whole hr (by decide) (by rfl) (pa_cons (pv 1) pa_nil)))) (pw_or1 (pt_cmpR op_eq (pv 1) pe_int (nomark _)))))) (pss_one ps_never) pss_nil)
      (pss_one (ps_ret (pe_cal C_reduced hr (by decide) (by rfl) (pa_cons (pv 0) (pa_cons (pv 1) pa_nil))))))), ?_⟩
    refine q_when (et_or (et_not (et_B (ev_wholeI (ev_var rfl)))) fun _ => et_or (et_not (et_B (ev_wholeI (ev_var rfl)))) fun _ => et_test (ev_op (ev_var rfl) ev_c (rv_eq rfl))) (fun hz => ?_) fun _ H1 e1 => ?_
    · simp at hz
      exact absurd hz hb0
    · exact s_retF (K := K) (ef_red (ev_var rfl) (ev_var rfl) hb0 ha hb hB0 hB) fun u H2 e2 r => q u H2 (e1.trans e2) r
theorem ok_total {dvs : List V} {aN : Addr} (F : FunD K "total" "total" (defArgs s_total) (defBody s_total) (defScope s_total) dvs [] f fd) (m_NOUGHT : mg "NOUGHT" = some (.ref aN)) (hN : ∀ H, SqT K H aN [.int 0, .int 1])
    (C_plus : Cal P w K mg base 3 "plus" ["one", "other"] [] (sp2 K (fun _ _ => True) (· + ·))) : FnOk P w K mg base CX0 4 f fd ["some", "start"] (spTot K) := by
  refine F.ok sc_total (fun vs H Q E h => ?_) (fun cdv A outer s H vs Q E hr h => ?_)
  · obtain ⟨_, _, _, _, _, _, rfl, _⟩ := h
    rfl
  · obtain ⟨a, us, xs, w, x0, B, rfl, ha, hx, hw, s0, hs, hB, q⟩ := h
    refine ⟨_, PSs.nox ((pss_cons (ps_set (i := 2) sc_total.nd rfl (.inl rfl) (pe_ifExp (pt_cmpR op_isN (pv 1) pe_non (nomark _)) (pe_glob (v := .ref aN) (by rfl) m_NOUGHT rfl) (pv 1)))
      (pss_cons (ps_for PassesOwn.never rfl (pi_list (pv 0)) (pg_name (i := 3) sc_total.nd rfl (.inl rfl)) (pss_one (ps_set (i := 2) sc_total.nd rfl (.inl rfl) (pe_cal C_plus hr (by decide) (by rfl) (pa_cons (pv 2) (pa_cons (pv 3) pa_nil))))))
      (pss_one (ps_ret (pv 2)))))), ?_⟩
    have en : EvF K (tC (.ref aN)) (start ["some", "start", "result", "each"] [.ref a, w]) H 0 := fun H1 e Q q => q _ H1 (Ex.refl H1) ⟨aN, rfl, hN H1⟩
    have hf : EvF K (tIf (tTest (tOp (fun x y H Q => y = .non ∧ Q (.bl (decide (x = .non))) H) (tVar 1) (tC .non))) (tC (.ref aN)) (tVar 1)) (start ["some", "start", "result", "each"] [.ref a, w]) H x0 := by
      refine ef_if (b := decide (w = .non)) (et_test (ev_op (ev_var rfl) ev_c fun H1 _ _ q => ⟨rfl, q H1 (Ex.refl H1)⟩)) (fun hb => ?_) (fun hb => ?_)
      · rcases hw with ⟨_, e0⟩ | ⟨p, e, _⟩
        · subst e0
          exact en
        · rw [of_decide_eq_true hb] at e
          cases e
      · rcases hw with ⟨e, _⟩ | hw
        · exact absurd e (of_decide_eq_false hb)
        · exact ef_var rfl hw
    refine q_asgF hf fun u H1 e1 ru => ?_
    refine q_forLn (xs := us) (ev_var rfl) (ex_l e1 ha) (fun i σ' H' => ∃ v y, σ' = [some (.ref a), some w, some v, y] ∧ Ex H H' ∧ Rt K H' v (sumF x0 (xs.take i))) (fun H2 e2 => ⟨u, none, rfl, e1.trans e2, ru.mono e2⟩) ?_ ?_ ?_
    · rintro i σ' H' _ ⟨v, y, rfl, e, _⟩
      exact ex_l e ha
    · rintro i x σ' H' hi ⟨v, y, rfl, e, r⟩
      obtain ⟨z, hz, rz⟩ := (hx.mono e).get hi
      have hl : i < xs.length := (List.getElem?_eq_some_iff.mp hz).1
      have hm : z ∈ xs := List.mem_of_getElem? hz
      have hb1 : (i + 1) * (B + 1) ≤ (xs.length + 2) * (B + 1) := Nat.mul_le_mul_right _ (by omega)
      have hb2 : B + 1 ≤ (i + 1) * (B + 1) := Nat.le_mul_of_pos_left _ (by omega)
      refine s_asgF (K := K) (x := sumF x0 (xs.take i) + z) (ef_2 (f := (· + ·)) (B := (i + 1) * (B + 1)) (ef_var rfl r) (ef_var rfl rz) True.intro (sz_sum s0 hs i (by omega)) ((hs z hm).mono (by omega)) (by omega) (by omega)) fun u2 H2 e2 r2 => ?_
      refine ⟨u2, some x, rfl, e.trans e2, ?_⟩
      rw [sumF_take hz]
      exact r2
    · rintro σ' H' ⟨v, y, rfl, e, r⟩
      rw [hx.length, List.take_length] at r
      exact s_ret (ev_var rfl) fun H2 e2 => q v H2 (e.trans e2) (r.mono e2)
end
end NF

namespace NF
open PySem PySem.Spec PyProof.Rows L2 Evl
/-! ### [..].count(True) -/
theorem vals_bl : ∀ {bs : List Bool} {its : List Value}, Vals (bs.map V.bl) its → its = bs.map Value.bool
  | [], _, .nil => rfl
  | b :: bs, _, .cons r t => by
    have e : _ = Value.bool b := r
    rw [e, vals_bl t]
    rfl
def rCntB (K : PySem.W.Frag) : V → List V → Hp → VK → Prop := fun x xs H Q => ∃ (p : Addr) (bs : List Bool) (k : Bool), x = .ref p ∧ xs = [.bl k] ∧ SqL K H p (bs.map V.bl) ∧ Q (.int (bs.count k : Nat)) H
theorem mt_countB {X : Cx} : MtR X "list.count" (rCntB X.K) := by
  intro pins s σ H x xs v us Q I rx rxs h
  obtain ⟨p, bs, k, rfl, rfl, hs, q⟩ := h
  cases rx
  obtain ⟨u, rfl, ru⟩ := rxs.one
  cases (show u = Value.bool k from ru)
  obtain ⟨its, rv, ⟨⟨cls, dd, data, sl⟩, n, ho, hc, hdn, hd⟩, hlen⟩ := I.list hs
  simp only at hc hd
  subst hc hd
  have hi := vals_bl rv
  subst hi
  refine call_meets PySem.F.slot_list_count ⟨_, ho, rfl⟩ PySem.F.entry_list_count (PySem.F.args_list_count_2 _ _)
    (SeqAt.list_countAt p (bs.map Value.bool).toArray n dd sl (.bool k) (isBoolOf k)) ⟨ho, fun y hy => ?_, ?_⟩
  · have hy' : y ∈ bs.map Value.bool := by simpa using hy
    obtain ⟨b, _, rfl⟩ := List.mem_map.mp hy'
    exact SeqAt.EqAt.bool_bool b k
  · have ec : (bs.map Value.bool).toArray.toList.countP (isBoolOf k) = bs.count k := by
      show (bs.map Value.bool).countP (isBoolOf k) = bs.count k
      rw [List.countP_map, List.count]
      rfl
    refine ⟨.int (bs.count k : Nat), H, I.tok _, ⟨s.toks, ?_⟩, q⟩
    rw [ec]
/-! ### the law's state: a list of two ints and a truth -/
def Exs (st : Addr) (H H' : Hp) : Prop := ∀ b o, b ≠ st → H b = some o → H' b = some o
theorem Exs.refl (st : Addr) (H : Hp) : Exs st H H := fun _ _ _ h => h
theorem Exs.trans {st : Addr} {H H1 H2 : Hp} (a : Exs st H H1) (b : Exs st H1 H2) : Exs st H H2 := fun c o n h => b c o n (a c o n h)
theorem Exs.of {st : Addr} {H H1 : Hp} (e : Ex H H1) : Exs st H H1 := fun c o _ h => e c o h
theorem Exs.upd {st : Addr} {H : Hp} {o : HO} : Exs st H (upd H st o) := fun c u n h => by rw [upd_ne n]; exact h
def StA (st : Addr) (H : Hp) : Prop := ∃ (n m : Int) (c : Bool), H st = some (.lst [.int n, .int m, .bl c])
theorem StA.mono {st : Addr} {H H1 : Hp} (e : Ex H H1) (h : StA st H) : StA st H1 := by
  obtain ⟨n, m, c, h⟩ := h
  exact ⟨n, m, c, e _ _ h⟩
/-- what is no list of the state's stays -/
theorem Exs.lst {K : PySem.W.Frag} {st a : Addr} {H H1 : Hp} {xs : List V} (e : Exs st H H1) (n : a ≠ st) (h : SqL K H a xs) : SqL K H1 a xs := by
  rcases h with (h | ⟨o, h⟩) | h
  · exact .inl (.inl (e _ _ n h))
  · exact .inl (.inr ⟨o, e _ _ n h⟩)
  · exact .inr h
theorem Exs.tup {K : PySem.W.Frag} {st a : Addr} {H H1 : Hp} {xs : List V} (e : Exs st H H1) (hs : StA st H) (h : SqT K H a xs) : SqT K H1 a xs := by
  obtain ⟨n, m, c, hs⟩ := hs
  rcases h with (h | ⟨o, h⟩) | h
  · exact .inl (.inl (e _ _ (ne_of h hs (fun z => by cases z)) h))
  · exact .inl (.inr ⟨o, e _ _ (ne_of h hs (fun z => by cases z)) h⟩)
  · exact .inr h
theorem Rt.exs {K : PySem.W.Frag} {st : Addr} {H H1 : Hp} {v : V} {x : Rat} (r : Rt K H v x) (e : Exs st H H1) (hs : StA st H) : Rt K H1 v x := by
  obtain ⟨p, e1, h⟩ := r
  exact ⟨p, e1, e.tup hs h⟩
def spBegun (K : PySem.W.Frag) : Sp := fun vs H Q _ => ∃ (a : Addr) (ns : List Int) (k : Nat), vs = [.ref a, .int (k : Int)] ∧ SqL K H a (ns.map V.int) ∧ ns.length ≤ 1000 ∧ k ≤ 1000 ∧ ∀ st H', H st = none → Ex H H' → StA st H' → Q (.ref st) H'
def spTake : Sp := fun vs H Q _ => ∃ (st : Addr) (many : Int), vs = [.ref st, .int many] ∧ StA st H ∧ 0 < many ∧ many.natAbs < 2 ^ 8000 ∧ ∀ d H', 0 ≤ d → d < many → StA st H' → Exs st H H' → Q (.int d) H'
theorem take_call {st : Addr} {many : Int} {H : Hp} {Q : VK} {E : XK} (hs : StA st H) (h0 : 0 < many) (hm : many.natAbs < 2 ^ 8000) (q : ∀ d H', 0 ≤ d → d < many → StA st H' → Exs st H H' → Q (.int d) H') : spTake [.ref st, .int many] H Q E := ⟨st, many, rfl, hs, h0, hm, q⟩
theorem small_bits {i : Int} (h0 : 0 ≤ i) (h : i ≤ 10 ^ 2000) : i.natAbs < 2 ^ 8000 := by
  have e : (10 : Int) ^ 2000 < 2 ^ 8000 := by decide +kernel
  have e2 : ((2 ^ 8000 : Nat) : Int) = (2 : Int) ^ 8000 := by decide +kernel
  omega
end NF

namespace NF
open PySem PySem.Spec PyProof.Rows L2 Evl
abbrev s__law_begun : Stmt := topS 19
theorem sc__law_begun : FnScope ["_law_script", "_law_k", "_law_cell", "_law_number", "_law_mixed"] ["_law_script", "_law_k"] (defScope s__law_begun) := ⟨rfl, rfl, rfl, by decide +kernel, rfl, by decide +kernel, by decide +kernel⟩
abbrev s__law_take : Stmt := topS 20
theorem sc__law_take : FnScope ["_law_state", "_law_many", "_law_digit", "_law_made", "_law_turn"] ["_law_state", "_law_many"] (defScope s__law_take) := ⟨rfl, rfl, rfl, by decide +kernel, rfl, by decide +kernel, by decide +kernel⟩
section
variable {P : Program} {w : World} {K : PySem.W.Frag} {mg : Str → Option Value} {base : Heap} {f : Addr} {fd : FuncData}
theorem cell_ok (ns : List Int) (k : Nat) : ∃ c : Int, (cutV (ns.map V.int) (some (k : Int)) (some ((k : Int) + 1)) ++ [V.int 0])[0]? = some (.int c) := by
  have h : ∀ v ∈ cutV (ns.map V.int) (some (k : Int)) (some ((k : Int) + 1)), ∃ c, v = V.int c := by
    intro v hv
    have h1 : v ∈ ns.map V.int := List.mem_of_mem_drop (List.mem_of_mem_take hv)
    obtain ⟨c, _, e⟩ := List.mem_map.mp h1
    exact ⟨c, e.symm⟩
  cases e : cutV (ns.map V.int) (some (k : Int)) (some ((k : Int) + 1)) with
  | nil => exact ⟨0, rfl⟩
  | cons v r =>
    rw [e] at h
    obtain ⟨c, hc⟩ := h v (List.mem_cons_self ..)
    exact ⟨c, by rw [hc]; rfl⟩
theorem cut_len (xs : List V) (a b : Option Int) : (cutV xs a b).length ≤ xs.length := by
  unfold cutV
  rw [List.length_take, List.length_drop]
  omega
theorem ok_begun (F : Fun K "_law_begun" "_law_begun" s__law_begun f fd) (n_max : mg "max" = none) : FnOk P w K mg base CX0 1 f fd ["_law_script", "_law_k"] (spBegun K) := by
  refine F.ok sc__law_begun (fun vs H Q E h => ?_) (fun cdv A outer s H vs Q E hr h => ?_)
  · obtain ⟨_, _, _, rfl, _⟩ := h
    rfl
  · obtain ⟨a, ns, k, rfl, ha, hl, hk, q⟩ := h
    refine ⟨_, (pss_cons (ps_set (i := 2) sc__law_begun.nd rfl (.inl rfl) (pe_ix ix_list (pe_op op_cat (pe_slice sl_list (pv 0) (po_some (pv 1)) (po_some (pe_op op_add (pv 1) pe_int))) (pe_lst (pa_cons pe_int pa_nil))) pe_int (fun _ _ => rfl)))
      (pss_cons (ps_set (i := 3) sc__law_begun.nd rfl (.inl rfl) (pe_callB (call_max2 rfl) (by rfl) n_max PyProof.Rows.boot_max (pa_cons (pv 2) (pa_cons (pe_op op_sub (pe_un un_neg pe_int) (pv 2)) pa_nil))))
      (pss_cons (ps_set (i := 4) sc__law_begun.nd rfl (.inl rfl) (pe_op op_modN (pe_op op_add (pe_op op_add (pe_op op_add (pe_op op_modN (pv 3) pe_int) (pe_op op_mul pe_int (pv 1))) (pe_op op_mul (pe_op op_mul pe_int (pv 1)) (pv 1))) pe_int) pe_int))
      (pss_one (ps_ret (pe_lst (pa_cons (pv 3) (pa_cons (pv 4) (pa_cons (pe_cmpR op_ge (pv 3) (pe_op op_pow pe_int pe_int) (nomark _)) pa_nil))))))))), ?_⟩
    obtain ⟨c, hc⟩ := cell_ok ns k
    have hlen := cut_len (ns.map V.int) (some (k : Int)) (some ((k : Int) + 1))
    rw [List.length_map] at hlen
    have e1 : Ev (tOp (rIxL K) (tOp rCat (tSl (rSlL K) (tVar 0) (tPart (tVar 1)) (tPart (tOp (rI0 fun i j => .int (i + j)) (tVar 1) (tC (.int 1))))) (tLst (tCons (tC (.int 0)) tNil))) (tC (.int 0))) (start ["_law_script", "_law_k", "_law_cell", "_law_number", "_law_mixed"] [.ref a, .int (k : Int)]) H (.int c) := by
      intro H1 x1 Q' q'
      refine el_sl (ev_var rfl) (eo_some (ev_var rfl)) (eo_some (ev_op (ev_var rfl) ev_c rv_I0)) ha H1 x1 _ fun p H2 np x2 hp => ?_
      refine el_lst (H := H2) (ea_cons ev_c ea_nil) (by show 1 ≤ 100000; decide) H2 (Ex.refl H2) _ fun r H3 nr x3 h3 => ?_
      refine ⟨p, r, _, _, rfl, rfl, x3 _ _ hp, h3, sz_of (by show (cutV (ns.map V.int) (some (k : Int)) (some ((k : Int) + 1))).length + 1 ≤ 100000; omega), fun t nt => ?_⟩
      exact ⟨t, _, 0, .int c, rfl, rfl, SqL.of upd_same, atI_nat (j := 0) hc, q' _ ((x2.trans x3).trans (Ex.new nt))⟩
    refine q_asg e1 fun H1 x1 => ?_
    refine q_asg (ev_max2 (ev_var rfl) (ev_op (ev_un ev_c ru_neg) (ev_var rfl) rv_I0)) fun H2 x2 => ?_
    refine q_asg (ev_op (ev_op (ev_op (ev_op (ev_op (ev_var rfl) ev_c (rv_I (by decide))) (ev_op ev_c (ev_var rfl) (rv_I (.inl ⟨by decide, by decide⟩))) rv_I0)
      (ev_op (ev_op ev_c (ev_var rfl) (rv_I (.inl ⟨by decide, by decide⟩))) (ev_var rfl) (rv_I (.inr ⟨by omega, by omega⟩))) rv_I0) ev_c rv_I0) ev_c (rv_I (by decide))) fun H3 x3 => ?_
    refine s_retL (el_lst (ea_cons (ev_var rfl) (ea_cons (ev_var rfl) (ea_cons (ev_op (ev_var rfl) (ev_op ev_c ev_c (rv_I ⟨by decide, by decide, by decide⟩)) rv_I0) ea_nil))) (by show 3 ≤ 100000; decide)) fun p H4 np x4 hp => ?_
    exact q p H4 (fresh_back ((x1.trans x2).trans x3) np) (((x1.trans x2).trans x3).trans x4) ⟨_, _, _, hp⟩
theorem ok_take (F : Fun K "_law_take" "_law_take" s__law_take f fd) (n_int : mg "int" = none) (n_range : mg "range" = none) : FnOk P w K mg base CX0 1 f fd ["_law_state", "_law_many"] spTake := by
  refine F.ok sc__law_take (fun vs H Q E h => ?_) (fun cdv A outer s H vs Q E hr h => ?_)
  · obtain ⟨_, _, rfl, _⟩ := h
    rfl
  · obtain ⟨st, many, rfl, ⟨n, m, c, hs⟩, h0, hm, q⟩ := h
    refine ⟨_, (pss_cons (ps_if (pt_val (pe_ix ix_list (pv 0) pe_int (fun _ _ => rfl))) (pss_cons (ps_set (i := 2) sc__law_take.nd rfl (.inl rfl) (pe_op op_modN (pe_ix ix_list (pv 0) pe_int (fun _ _ => rfl)) (pv 1)))
      (pss_cons (ps_asg (pe_op op_fdivX (pe_ix ix_list (pv 0) pe_int (fun _ _ => rfl)) (pv 1)) (pg_sub (pv 0) pe_int set_list))
      (pss_cons (ps_asg (pe_cmpR op_gt (pe_ix ix_list (pv 0) pe_int (fun _ _ => rfl)) pe_int (nomark _)) (pg_sub (pv 0) pe_int set_list))
      (pss_one (ps_ret (pv 2)))))) pss_nil)
      (pss_cons (ps_set (i := 3) sc__law_take.nd rfl (.inl rfl) pe_int)
      (pss_cons (ps_for PassesOwn.never rfl (pi_range1 (by rfl) n_range (pa_cons (pe_op op_add pe_int (pe_callTy call_int1 (by rfl) n_int PyProof.Rows.boot_int (pa_cons (pe_cmpR op_gt (pv 1) (pe_op op_pow pe_int pe_int) (nomark _)) pa_nil))) pa_nil)) (pg_name (i := 4) sc__law_take.nd rfl (.inl rfl)) (pss_cons (ps_asg (pe_op op_modN (pe_op op_add (pe_op op_mul (pe_ix ix_list (pv 0) pe_int (fun _ _ => rfl)) pe_int) pe_int) pe_int) (pg_sub (pv 0) pe_int set_list))
      (pss_one (ps_set (i := 3) sc__law_take.nd rfl (.inl rfl) (pe_op op_add (pe_op op_mul (pv 3) pe_int) (pe_op op_modN (pe_op op_mul (pe_ix ix_list (pv 0) pe_int (fun _ _ => rfl)) (pe_ix ix_list (pv 0) pe_int (fun _ _ => rfl))) pe_int))))))
      (pss_one (ps_ret (pe_op op_modN (pe_op op_fdivX (pv 3) pe_int) (pv 1))))))), ?_⟩
    have i0 : ∀ {σ : L2.St} {H : Hp} {a b c : V}, σ[0]? = some (some (.ref st)) → H st = some (.lst [a, b, c]) → Ev (tOp (rIxL K) (tVar 0) (tC (.int 0))) σ H a := fun hσ h => ev_op (ev_var hσ) ev_c (rv_ixL (SqL.of h) (atI_nat (j := 0) rfl))
    have i1 : ∀ {σ : L2.St} {H : Hp} {a b c : V}, σ[0]? = some (some (.ref st)) → H st = some (.lst [a, b, c]) → Ev (tOp (rIxL K) (tVar 0) (tC (.int 1))) σ H b := fun hσ h => ev_op (ev_var hσ) ev_c (rv_ixL (SqL.of h) (atI_nat (j := 1) rfl))
    have i2 : ∀ {σ : L2.St} {H : Hp} {a b c : V}, σ[0]? = some (some (.ref st)) → H st = some (.lst [a, b, c]) → Ev (tOp (rIxL K) (tVar 0) (tC (.int 2))) σ H c := fun hσ h => ev_op (ev_var hσ) ev_c (rv_ixL (SqL.of h) (atI_nat (j := 2) rfl))
    refine q_when (et_B (i2 rfl hs)) (fun hb H1 x1 => ?_) fun hb H1 x1 => ?_
    · refine q_asg (ev_op (i0 rfl (x1 _ _ hs)) (ev_var rfl) (rv_I (Int.ne_of_gt h0))) fun H2 x2 => ?_
      refine q_setL (j := 0) ((x1.trans x2) _ _ hs) (ev_op (i0 rfl ((x1.trans x2) _ _ hs)) (ev_var rfl) (rv_I (divX (Int.ne_of_gt h0) hm (by decide) (by decide)))) (ev_var rfl) ev_c (by show 0 < 3; decide) fun H3 x3 => ?_
      refine q_setL (j := 2) upd_same (ev_op (i0 rfl upd_same) ev_c rv_I0) (ev_var rfl) ev_c (by show 2 < 3; decide) fun H4 x4 => ?_
      have y3 : Exs st H (upd H3 st (.lst [.int (n.fdiv many), .int m, .bl c])) := (Exs.of ((x1.trans x2).trans x3)).trans Exs.upd
      exact s_ret (ev_var rfl) fun H5 x5 => q _ H5 (Int.fmod_nonneg_of_pos n h0) (Int.fmod_lt_of_pos n h0) ⟨_, _, _, x5 _ _ upd_same⟩ (((y3.trans (Exs.of x4)).trans Exs.upd).trans (Exs.of x5))
    · refine q_asg ev_c fun H2 x2 => ?_
      have en : RC (fun xs H Q => (∃ i, xs = [V.int i] ∧ Q (.int i) H) ∨ ∃ k, xs = [V.bl k] ∧ Q (.int (if k then 1 else 0)) H) [.bl (decide ((10 : Int) ^ (6 : Int).toNat < many))] H2 (.int (if decide ((10 : Int) ^ (6 : Int).toNat < many) = true then 1 else 0)) := fun H1 _ _ q => .inr ⟨_, rfl, q H1 (Ex.refl H1)⟩
      refine q_forR1 (n := 1 + (if decide ((10 : Int) ^ (6 : Int).toNat < many) = true then 1 else 0)) (ea_cons (ev_op ev_c (ev_cb (ea_cons (ev_op (ev_var rfl) (ev_op ev_c ev_c (rv_I ⟨by decide, by decide, by decide⟩)) rv_I0) ea_nil) en) rv_I0) ea_nil) (by split <;> omega)
        (fun i σ' H' => ∃ (g : Int) (y2 y4 : Option V), σ' = [some (.ref st), some (.int many), y2, some (.int g), y4] ∧ StA st H' ∧ Exs st H H') (fun H3 x3 => ⟨0, none, none, rfl, ⟨n, m, c, ((x1.trans x2).trans x3) _ _ hs⟩, Exs.of ((x1.trans x2).trans x3)⟩) ?_ ?_
      · rintro i σ' H' hi ⟨g, y2, y4, rfl, ⟨n', m', c', hs'⟩, x⟩
        have p0 : 0 ≤ (m' * 48271 + 11).fmod 2147483647 := Int.fmod_nonneg_of_pos _ (by decide)
        have p1 : (m' * 48271 + 11).fmod 2147483647 < 2147483647 := Int.fmod_lt_of_pos _ (by decide)
        refine q_setL (j := 1) hs' (ev_op (ev_op (ev_op (i1 rfl hs') ev_c (rv_I (.inr ⟨by decide, by decide⟩))) ev_c rv_I0) ev_c (rv_I (by decide))) (ev_var rfl) ev_c (by show 1 < 3; decide) fun H3 x3 => ?_
        refine s_asg (ev_op (ev_op (ev_var rfl) ev_c (rv_I (.inr ⟨by decide, by decide⟩))) (ev_op (ev_op (i1 rfl upd_same) (i1 rfl upd_same) (rv_I (.inl ⟨by omega, by omega⟩))) ev_c (rv_I (by decide))) rv_I0) fun H4 x4 => ?_
        exact ⟨_, _, _, rfl, ⟨_, _, _, x4 _ _ upd_same⟩, ((x.trans (Exs.of x3)).trans Exs.upd).trans (Exs.of x4)⟩
      · rintro σ' H' ⟨g, y2, y4, rfl, hs', x⟩
        exact s_ret (ev_op (ev_op (ev_var rfl) ev_c (rv_I (divX (b := 7) (by decide) (by decide) (by decide) (by decide)))) (ev_var rfl) (rv_I (Int.ne_of_gt h0))) fun H3 x3 => q _ H3 (Int.fmod_nonneg_of_pos _ h0) (Int.fmod_lt_of_pos _ h0) (hs'.mono x3) (x.trans (Exs.of x3))
end
end NF

namespace NF
open PySem PySem.Spec PyProof.Rows L2 Evl
abbrev s__law_one : Stmt := topS 21
theorem sc__law_one : FnScope ["_law_state", "_law_most"] ["_law_state"] (defScope s__law_one) := ⟨rfl, rfl, rfl, by decide +kernel, rfl, by decide +kernel, by decide +kernel⟩
abbrev s__law_right : Stmt := topS 22
theorem sc__law_right : FnScope ["_law_one_here", "_law_other", "_law_third", "_law_both", "_law_far"] ["_law_one_here", "_law_other", "_law_third"] (defScope s__law_right) := ⟨rfl, rfl, rfl, by decide +kernel, rfl, by decide +kernel, by decide +kernel⟩
section
variable {K : PySem.W.Frag} {H H1 H2 : Hp} {σ : L2.St} {ta tb te tl : TE} {x y z : Rat} {v w u : V} {B : Nat} {E : XK}
theorem Exs.ex {st : Addr} (h : H st = none) (e : Exs st H H1) : Ex H H1 := fun b o hb => e b o (ne_of_none hb h) hb
theorem Exs.tupL {st a : Addr} {ys xs : List V} (e : Exs st H H1) (hs : H st = some (.lst ys)) (h : SqT K H a xs) : SqT K H1 a xs := by
  rcases h with (h | ⟨o, h⟩) | h
  · exact .inl (.inl (e _ _ (ne_of h hs (fun z => by cases z)) h))
  · exact .inl (.inr ⟨o, e _ _ (ne_of h hs (fun z => by cases z)) h⟩)
  · exact .inr h
theorem Rt.exL {st : Addr} {ys : List V} (r : Rt K H v x) (e : Exs st H H1) (hs : H st = some (.lst ys)) : Rt K H1 v x := by
  obtain ⟨p, e1, h⟩ := r
  exact ⟨p, e1, e.tupL hs h⟩
theorem RtAll.exL {st : Addr} {ys : List V} (e : Exs st H H1) (hs : H st = some (.lst ys)) : ∀ {vs : List V} {xs : List Rat}, RtAll K H vs xs → RtAll K H1 vs xs
  | _, _, .nil => .nil
  | _, _, .cons h t => .cons (h.exL e hs) (RtAll.exL e hs t)
theorem RtAll.snoc : ∀ {vs : List V} {xs : List Rat}, RtAll K H vs xs → Rt K H v x → RtAll K H (vs ++ [v]) (xs ++ [x])
  | _, _, .nil, r => .cons r .nil
  | _, _, .cons h t, r => .cons h (RtAll.snoc t r)
theorem q_raw {D : Ends} {tz : TS} {i : Nat} (h : te σ H fun x H1 => tz D (σ.set i (some x)) H1) : tSeq (tAsg te (gName i)) tz D σ H := h
theorem s_raw {D : Ends} (h : te σ H D.rt) : tRet te D σ H := h
theorem op_raw {r : R2} {Q : VK} (h : ta σ H fun x H1 => tb σ H1 fun y H2 => r x y H2 Q) : tOp r ta tb σ H Q := h
theorem take_ev {i : Nat} {st : Addr} {Q : VK} (many : Int) (h1 : σ[i]? = some (some (.ref st))) (hb : Ev tb σ H (.int many)) (hs : StA st H) (h0 : 0 < many) (hm : many.natAbs < 2 ^ 8000)
    (q : ∀ d H', 0 ≤ d → d < many → StA st H' → Exs st H H' → Q (.int d) H') : tCall spTake [] E (tCons (tVar i) (tCons tb tNil)) σ H Q :=
  ⟨_, h1, hb H (Ex.refl H) _ fun H1 e => ⟨st, many, rfl, hs.mono e, h0, hm, fun d H' a b c x => q d H' a b c ((Exs.of e).trans x)⟩⟩
theorem call_raw {sp : Sp} {dvs : List V} {tA : TA} {Q : VK} (h : tA σ H fun vs H1 => sp (vs ++ dvs) H1 Q E) : tCall sp dvs E tA σ H Q := h
theorem cons_raw {tA : TA} {Q : List V → Hp → Prop} (h : ta σ H fun x H1 => tA σ H1 fun xs H2 => Q (x :: xs) H2) : tCons ta tA σ H Q := h
theorem ef_tot1 {us : List V} {xs : List Rat} (h : EvL tl σ H us) (hx : RtAll K H us xs) (hs : ∀ x ∈ xs, Sz B x) (hB : (xs.length + 2) * (B + 1) ≤ 4000) (h0 : 0 < B) : EvF K (tCall (spTot K) [.non] E (tCons tl tNil)) σ H (sumF 0 xs) := fun H1 e Q q =>
  h H1 e _ fun p H2 np e2 hp => ⟨p, us, xs, .non, 0, B, rfl, SqL.of hp, hx.mono (e.trans e2), .inl ⟨rfl, rfl⟩, ⟨Nat.pow_pos (by decide), by show 1 < 2 ^ B; exact Nat.one_lt_two_pow (by omega)⟩, hs, hB, fun u H' e3 r => q u H' (e2.trans e3) r⟩
theorem ev_isF (h : EvF K ta σ H x) : Ev (tCall (spIsF K) [] E (tCons ta tNil)) σ H (.bl true) := fun H1 e Q q =>
  h H1 e _ fun v H2 e2 r => ⟨v, x, rfl, r, fun H' e3 => q H' (e2.trans e3)⟩
theorem ev_cntB {bs : List Bool} {k : Bool} (h : EvL te σ H (bs.map V.bl)) : Ev (tBM K "list" (rCntB K) te (tCons (tC (.bl k)) tNil)) σ H (.int (bs.count k : Nat)) := fun H1 e Q q =>
  h H1 e _ fun p H2 np e2 hp => ⟨.inl ⟨rfl, _, SqL.of hp⟩, p, bs, k, rfl, rfl, SqL.of hp, q H2 e2⟩
def spOne (K : PySem.W.Frag) : Sp := fun vs H Q _ => ∃ st : Addr, vs = [.ref st] ∧ StA st H ∧ ∀ v x H', Sz 97 x → StA st H' → Exs st H H' → Rt K H' v x → Q v H'
def spRight (K : PySem.W.Frag) : Sp := fun vs H Q _ => ∃ (v w u : V) (x y z : Rat), vs = [v, w, u] ∧ Rt K H v x ∧ Rt K H w y ∧ Rt K H u z ∧ Sz 97 x ∧ Sz 97 y ∧ Sz 97 z ∧ ∀ H', Ex H H' → Q (.bl true) H'
end
section
variable {P : Program} {w : World} {K : PySem.W.Frag} {mg : Str → Option Value} {base : Heap} {f : Addr} {fd : FuncData}
theorem pick4 {d : Int} (h0 : 0 ≤ d) (h : d < 4) : ∃ mo : Int, atI [V.int 2, .int 9, .int 1000, .int ((10 : Int) ^ (29 : Int).toNat)] d = some (.int mo) ∧ 0 < mo ∧ mo ≤ 10 ^ 29 := by
  have : d = 0 ∨ d = 1 ∨ d = 2 ∨ d = 3 := by omega
  rcases this with rfl | rfl | rfl | rfl
  · exact ⟨2, rfl, by decide, by decide⟩
  · exact ⟨9, rfl, by decide, by decide⟩
  · exact ⟨1000, rfl, by decide, by decide⟩
  · exact ⟨_, rfl, by decide, by decide⟩
theorem pick3 {d : Int} (h0 : 0 ≤ d) (h : d < 3) : ∃ mo : Int, atI [V.int 1, .int 1, .int (-1)] d = some (.int mo) ∧ (mo = 1 ∨ mo = -1) := by
  have : d = 0 ∨ d = 1 ∨ d = 2 := by omega
  rcases this with rfl | rfl | rfl
  · exact ⟨1, rfl, .inl rfl⟩
  · exact ⟨1, rfl, .inl rfl⟩
  · exact ⟨-1, rfl, .inr rfl⟩
theorem bits97 {i : Int} (h : i ≤ 10 ^ 29) (h0 : -(10 ^ 29) ≤ i) : i.natAbs < 2 ^ 97 := by
  have e : (10 : Int) ^ 29 = 100000000000000000000000000000 := by decide
  have e2 : (2 : Nat) ^ 97 = 158456325028528675187087900672 := by decide
  omega
theorem ok_one (F : Fun K "_law_one" "_law_one" s__law_one f fd) (C__law_take : Cal P w K mg base 1 "_law_take" ["_law_state", "_law_many"] [] spTake) (C_fraction : Cal P w K mg base 3 "fraction" ["top", "bottom"] [] (spFrac K)) : FnOk P w K mg base CX0 4 f fd ["_law_state"] (spOne K) := by
  refine F.ok sc__law_one (fun vs H Q E h => ?_) (fun cdv A outer s H vs Q E hr h => ?_)
  · obtain ⟨_, rfl, _⟩ := h
    rfl
  · obtain ⟨st, rfl, hs, q⟩ := h
    refine ⟨_, (pss_cons (ps_set (i := 1) sc__law_one.nd rfl (.inl rfl) (pe_ix ix_list (pe_lst (pa_cons pe_int (pa_cons pe_int (pa_cons pe_int (pa_cons (pe_op op_pow pe_int pe_int) pa_nil))))) (pe_cal C__law_take hr (by decide) (by rfl) (pa_cons (pv 0) (pa_cons pe_int pa_nil))) (fun _ _ => rfl)))
      (pss_one (ps_ret (pe_cal C_fraction hr (by decide) (by rfl) (pa_cons (pe_op op_mul (pe_cal C__law_take hr (by decide) (by rfl) (pa_cons (pv 0) (pa_cons (pv 1) pa_nil))) (pe_ix ix_list (pe_lst (pa_cons pe_int (pa_cons pe_int (pa_cons (pe_un un_neg pe_int) pa_nil)))) (pe_cal C__law_take hr (by decide) (by rfl) (pa_cons (pv 0) (pa_cons pe_int pa_nil))) (fun _ _ => rfl))) (pa_cons (pe_op op_add pe_int (pe_cal C__law_take hr (by decide) (by rfl) (pa_cons (pv 0) (pa_cons (pv 1) pa_nil)))) pa_nil)))))), ?_⟩
    obtain ⟨n, m, c, hst⟩ := id hs
    refine q_raw (op_raw ?_)
    refine el_lst (H := H) (ea_cons ev_c (ea_cons ev_c (ea_cons ev_c (ea_cons (ev_op ev_c ev_c (rv_I (i := 10) (j := 29) (C := CPow) (g := fun i j => .int (i ^ j.toNat)) ⟨by decide, by decide, by decide⟩)) ea_nil)))) (by show 4 ≤ 100000; decide) H (Ex.refl H) _ fun p H1 np x1 hp => ?_
    have nps : p ≠ st := (ne_of_none hst np).symm
    refine take_ev 4 rfl ev_c (hs.mono x1) (by decide) (by decide +kernel) fun d H2 d0 d4 hs2 x2 => ?_
    obtain ⟨mo, hmo, mo0, mo1⟩ := pick4 d0 d4
    refine ⟨p, _, d, .int mo, rfl, rfl, SqL.of (x2 _ _ nps hp), hmo, ?_⟩
    have hmb : mo.natAbs < 2 ^ 8000 := small_bits (by omega) (Int.le_trans mo1 (by decide +kernel))
    refine s_raw (call_raw (cons_raw (op_raw ?_)))
    refine take_ev mo rfl (ev_var rfl) hs2 mo0 hmb fun e H3 e0 e1 hs3 x3 => ?_
    refine op_raw ?_
    obtain ⟨n3, m3, c3, hst3⟩ := id hs3
    refine el_lst (H := H3) (ea_cons ev_c (ea_cons ev_c (ea_cons (ev_un ev_c ru_neg) ea_nil))) (by show 3 ≤ 100000; decide) H3 (Ex.refl H3) _ fun p4 H4 np4 x4 hp4 => ?_
    have nps4 : p4 ≠ st := (ne_of_none hst3 np4).symm
    refine take_ev 3 rfl ev_c (hs3.mono x4) (by decide) (by decide +kernel) fun d5 H5 d50 d51 hs5 x5 => ?_
    obtain ⟨sg, hsg, hsg1⟩ := pick3 d50 d51
    refine ⟨p4, _, d5, .int sg, rfl, rfl, SqL.of (x5 _ _ nps4 hp4), hsg, ?_⟩
    refine ⟨e, sg, rfl, rfl, .inr (by rcases hsg1 with rfl | rfl <;> exact ⟨by decide, by decide⟩), ?_⟩
    refine cons_raw (op_raw ?_)
    refine take_ev mo rfl (ev_var rfl) hs5 mo0 hmb fun g H6 g0 g1 hs6 x6 => ?_
    refine ⟨1, g, rfl, rfl, ?_⟩
    have he : (e * sg).natAbs < 2 ^ 97 := by rcases hsg1 with rfl | rfl <;> exact bits97 (by omega) (by omega)
    refine ⟨e * sg, 1 + g, 97, rfl, by omega, he, bits97 (by omega) (by omega), by decide, by decide, fun v H7 x7 r => ?_⟩
    have X1 : Exs st H H4 := ((Exs.of x1).trans x2).trans (x3.trans (Exs.of x4))
    exact q v _ H7 (sz_div he (bits97 (by omega) (by omega)) (by omega)) (hs6.mono x7) ((X1.trans x5).trans (x6.trans (Exs.of x7))) r
theorem ok_right (F : Fun K "_law_right" "_law_right" s__law_right f fd)
    (C_plus : Cal P w K mg base 3 "plus" ["one", "other"] [] (sp2 K (fun _ _ => True) (· + ·))) (C_minus : Cal P w K mg base 3 "minus" ["one", "other"] [] (sp2 K (fun _ _ => True) (· - ·)))
    (C_times : Cal P w K mg base 3 "times" ["one", "other"] [] (sp2 K (fun _ _ => True) (· * ·))) (C_over : Cal P w K mg base 3 "over" ["one", "other"] [] (sp2 K (fun _ y => y ≠ 0) (· / ·)))
    (C_under : Cal P w K mg base 1 "under" ["one", "other"] [] (spLt K)) (C_apart : Cal P w K mg base 4 "apart" ["one", "other"] [] (sp2 K (fun _ _ => True) ap)) (C_total : Cal P w K mg base 4 "total" ["some", "start"] [.non] (spTot K))
    (C_is_fraction : Cal P w K mg base 2 "is_fraction" ["thing"] [] (spIsF K)) : FnOk P w K mg base CX0 5 f fd ["_law_one_here", "_law_other", "_law_third"] (spRight K) := by
  refine F.ok sc__law_right (fun vs H Q E h => ?_) (fun cdv A outer s H vs Q E hr h => ?_)
  · obtain ⟨_, _, _, _, _, _, rfl, _⟩ := h
    rfl
  · obtain ⟨v, w, u, x, y, z, rfl, rx, ry, rz, sx, sy, sz, q⟩ := h
    refine ⟨_, (pss_cons (ps_set (i := 3) sc__law_right.nd rfl (.inl rfl) (pe_cal C_plus hr (by decide) (by rfl) (pa_cons (pv 0) (pa_cons (pv 1) pa_nil))))
      (pss_cons (ps_if (PW.pt (pw_or (pt_cmpR (op_neD hr.units) (pe_cal C_minus hr (by decide) (by rfl) (pa_cons (pv 3) (pa_cons (pv 1) pa_nil))) (pv 0) (nomark _)) (pw_or1 (pt_cmpR (op_neD hr.units) (pe_cal C_plus hr (by decide) (by rfl) (pa_cons (pv 1) (pa_cons (pv 0) pa_nil))) (pv 3) (nomark _))))) (pss_one (ps_ret pe_bl)) pss_nil)
      (pss_cons (ps_if (pt_cmpR (op_neD hr.units) (pe_cal C_total hr (by decide) (by rfl) (pa_cons (pe_lst (pa_cons (pv 0) (pa_cons (pv 1) (pa_cons (pv 2) pa_nil)))) pa_nil)) (pe_cal C_plus hr (by decide) (by rfl) (pa_cons (pv 3) (pa_cons (pv 2) pa_nil))) (nomark _)) (pss_one (ps_ret pe_bl)) pss_nil)
      (pss_cons (ps_if (pt_cmpR (op_neD hr.units) (pe_cal C_plus hr (by decide) (by rfl) (pa_cons (pv 0) (pa_cons (pe_cal C_plus hr (by decide) (by rfl) (pa_cons (pv 1) (pa_cons (pv 2) pa_nil))) pa_nil))) (pe_cal C_plus hr (by decide) (by rfl) (pa_cons (pv 3) (pa_cons (pv 2) pa_nil))) (nomark _)) (pss_one (ps_ret pe_bl)) pss_nil)
      (pss_cons (ps_if (pt_cmpR (op_neD hr.units) (pe_cal C_times hr (by decide) (by rfl) (pa_cons (pe_cal C_times hr (by decide) (by rfl) (pa_cons (pv 0) (pa_cons (pv 1) pa_nil))) (pa_cons (pv 2) pa_nil))) (pe_cal C_times hr (by decide) (by rfl) (pa_cons (pv 0) (pa_cons (pe_cal C_times hr (by decide) (by rfl) (pa_cons (pv 2) (pa_cons (pv 1) pa_nil))) pa_nil))) (nomark _)) (pss_one (ps_ret pe_bl)) pss_nil)
      (pss_cons (ps_if (pt_cmpR (op_neD hr.units) (pe_cal C_times hr (by decide) (by rfl) (pa_cons (pv 3) (pa_cons (pv 2) pa_nil))) (pe_cal C_plus hr (by decide) (by rfl) (pa_cons (pe_cal C_times hr (by decide) (by rfl) (pa_cons (pv 0) (pa_cons (pv 2) pa_nil))) (pa_cons (pe_cal C_times hr (by decide) (by rfl) (pa_cons (pv 1) (pa_cons (pv 2) pa_nil))) pa_nil))) (nomark _)) (pss_one (ps_ret pe_bl)) pss_nil)
      (pss_cons (ps_if (pt_cmpR (op_neD hr.units) (pe_cal C_times hr (by decide) (by rfl) (pa_cons (pv 0) (pa_cons (pv 1) pa_nil))) (pe_cal C_times hr (by decide) (by rfl) (pa_cons (pv 1) (pa_cons (pv 0) pa_nil))) (nomark _)) (pss_one (ps_ret pe_bl)) pss_nil)
      (pss_cons (ps_if (PW.pt (pw_and (pt_cmpR op_ne (pe_ix ix_tup (pv 2) pe_int (fun _ _ => rfl)) pe_int (nomark _)) (pw_and1 (pt_cmpR (op_neD hr.units) (pe_cal C_over hr (by decide) (by rfl) (pa_cons (pe_cal C_times hr (by decide) (by rfl) (pa_cons (pv 0) (pa_cons (pv 2) pa_nil))) (pa_cons (pv 2) pa_nil))) (pv 0) (nomark _))))) (pss_one (ps_ret pe_bl)) pss_nil)
      (pss_cons (ps_if (pt_cmpR op_ne (pe_bm PySem.F.plainAttrs_list PySem.F.slot_list_count PySem.F.type_list_count mt_countB (pe_lst (pa_cons (pe_cal C_under hr (by decide) (by rfl) (pa_cons (pv 0) (pa_cons (pv 1) pa_nil))) (pa_cons (pe_cmpR (op_eqD hr.units) (pv 0) (pv 1) (nomark _)) (pa_cons (pe_cal C_under hr (by decide) (by rfl) (pa_cons (pv 1) (pa_cons (pv 0) pa_nil))) pa_nil)))) (pa_cons pe_bl pa_nil)) pe_int (nomark _)) (pss_one (ps_ret pe_bl)) pss_nil)
      (pss_cons (ps_if (pt_not (pt_val (pe_cal C_is_fraction hr (by decide) (by rfl) (pa_cons (pv 3) pa_nil)))) (pss_one (ps_ret pe_bl)) pss_nil)
      (pss_cons (ps_set (i := 4) sc__law_right.nd rfl (.inl rfl) (pe_cal C_apart hr (by decide) (by rfl) (pa_cons (pv 0) (pa_cons (pv 1) pa_nil))))
      (pss_cons (ps_if (PW.pt (pw_or (pt_cmpR (op_neD hr.units) (pv 4) (pe_cal C_apart hr (by decide) (by rfl) (pa_cons (pv 1) (pa_cons (pv 0) pa_nil))) (nomark _)) (pw_or1 (pt_val (pe_cal C_under hr (by decide) (by rfl) (pa_cons (pe_cal C_plus hr (by decide) (by rfl) (pa_cons (pe_cal C_apart hr (by decide) (by rfl) (pa_cons (pv 0) (pa_cons (pv 2) pa_nil))) (pa_cons (pe_cal C_apart hr (by decide) (by rfl) (pa_cons (pv 2) (pa_cons (pv 1) pa_nil))) pa_nil))) (pa_cons (pv 4) pa_nil))))))) (pss_one (ps_ret pe_bl)) pss_nil)
      (pss_one (ps_ret (pe_and (pe_cmpR op_eq (pe_cmpR (op_eqD hr.units) (pv 4) (pe_tup (pa_cons pe_int (pa_cons pe_int pa_nil))) (nomark _)) (pe_cmpR (op_eqD hr.units) (pv 0) (pv 1) (nomark _)) (nomark _)) (pe_one (pe_not (pe_cal C_under hr (by decide) (by rfl) (pa_cons (pv 4) (pa_cons (pe_tup (pa_cons pe_int (pa_cons pe_int pa_nil))) pa_nil)))))))))))))))))))), ?_⟩
    have sxy : Sz 195 (x + y) := sx.add sy
    have syz : Sz 195 (y + z) := sy.add sz
    have mxy : Sz 195 (x * y) := sx.mul sy
    have mzy : Sz 195 (z * y) := sz.mul sy
    have mxz : Sz 195 (x * z) := sx.mul sz
    have myz : Sz 195 (y * z) := sy.mul sz
    have axy : Sz 195 (ap x y) := sx.ap sy
    have axz : Sz 195 (ap x z) := sx.ap sz
    have azy : Sz 195 (ap z y) := sz.ap sy
    have s1 : Sz 195 x := sx.mono (by decide)
    have s2 : Sz 195 y := sy.mono (by decide)
    have s3 : Sz 195 z := sz.mono (by decide)
    refine q_asgF (ef_2 (f := (· + ·)) (ef_var rfl rx) (ef_var rfl ry) True.intro sx sy (by decide) (by decide)) fun b H1 e1 rb => ?_
    have vx : ∀ {y4 H'}, Ex H1 H' → EvF K (tVar 0) [some v, some w, some u, some b, y4] H' x := fun e => ef_var rfl ((rx.mono e1).mono e)
    have vy : ∀ {y4 H'}, Ex H1 H' → EvF K (tVar 1) [some v, some w, some u, some b, y4] H' y := fun e => ef_var rfl ((ry.mono e1).mono e)
    have vz : ∀ {y4 H'}, Ex H1 H' → EvF K (tVar 2) [some v, some w, some u, some b, y4] H' z := fun e => ef_var rfl ((rz.mono e1).mono e)
    have vb : ∀ {y4 H'}, Ex H1 H' → EvF K (tVar 3) [some v, some w, some u, some b, y4] H' (x + y) := fun e => ef_var rfl (rb.mono e)
    refine q_when (et_or (et_test (ev_neF (ef_2 (f := (· - ·)) (vb (Ex.refl _)) (vy (Ex.refl _)) True.intro sxy s2 (by decide) (by decide)) (vx (Ex.refl _)))) fun _ => et_test (ev_neF (ef_2 (f := (· + ·)) (vy (Ex.refl _)) (vx (Ex.refl _)) True.intro s2 s1 (by decide) (by decide)) (vb (Ex.refl _)))) (fun hb => ?_) fun _ H2 e2 => ?_
    · simp [t1, t2 x y] at hb
    refine q_when (et_test (ev_neF (ef_tot1 (K := K) (B := 97) (xs := [x, y, z]) (el_lst (ea_cons (ev_var rfl) (ea_cons (ev_var rfl) (ea_cons (ev_var rfl) ea_nil))) (by show 3 ≤ 100000; decide)) (.cons (rx.mono (e1.trans e2)) (.cons (ry.mono (e1.trans e2)) (.cons (rz.mono (e1.trans e2)) .nil))) (by intro a ha; simp at ha; rcases ha with rfl | rfl | rfl <;> assumption) (by show 5 * 98 ≤ 4000; decide) (by decide))
      (ef_2 (f := (· + ·)) (vb e2) (vz e2) True.intro sxy s3 (by decide) (by decide)))) (fun hb => ?_) fun _ H3 e3 => ?_
    · have h3 : sumF 0 [x, y, z] = x + y + z := t3 x y z
      simp [h3] at hb
    have E3 := e2.trans e3
    refine q_when (et_test (ev_neF (ef_2 (f := (· + ·)) (vx E3) (ef_2 (f := (· + ·)) (vy E3) (vz E3) True.intro sy sz (by decide) (by decide)) True.intro s1 syz (by decide) (by decide)) (ef_2 (f := (· + ·)) (vb E3) (vz E3) True.intro sxy s3 (by decide) (by decide)))) (fun hb => ?_) fun _ H4 e4 => ?_
    · simp [t4] at hb
    have E4 := E3.trans e4
    refine q_when (et_test (ev_neF (ef_2 (f := (· * ·)) (ef_2 (f := (· * ·)) (vx E4) (vy E4) True.intro sx sy (by decide) (by decide)) (vz E4) True.intro mxy s3 (by decide) (by decide)) (ef_2 (f := (· * ·)) (vx E4) (ef_2 (f := (· * ·)) (vz E4) (vy E4) True.intro sz sy (by decide) (by decide)) True.intro s1 mzy (by decide) (by decide)))) (fun hb => ?_) fun _ H5 e5 => ?_
    · simp [t5] at hb
    have E5 := E4.trans e5
    refine q_when (et_test (ev_neF (ef_2 (f := (· * ·)) (vb E5) (vz E5) True.intro sxy s3 (by decide) (by decide)) (ef_2 (f := (· + ·)) (ef_2 (f := (· * ·)) (vx E5) (vz E5) True.intro sx sz (by decide) (by decide)) (ef_2 (f := (· * ·)) (vy E5) (vz E5) True.intro sy sz (by decide) (by decide)) True.intro mxz myz (by decide) (by decide)))) (fun hb => ?_) fun _ H6 e6 => ?_
    · simp [t6] at hb
    have E6 := E5.trans e6
    refine q_when (et_test (ev_neF (ef_2 (f := (· * ·)) (vx E6) (vy E6) True.intro sx sy (by decide) (by decide)) (ef_2 (f := (· * ·)) (vy E6) (vx E6) True.intro sy sx (by decide) (by decide)))) (fun hb => ?_) fun _ H7 e7 => ?_
    · simp [Rat.mul_comm x y] at hb
    have E7 := E6.trans e7
    refine q_when (b := false) (et_is (a := ((!decide (V.int z.num = V.int 0)) && (!decide (x * z / z = x)))) (et_and (et_test (ev_op (ev_ix0 (vz E7)) ev_c (rv_ne rfl))) fun h => et_test (ev_neF (ef_2 (f := (· / ·)) (C := fun _ y => y ≠ 0) (ef_2 (f := (· * ·)) (vx E7) (vz E7) True.intro sx sz (by decide) (by decide)) (vz E7) (nz_num (by intro e0; rw [e0] at h; simp at h)) mxz s3 (by decide) (by decide)) (vx E7))) ?_) (fun hb => by cases hb) fun _ H8 e8 => ?_
    · by_cases h0 : z = 0
      · subst h0; rfl
      · simp [t7 x z h0]
    have E8 := E7.trans e8
    refine q_when (b := false) (et_is (et_test (ev_op (ev_cntB (bs := [decide (x < y), decide (x = y), decide (y < x)]) (k := true) (el_lst (ea_cons (ev_lt (vx E8) (vy E8) sx sy (by decide) (by decide)) (ea_cons (ev_eqF (vx E8) (vy E8)) (ea_cons (ev_lt (vy E8) (vx E8) sy sx (by decide) (by decide)) ea_nil))) (by show 3 ≤ 100000; decide))) ev_c (rv_ne rfl))) ?_) (fun hb => by cases hb) fun _ H9 e9 => ?_
    · have h3 := lt3 x y
      have : ([decide (x < y), decide (x = y), decide (y < x)].count true : Int) = 1 := by
        rw [List.count_cons, List.count_cons, List.count_cons]
        by_cases c1 : x < y <;> by_cases c2 : x = y <;> by_cases c3 : y < x <;> simp [c1, c2, c3] at h3 ⊢
      rw [this]
      rfl
    have E9 := E8.trans e9
    refine q_when (b := false) (et_is (et_not (et_B (ev_isF (vb E9)))) rfl) (fun hb => by cases hb) fun _ H10 e10 => ?_
    have E10 := E9.trans e10
    refine q_asgF (ef_2 (f := ap) (vx E10) (vy E10) True.intro sx sy (by decide) (by decide)) fun fr H11 e11 rf => ?_
    have E11 := E10.trans e11
    have vf : ∀ {H'}, Ex H11 H' → EvF K (tVar 4) [some v, some w, some u, some b, some fr] H' (ap x y) := fun e => ef_var rfl (rf.mono e)
    refine q_when (b := false) (et_is (et_or (et_test (ev_neF (vf (Ex.refl _)) (ef_2 (f := ap) (vy E11) (vx E11) True.intro sy sx (by decide) (by decide)))) fun _ => et_B (ev_lt (B := 391) (ef_2 (f := (· + ·)) (ef_2 (f := ap) (vx E11) (vz E11) True.intro sx sz (by decide) (by decide)) (ef_2 (f := ap) (vz E11) (vy E11) True.intro sz sy (by decide) (by decide)) True.intro axz azy (by decide) (by decide)) (vf (Ex.refl _)) (axz.add azy) (axy.mono (by decide)) (by decide) (by decide))) ?_) (fun hb => by cases hb) fun _ H12 e12 => ?_
    · simp [ap_comm y x, ap_tri]
    have zz : ∀ {σ : L2.St} {H : Hp}, EvF K (tTup (tCons (tC (.int 0)) (tCons (tC (.int 1)) tNil))) σ H 0 := ef_tup (eu_tup (ea_cons ev_c (ea_cons ev_c ea_nil)) (by show 2 ≤ 100000; decide)) rfl rfl
    have sz0 : Sz 195 0 := ⟨by decide, by decide⟩
    refine s_ret (ev_is (w := .bl true) (ev_andV (ev_op (ev_eqF (vf e12) zz) (ev_eqF (vx (E11.trans e12)) (vy (E11.trans e12))) (rv_eq rfl)) fun _ => ev_notV (ev_lt (vf e12) zz axy sz0 (by decide) (by decide))) ?_) fun H13 e13 => q H13 (((e1.trans E11).trans e12).trans e13)
    by_cases c : x = y
    · subst c
      have c2 := (ap_zero x x).mpr rfl
      simp [c2]
    · have c2 : ap x y ≠ 0 := fun e => c ((ap_zero x y).mp e)
      simp [c, c2, ap_pos]
end
end NF

namespace NF
open PySem PySem.Spec PyProof.Rows L2 Evl
abbrev s_law : Stmt := topS 23
theorem sc_law : FnScope ["_law_script", "_law_k", "_law_state", "_law_some", "_law_turn"] ["_law_script"] (defScope s_law) := ⟨rfl, rfl, rfl, by decide +kernel, rfl, by decide +kernel, by decide +kernel⟩
section
variable {K : PySem.W.Frag} {H H1 H2 : Hp} {σ : L2.St} {ta tb te tl : TE} {x y z : Rat} {v w u : V} {B : Nat} {E : XK} {D : Ends} {tz t1 t2 : TS} {tc : TT}
theorem begun_ev {i j : Nat} {a : Addr} {ns : List Int} {k : Nat} {Q : VK} (h1 : σ[i]? = some (some (.ref a))) (h2 : σ[j]? = some (some (.int (k : Int)))) (ha : SqL K H a (ns.map V.int)) (hl : ns.length ≤ 1000) (hk : k ≤ 1000) (q : ∀ st H', H st = none → Ex H H' → StA st H' → Q (.ref st) H') :
    tCall (spBegun K) [] E (tCons (tVar i) (tCons (tVar j) tNil)) σ H Q := ⟨_, h1, _, h2, a, ns, k, rfl, ha, hl, hk, q⟩
theorem one_ev {i : Nat} {st : Addr} {Q : VK} (h1 : σ[i]? = some (some (.ref st))) (hs : StA st H) (q : ∀ v x H', Sz 97 x → StA st H' → Exs st H H' → Rt K H' v x → Q v H') : tCall (spOne K) [] E (tCons (tVar i) tNil) σ H Q := ⟨_, h1, st, rfl, hs, q⟩
theorem if_raw (h : tc σ H fun b H1 => if b = true then t1 { D with nx := tz D } σ H1 else t2 { D with nx := tz D } σ H1) : tSeq (tIfS tc t1 t2) tz D σ H := h
theorem test_raw {Q : Bool → Hp → Prop} (h : te σ H fun x H' => ∃ k, x = .bl k ∧ Q k H') : tTest te σ H Q := h
theorem ev_right {tA : TA} (h : EvA tA σ H [v, w, u]) (rx : Rt K H v x) (ry : Rt K H w y) (rz : Rt K H u z) (sx : Sz 97 x) (sy : Sz 97 y) (sz : Sz 97 z) : Ev (tCall (spRight K) [] E tA) σ H (.bl true) :=
  ev_call h fun H1 e Q q E => ⟨v, w, u, x, y, z, rfl, rx.mono e, ry.mono e, rz.mono e, sx, sy, sz, q⟩
theorem ev_min2 {i j : Int} (ha : Ev ta σ H (.int i)) (hb : Ev tb σ H (.int j)) : Ev (tCB (fun xs H Q => ∃ i j, xs = [V.int i, V.int j] ∧ Q (.int (if j < i then j else i)) H) (tCons ta (tCons tb tNil))) σ H (.int (if j < i then j else i)) := fun H1 e Q q =>
  ha H1 e _ fun H2 e2 => hb H2 (e.trans e2) _ fun H3 e3 => ⟨i, j, rfl, q H3 (e2.trans e3)⟩
end
theorem three {K : PySem.W.Frag} {H : Hp} {vs : List V} {xs : List Rat} (h : RtAll K H vs xs) (hl : vs.length = 3) : ∃ v0 v1 v2 x0 x1 x2, vs = [v0, v1, v2] ∧ xs = [x0, x1, x2] ∧ Rt K H v0 x0 ∧ Rt K H v1 x1 ∧ Rt K H v2 x2 := by
  cases h with
  | nil => cases hl
  | cons h0 h =>
    cases h with
    | nil => cases hl
    | cons h1 h =>
      cases h with
      | nil => cases hl
      | cons h2 h =>
        cases h with
        | nil => exact ⟨_, _, _, _, _, _, rfl, rfl, h0, h1, h2⟩
        | cons _ _ => simp at hl
section
variable {P : Program} {w : World} {K : PySem.W.Frag} {mg : Str → Option Value} {base : Heap} {f : Addr} {fd : FuncData}
def spLaw (K : PySem.W.Frag) : Sp := fun vs H Q _ => ∃ (a : Addr) (ns : List Int), vs = [.ref a] ∧ SqL K H a (ns.map V.int) ∧ ns.length ≤ 63 ∧ ∀ H', Q (.bl true) H'
theorem ok_law (F : Fun K "law" "law" s_law f fd) (n_range : mg "range" = none) (n_max : mg "max" = none) (n_min : mg "min" = none) (n_len : mg "len" = none)
    (C__law_begun : Cal P w K mg base 1 "_law_begun" ["_law_script", "_law_k"] [] (spBegun K)) (C__law_take : Cal P w K mg base 1 "_law_take" ["_law_state", "_law_many"] [] spTake)
    (C__law_one : Cal P w K mg base 4 "_law_one" ["_law_state"] [] (spOne K)) (C__law_right : Cal P w K mg base 5 "_law_right" ["_law_one_here", "_law_other", "_law_third"] [] (spRight K)) : FnOk P w K mg base CX0 6 f fd ["_law_script"] (spLaw K) := by
  refine F.ok sc_law (fun vs H Q E h => ?_) (fun cdv A outer s H vs Q E hr h => ?_)
  · obtain ⟨a, ns, rfl, _⟩ := h
    rfl
  · obtain ⟨a, ns, rfl, ha, hlen, q⟩ := h
    refine ⟨_, (pss_cons (ps_for PassesOwn.never rfl (pi_range1 (by rfl) n_range (pa_cons (pe_callB (call_max2 rfl) (by rfl) n_max PyProof.Rows.boot_max (pa_cons pe_int (pa_cons (pe_callB (call_min2 rfl) (by rfl) n_min PyProof.Rows.boot_min (pa_cons pe_int (pa_cons (pe_callB call_len_seq (by rfl) n_len PySem.boot_len (pa_cons (pv 0) pa_nil)) pa_nil))) pa_nil))) pa_nil)) (pg_name (i := 1) sc_law.nd rfl (.inl rfl)) (pss_cons (ps_set (i := 2) sc_law.nd rfl (.inr rfl) (pe_cal C__law_begun hr (by decide) (by rfl) (pa_cons (pv 0) (pa_cons (pv 1) pa_nil))))
      (pss_cons (ps_setLc (i := 3) (own := [("_law_turn", 4)]) (by rfl) sc_law.nd rfl rfl (sw_true rfl rfl rfl (by decide +kernel)) (pi_range1 (by rfl) n_range (pa_cons pe_int pa_nil)) (blkOk_by (own := [("_law_turn", 4)]) (N := ["_law_script", "_law_k", "_law_state", "_law_some", "_law_turn"]) (sc := defScope s_law) (by decide +kernel)) (fun _ _ _ _ _ => (pg_name (i := 4) sc_law.nd rfl (.inl rfl))) (fun _ _ _ _ _ => pts_nil) (fun _ _ _ _ _ => (pe_cal C__law_one hr (by decide) (by rfl) (pa_cons (pv 2) pa_nil))))
      (pss_cons (ps_if (pt_cmpR op_eq (pe_cal C__law_take hr (by decide) (by rfl) (pa_cons (pv 2) (pa_cons pe_int pa_nil))) pe_int (nomark _)) (pss_one (ps_asg (pe_ix ix_list (pv 3) pe_int (fun _ _ => rfl)) (pg_sub (pv 3) pe_int set_list))) pss_nil)
      (pss_one (ps_if (PW.pt (pw_or (pt_not (pt_val (pe_cal C__law_right hr (by decide) (by rfl) (pa_cons (pe_ix ix_list (pv 3) pe_int (fun _ _ => rfl)) (pa_cons (pe_ix ix_list (pv 3) pe_int (fun _ _ => rfl)) (pa_cons (pe_ix ix_list (pv 3) pe_int (fun _ _ => rfl)) pa_nil)))))) (pw_or1 (pt_not (pt_val (pe_cal C__law_right hr (by decide) (by rfl) (pa_cons (pe_ix ix_list (pv 3) pe_int (fun _ _ => rfl)) (pa_cons (pe_ix ix_list (pv 3) pe_int (fun _ _ => rfl)) (pa_cons (pe_ix ix_list (pv 3) pe_int (fun _ _ => rfl)) pa_nil))))))))) (pss_one (ps_ret pe_bl)) pss_nil))))))
      (pss_one (ps_ret pe_bl))), ?_⟩
    refine q_forR1 (ea_cons (ev_max2 ev_c (ev_min2 ev_c (ev_len (ev_var rfl) ha))) ea_nil) (by rw [List.length_map]; split <;> (try split) <;> omega)
      (fun i σ' H' => ∃ y1 y2 y3 y4, σ' = [some (.ref a), y1, y2, y3, y4] ∧ Ex H H') (fun H1 e1 => ⟨none, none, none, none, rfl, e1⟩) ?_ ?_
    · rintro i σ' H0 hi ⟨y1, y2, y3, y4, rfl, ex0⟩
      have hi63 : i ≤ 1000 := by
        rw [List.length_map] at hi
        have : (i : Int) < 1000 := Int.lt_of_lt_of_le hi (by split <;> (try split) <;> omega)
        omega
      refine q_raw ?_
      refine begun_ev (k := i) rfl rfl (ex_l ex0 ha) (by omega) hi63 fun st H1 nst e1 hs1 => ?_
      refine q_raw ?_
      refine ⟨3, rfl, by decide, by decide, fun D hD => lc_range (lo := 0) (n := 3) (fun j H' => ∃ vs xs, StA st H' ∧ Exs st H1 H' ∧ D ≠ st ∧ H' D = some (.lst vs) ∧ RtAll K H' vs xs ∧ vs.length = j ∧ (∀ x ∈ xs, Sz 97 x)) ?_ ?_ ?_⟩
      · obtain ⟨n, m, c, hst⟩ := id hs1
        have nD : D ≠ st := (ne_of_none hst hD).symm
        refine ⟨[], [], ⟨n, m, c, ?_⟩, Exs.of (Ex.new hD), nD, upd_same, .nil, rfl, by simp⟩
        rw [upd_ne nD.symm]
        exact hst
      · rintro j H' hj ⟨vs, xs, hs', x', nD, hDl, hR, hl, hz⟩
        refine ⟨rfl, ?_⟩
        show tCall (spOne K) [] E0 (tCons (tVar 2) tNil) _ _ _
        refine one_ev rfl hs' fun v x H4 sx hs4 x4 r => ?_
        obtain ⟨n', m', c', hst'⟩ := id hs'
        obtain ⟨n4, m4, c4, hst4⟩ := id hs4
        have hD4 := x4 _ _ nD hDl
        refine ⟨vs, hD4, small1000 (by omega), vs ++ [v], xs ++ [x], ⟨n4, m4, c4, ?_⟩, ?_, nD, upd_same, RtAll.exL Exs.upd hD4 ((hR.exL x4 hst').snoc r), by simp [hl], ?_⟩
        · rw [upd_ne nD.symm]
          exact hst4
        · intro b o hb hb1
          rw [upd_ne (ne_of_none hb1 hD)]
          exact x4 _ _ hb (x' _ _ hb hb1)
        · intro y hy
          rcases List.mem_append.mp hy with h | h
          · exact hz y h
          · rw [List.mem_singleton.mp h]
            exact sx
      · rintro H2 ⟨vs, xs, hs2, x2, nD, hDl, hR, hl, hz⟩
        obtain ⟨v0, v1, v2, z0, z1, z2, rfl, rfl, r0, r1, r2⟩ := three hR hl
        have g0 := hz z0 (by simp)
        have g1 := hz z1 (by simp)
        have g2 := hz z2 (by simp)
        have EX : ∀ {H'}, Exs st H2 H' → Ex H0 H' := fun x => ((((Exs.of e1).trans x2).trans x)).ex nst
        have rest : ∀ {H' : Hp} {w0 w1 w2 : V} {q0 q1 q2 : Rat}, Ex H0 H' → H' D = some (.lst [w0, w1, w2]) → Rt K H' w0 q0 → Rt K H' w1 q1 → Rt K H' w2 q2 → Sz 97 q0 → Sz 97 q1 → Sz 97 q2 → _ := fun {H' w0 w1 w2 q0 q1 q2} ex' hD' k0 k1 k2 l0 l1 l2 =>
          s_when (D := { nx := fun σ2 H3 => ∃ y1 y2 y3 y4, σ2 = [some (.ref a), y1, y2, y3, y4] ∧ Ex H H3, rt := Q, ct := fun σ2 H3 => ∃ y1 y2 y3 y4, σ2 = [some (.ref a), y1, y2, y3, y4] ∧ Ex H H3, bk := fun _ H' => Q (.bl true) H' }) (tu := tRet (tC (.bl false))) (σ := [some (V.ref a), some (V.int (i : Int)), some (V.ref st), some (V.ref D), y4])
            (et_or (et_not (et_B (ev_right (E := E0) (ea_cons (ev_op (r := rIxL K) (ta := tVar 3) (tb := tC (.int 0)) (ev_var rfl) ev_c (rv_ixL (SqL.of hD') (atI_nat (j := 0) rfl))) (ea_cons (ev_op (r := rIxL K) (ta := tVar 3) (tb := tC (.int 1)) (ev_var rfl) ev_c (rv_ixL (SqL.of hD') (atI_nat (j := 1) rfl))) (ea_cons (ev_op (r := rIxL K) (ta := tVar 3) (tb := tC (.int 2)) (ev_var rfl) ev_c (rv_ixL (SqL.of hD') (atI_nat (j := 2) rfl))) ea_nil))) k0 k1 k2 l0 l1 l2))) fun _ =>
              et_not (et_B (ev_right (E := E0) (ea_cons (ev_op (r := rIxL K) (ta := tVar 3) (tb := tC (.int 2)) (ev_var rfl) ev_c (rv_ixL (SqL.of hD') (atI_nat (j := 2) rfl))) (ea_cons (ev_op (r := rIxL K) (ta := tVar 3) (tb := tC (.int 0)) (ev_var rfl) ev_c (rv_ixL (SqL.of hD') (atI_nat (j := 0) rfl))) (ea_cons (ev_op (r := rIxL K) (ta := tVar 3) (tb := tC (.int 1)) (ev_var rfl) ev_c (rv_ixL (SqL.of hD') (atI_nat (j := 1) rfl))) ea_nil))) k2 k0 k1 l2 l0 l1)))
            (fun hb => by cases hb) fun _ H5 e5 => ⟨_, _, _, _, rfl, (ex0.trans ex').trans e5⟩
        refine if_raw (test_raw (op_raw ?_))
        refine take_ev 4 rfl ev_c hs2 (by decide) (by decide +kernel) fun d H3 d0 d4 hs3 x3 => ?_
        obtain ⟨n2, m2, c2, hst2⟩ := id hs2
        have hD3 := x3 _ _ nD hDl
        refine ⟨rfl, _, rfl, ite2 (fun _ => ?_) (fun _ => ?_)⟩
        · refine s_setL (j := 1) hD3 (ev_op (ev_var rfl) ev_c (rv_ixL (SqL.of hD3) (atI_nat (j := 0) rfl))) (ev_var rfl) ev_c (by show 1 < 3; decide) fun H4 x4 => ?_
          have hD4 := x4 _ _ hD3
          have up : Exs D H4 (upd H4 D (.lst ([v0, v1, v2].set 1 v0))) := Exs.upd
          have k0 : Rt K H4 v0 z0 := (r0.exL x3 hst2).mono x4
          have k2 : Rt K H4 v2 z2 := (r2.exL x3 hst2).mono x4
          have exu : Ex H0 (upd H4 D (.lst ([v0, v1, v2].set 1 v0))) := fun b o hb => by
            have e4 := (EX (x3.trans (Exs.of x4))) b o hb
            have e1b := e1 b o hb
            rw [upd_ne (ne_of_none e1b hD)]
            exact e4
          exact rest exu upd_same (k0.exL up hD4) (k0.exL up hD4) (k2.exL up hD4) g0 g0 g2
        · exact rest (EX x3) hD3 (r0.exL x3 hst2) (r1.exL x3 hst2) (r2.exL x3 hst2) g0 g1 g2
    · rintro σ' H' ⟨y1, y2, y3, y4, rfl, ex0⟩
      exact s_ret ev_c fun H2 _ => q H2
end
end NF

namespace NF
open PySem PySem.Spec PyProof.Rows L2 Evl
theorem cal_mk {P : Program} {w : World} {K : PySem.W.Frag} {mg : Str → Option Value} {base : Heap} {k : Nat} {x : Str} {ps : List Str} {dvs : List V} {sp : Sp} {f : Addr} {fd : FuncData} {ds : List Value} (h : FnOk P w K mg base CX0 k f fd ps sp) (m : mg x = some (.ref f)) (kp : PySem.W.keepIn K (.ref f) = true) (b : Binds K fd ps ds) (d : Vals dvs ds) : Cal P w K mg base k x ps dvs sp := ⟨⟨f, fd, ds, h, m, kp, b, d⟩⟩
theorem all_mk {l : PySem.W.OpenLaw} {w : World} {K : PySem.W.Frag} {h : Heap} {mg : Str → Option Value} {fa : Addr} (X : K.In h) (G : h.Ns mainGlobals mg) (hfa : mg "law" = some (.ref fa))
    {f_greatest_divisor : Addr} {od0 an0 : Option Addr} {sl0 : Array (Option Value)} {oc0 kV0 dc0 pm0 cd0 ct0 : Value}
    (a_greatest_divisor : PySem.W.nsIn K mainGlobals "greatest_divisor" = some (some (.ref f_greatest_divisor))) (l_greatest_divisor : K.lookup f_greatest_divisor = some ⟨oc0, od0, .func (PySem.W.fnOf "greatest_divisor" "greatest_divisor" (defArgs s_greatest_divisor) (defBody s_greatest_divisor) (defScope s_greatest_divisor) .none kV0 dc0 pm0 an0 cd0 ct0), sl0⟩) (d_greatest_divisor : PySem.W.codeIn K cd0 "greatest_divisor" = true) (k_greatest_divisor : PySem.W.keepIn K (.ref f_greatest_divisor) = true)
    {f_reduced : Addr} {od1 an1 : Option Addr} {sl1 : Array (Option Value)} {oc1 kV1 dc1 pm1 cd1 ct1 : Value}
    (a_reduced : PySem.W.nsIn K mainGlobals "reduced" = some (some (.ref f_reduced))) (l_reduced : K.lookup f_reduced = some ⟨oc1, od1, .func (PySem.W.fnOf "reduced" "reduced" (defArgs s_reduced) (defBody s_reduced) (defScope s_reduced) .none kV1 dc1 pm1 an1 cd1 ct1), sl1⟩) (d_reduced : PySem.W.codeIn K cd1 "reduced" = true) (k_reduced : PySem.W.keepIn K (.ref f_reduced) = true)
    {f_plus : Addr} {od2 an2 : Option Addr} {sl2 : Array (Option Value)} {oc2 kV2 dc2 pm2 cd2 ct2 : Value}
    (a_plus : PySem.W.nsIn K mainGlobals "plus" = some (some (.ref f_plus))) (l_plus : K.lookup f_plus = some ⟨oc2, od2, .func (PySem.W.fnOf "plus" "plus" (defArgs s_plus) (defBody s_plus) (defScope s_plus) .none kV2 dc2 pm2 an2 cd2 ct2), sl2⟩) (d_plus : PySem.W.codeIn K cd2 "plus" = true) (k_plus : PySem.W.keepIn K (.ref f_plus) = true)
    {f_minus : Addr} {od3 an3 : Option Addr} {sl3 : Array (Option Value)} {oc3 kV3 dc3 pm3 cd3 ct3 : Value}
    (a_minus : PySem.W.nsIn K mainGlobals "minus" = some (some (.ref f_minus))) (l_minus : K.lookup f_minus = some ⟨oc3, od3, .func (PySem.W.fnOf "minus" "minus" (defArgs s_minus) (defBody s_minus) (defScope s_minus) .none kV3 dc3 pm3 an3 cd3 ct3), sl3⟩) (d_minus : PySem.W.codeIn K cd3 "minus" = true) (k_minus : PySem.W.keepIn K (.ref f_minus) = true)
    {f_times : Addr} {od4 an4 : Option Addr} {sl4 : Array (Option Value)} {oc4 kV4 dc4 pm4 cd4 ct4 : Value}
    (a_times : PySem.W.nsIn K mainGlobals "times" = some (some (.ref f_times))) (l_times : K.lookup f_times = some ⟨oc4, od4, .func (PySem.W.fnOf "times" "times" (defArgs s_times) (defBody s_times) (defScope s_times) .none kV4 dc4 pm4 an4 cd4 ct4), sl4⟩) (d_times : PySem.W.codeIn K cd4 "times" = true) (k_times : PySem.W.keepIn K (.ref f_times) = true)
    {f_over : Addr} {od5 an5 : Option Addr} {sl5 : Array (Option Value)} {oc5 kV5 dc5 pm5 cd5 ct5 : Value}
    (a_over : PySem.W.nsIn K mainGlobals "over" = some (some (.ref f_over))) (l_over : K.lookup f_over = some ⟨oc5, od5, .func (PySem.W.fnOf "over" "over" (defArgs s_over) (defBody s_over) (defScope s_over) .none kV5 dc5 pm5 an5 cd5 ct5), sl5⟩) (d_over : PySem.W.codeIn K cd5 "over" = true) (k_over : PySem.W.keepIn K (.ref f_over) = true)
    {f_under : Addr} {od6 an6 : Option Addr} {sl6 : Array (Option Value)} {oc6 kV6 dc6 pm6 cd6 ct6 : Value}
    (a_under : PySem.W.nsIn K mainGlobals "under" = some (some (.ref f_under))) (l_under : K.lookup f_under = some ⟨oc6, od6, .func (PySem.W.fnOf "under" "under" (defArgs s_under) (defBody s_under) (defScope s_under) .none kV6 dc6 pm6 an6 cd6 ct6), sl6⟩) (d_under : PySem.W.codeIn K cd6 "under" = true) (k_under : PySem.W.keepIn K (.ref f_under) = true)
    {f_apart : Addr} {od7 an7 : Option Addr} {sl7 : Array (Option Value)} {oc7 kV7 dc7 pm7 cd7 ct7 : Value}
    (a_apart : PySem.W.nsIn K mainGlobals "apart" = some (some (.ref f_apart))) (l_apart : K.lookup f_apart = some ⟨oc7, od7, .func (PySem.W.fnOf "apart" "apart" (defArgs s_apart) (defBody s_apart) (defScope s_apart) .none kV7 dc7 pm7 an7 cd7 ct7), sl7⟩) (d_apart : PySem.W.codeIn K cd7 "apart" = true) (k_apart : PySem.W.keepIn K (.ref f_apart) = true)
    {f_is_whole : Addr} {od8 an8 : Option Addr} {sl8 : Array (Option Value)} {oc8 kV8 dc8 pm8 cd8 ct8 : Value}
    (a_is_whole : PySem.W.nsIn K mainGlobals "is_whole" = some (some (.ref f_is_whole))) (l_is_whole : K.lookup f_is_whole = some ⟨oc8, od8, .func (PySem.W.fnOf "is_whole" "is_whole" (defArgs s_is_whole) (defBody s_is_whole) (defScope s_is_whole) .none kV8 dc8 pm8 an8 cd8 ct8), sl8⟩) (d_is_whole : PySem.W.codeIn K cd8 "is_whole" = true) (k_is_whole : PySem.W.keepIn K (.ref f_is_whole) = true)
    {f_is_fraction : Addr} {od9 an9 : Option Addr} {sl9 : Array (Option Value)} {oc9 kV9 dc9 pm9 cd9 ct9 : Value}
    (a_is_fraction : PySem.W.nsIn K mainGlobals "is_fraction" = some (some (.ref f_is_fraction))) (l_is_fraction : K.lookup f_is_fraction = some ⟨oc9, od9, .func (PySem.W.fnOf "is_fraction" "is_fraction" (defArgs s_is_fraction) (defBody s_is_fraction) (defScope s_is_fraction) .none kV9 dc9 pm9 an9 cd9 ct9), sl9⟩) (d_is_fraction : PySem.W.codeIn K cd9 "is_fraction" = true) (k_is_fraction : PySem.W.keepIn K (.ref f_is_fraction) = true)
    {f_fraction : Addr} {od10 an10 : Option Addr} {sl10 : Array (Option Value)} {oc10 kV10 dc10 pm10 cd10 ct10 : Value}
    {T10 : Addr} {odT10 : Option Addr} {slT10 : Array (Option Value)} {ocT10 : Value} {nT10 : Nat} {tk10 : Tok}
    (a_fraction : PySem.W.nsIn K mainGlobals "fraction" = some (some (.ref f_fraction))) (l_fraction : K.lookup f_fraction = some ⟨oc10, od10, .func (PySem.W.fnOf "fraction" "fraction" (defArgs s_fraction) (defBody s_fraction) (defScope s_fraction) (.ref T10) kV10 dc10 pm10 an10 cd10 ct10), sl10⟩) (d_fraction : PySem.W.codeIn K cd10 "fraction" = true) (k_fraction : PySem.W.keepIn K (.ref f_fraction) = true)
    (t_fraction : K.lookup T10 = some ⟨ocT10, odT10, .seq #[.int 1 tk10] nT10, slT10⟩)
    {f_total : Addr} {od11 an11 : Option Addr} {sl11 : Array (Option Value)} {oc11 kV11 dc11 pm11 cd11 ct11 : Value}
    {T11 : Addr} {odT11 : Option Addr} {slT11 : Array (Option Value)} {ocT11 : Value} {nT11 : Nat}
    (a_total : PySem.W.nsIn K mainGlobals "total" = some (some (.ref f_total))) (l_total : K.lookup f_total = some ⟨oc11, od11, .func (PySem.W.fnOf "total" "total" (defArgs s_total) (defBody s_total) (defScope s_total) (.ref T11) kV11 dc11 pm11 an11 cd11 ct11), sl11⟩) (d_total : PySem.W.codeIn K cd11 "total" = true) (k_total : PySem.W.keepIn K (.ref f_total) = true)
    (t_total : K.lookup T11 = some ⟨ocT11, odT11, .seq #[.none] nT11, slT11⟩)
    {f__law_begun : Addr} {od12 an12 : Option Addr} {sl12 : Array (Option Value)} {oc12 kV12 dc12 pm12 cd12 ct12 : Value}
    (a__law_begun : PySem.W.nsIn K mainGlobals "_law_begun" = some (some (.ref f__law_begun))) (l__law_begun : K.lookup f__law_begun = some ⟨oc12, od12, .func (PySem.W.fnOf "_law_begun" "_law_begun" (defArgs s__law_begun) (defBody s__law_begun) (defScope s__law_begun) .none kV12 dc12 pm12 an12 cd12 ct12), sl12⟩) (d__law_begun : PySem.W.codeIn K cd12 "_law_begun" = true) (k__law_begun : PySem.W.keepIn K (.ref f__law_begun) = true)
    {f__law_take : Addr} {od13 an13 : Option Addr} {sl13 : Array (Option Value)} {oc13 kV13 dc13 pm13 cd13 ct13 : Value}
    (a__law_take : PySem.W.nsIn K mainGlobals "_law_take" = some (some (.ref f__law_take))) (l__law_take : K.lookup f__law_take = some ⟨oc13, od13, .func (PySem.W.fnOf "_law_take" "_law_take" (defArgs s__law_take) (defBody s__law_take) (defScope s__law_take) .none kV13 dc13 pm13 an13 cd13 ct13), sl13⟩) (d__law_take : PySem.W.codeIn K cd13 "_law_take" = true) (k__law_take : PySem.W.keepIn K (.ref f__law_take) = true)
    {f__law_one : Addr} {od14 an14 : Option Addr} {sl14 : Array (Option Value)} {oc14 kV14 dc14 pm14 cd14 ct14 : Value}
    (a__law_one : PySem.W.nsIn K mainGlobals "_law_one" = some (some (.ref f__law_one))) (l__law_one : K.lookup f__law_one = some ⟨oc14, od14, .func (PySem.W.fnOf "_law_one" "_law_one" (defArgs s__law_one) (defBody s__law_one) (defScope s__law_one) .none kV14 dc14 pm14 an14 cd14 ct14), sl14⟩) (d__law_one : PySem.W.codeIn K cd14 "_law_one" = true) (k__law_one : PySem.W.keepIn K (.ref f__law_one) = true)
    {f__law_right : Addr} {od15 an15 : Option Addr} {sl15 : Array (Option Value)} {oc15 kV15 dc15 pm15 cd15 ct15 : Value}
    (a__law_right : PySem.W.nsIn K mainGlobals "_law_right" = some (some (.ref f__law_right))) (l__law_right : K.lookup f__law_right = some ⟨oc15, od15, .func (PySem.W.fnOf "_law_right" "_law_right" (defArgs s__law_right) (defBody s__law_right) (defScope s__law_right) .none kV15 dc15 pm15 an15 cd15 ct15), sl15⟩) (d__law_right : PySem.W.codeIn K cd15 "_law_right" = true) (k__law_right : PySem.W.keepIn K (.ref f__law_right) = true)
    {f_law : Addr} {od16 an16 : Option Addr} {sl16 : Array (Option Value)} {oc16 kV16 dc16 pm16 cd16 ct16 : Value}
    (a_law : PySem.W.nsIn K mainGlobals "law" = some (some (.ref f_law))) (l_law : K.lookup f_law = some ⟨oc16, od16, .func (PySem.W.fnOf "law" "law" (defArgs s_law) (defBody s_law) (defScope s_law) .none kV16 dc16 pm16 an16 cd16 ct16), sl16⟩) (d_law : PySem.W.codeIn K cd16 "law" = true) (k_law : PySem.W.keepIn K (.ref f_law) = true)
    (z_abs : PySem.W.nsIn K mainGlobals "abs" = some none)
    (z_isinstance : PySem.W.nsIn K mainGlobals "isinstance" = some none)
    (z_int : PySem.W.nsIn K mainGlobals "int" = some none)
    (z_bool : PySem.W.nsIn K mainGlobals "bool" = some none)
    (z_tuple : PySem.W.nsIn K mainGlobals "tuple" = some none)
    (z_len : PySem.W.nsIn K mainGlobals "len" = some none)
    (z_max : PySem.W.nsIn K mainGlobals "max" = some none)
    (z_min : PySem.W.nsIn K mainGlobals "min" = some none)
    (z_range : PySem.W.nsIn K mainGlobals "range" = some none)
    {A26 : Addr} {odA26 : Option Addr} {slA26 : Array (Option Value)} {nA26 : Nat} {tka26 tkb26 : Tok} (a_NOUGHT : PySem.W.nsIn K mainGlobals "NOUGHT" = some (some (.ref A26))) (l_NOUGHT : K.lookup A26 = some ⟨.type "tuple", odA26, .seq #[.int 0 tka26, .int 1 tkb26] nA26, slA26⟩) :
    ∃ fd : FuncData, (∀ (s : Shared) (v : Value), BindsTo s fd ⟨[v], []⟩ [("_law_script", v)]) ∧ ∀ base : Heap, K.In base → base.Ns mainGlobals mg → FnOk l.prog w K mg base CX0 6 fa fd ["_law_script"] (spLaw K) := by
  have e := hfa.symm.trans (PySem.W.mg_of X G a_law)
  cases e
  have F1 := fun_mk (st := s_greatest_divisor) l_greatest_divisor d_greatest_divisor k_greatest_divisor
  have b1 := F1.binds (ps := ["one", "other"]) fun _ _ _ _ _ _ us hl => match us, hl with | [_, _], _ => rfl
  have F2 := fun_mk (st := s_reduced) l_reduced d_reduced k_reduced
  have b2 := F2.binds (ps := ["top", "bottom"]) fun _ _ _ _ _ _ us hl => match us, hl with | [_, _], _ => rfl
  have F3 := fun_mk (st := s_plus) l_plus d_plus k_plus
  have b3 := F3.binds (ps := ["one", "other"]) fun _ _ _ _ _ _ us hl => match us, hl with | [_, _], _ => rfl
  have F4 := fun_mk (st := s_minus) l_minus d_minus k_minus
  have b4 := F4.binds (ps := ["one", "other"]) fun _ _ _ _ _ _ us hl => match us, hl with | [_, _], _ => rfl
  have F5 := fun_mk (st := s_times) l_times d_times k_times
  have b5 := F5.binds (ps := ["one", "other"]) fun _ _ _ _ _ _ us hl => match us, hl with | [_, _], _ => rfl
  have F6 := fun_mk (st := s_over) l_over d_over k_over
  have b6 := F6.binds (ps := ["one", "other"]) fun _ _ _ _ _ _ us hl => match us, hl with | [_, _], _ => rfl
  have F7 := fun_mk (st := s_under) l_under d_under k_under
  have b7 := F7.binds (ps := ["one", "other"]) fun _ _ _ _ _ _ us hl => match us, hl with | [_, _], _ => rfl
  have F8 := fun_mk (st := s_apart) l_apart d_apart k_apart
  have b8 := F8.binds (ps := ["one", "other"]) fun _ _ _ _ _ _ us hl => match us, hl with | [_, _], _ => rfl
  have F9 := fun_mk (st := s_is_whole) l_is_whole d_is_whole k_is_whole
  have b9 := F9.binds (ps := ["thing"]) fun _ _ _ _ _ _ us hl => match us, hl with | [_], _ => rfl
  have F10 := fun_mk (st := s_is_fraction) l_is_fraction d_is_fraction k_is_fraction
  have b10 := F10.binds (ps := ["thing"]) fun _ _ _ _ _ _ us hl => match us, hl with | [_], _ => rfl
  have F11 : FunD K "fraction" "fraction" (defArgs s_fraction) (defBody s_fraction) (defScope s_fraction) [.int 1] [] f_fraction _ := ⟨⟨_, _, _, _, _, _, _, _, _, _, rfl, l_fraction, d_fraction, .inr ⟨by simp, _, _, _, _, rfl, t_fraction, rfl, .cons ⟨_, rfl⟩ .nil⟩, .inl rfl⟩, k_fraction⟩
  obtain ⟨ds11, v11, b11⟩ := F11.binds1 (ps := ["top", "bottom"]) 2 1 (by simp) rfl fun _ _ _ _ _ _ _ us its hl hi => match us, its, hl, hi with | [_, _], [_], _, _ => ⟨_, rfl, rfl⟩
  have F12 : FunD K "total" "total" (defArgs s_total) (defBody s_total) (defScope s_total) [.non] [] f_total _ := ⟨⟨_, _, _, _, _, _, _, _, _, _, rfl, l_total, d_total, .inr ⟨by simp, _, _, _, _, rfl, t_total, rfl, .cons rfl .nil⟩, .inl rfl⟩, k_total⟩
  obtain ⟨ds12, v12, b12⟩ := F12.binds1 (ps := ["some", "start"]) 1 0 (by simp) rfl fun _ _ _ _ _ _ _ us its hl hi => match us, its, hl, hi with | [_], [_], _, _ => ⟨_, rfl, rfl⟩
  have F13 := fun_mk (st := s__law_begun) l__law_begun d__law_begun k__law_begun
  have b13 := F13.binds (ps := ["_law_script", "_law_k"]) fun _ _ _ _ _ _ us hl => match us, hl with | [_, _], _ => rfl
  have F14 := fun_mk (st := s__law_take) l__law_take d__law_take k__law_take
  have b14 := F14.binds (ps := ["_law_state", "_law_many"]) fun _ _ _ _ _ _ us hl => match us, hl with | [_, _], _ => rfl
  have F15 := fun_mk (st := s__law_one) l__law_one d__law_one k__law_one
  have b15 := F15.binds (ps := ["_law_state"]) fun _ _ _ _ _ _ us hl => match us, hl with | [_], _ => rfl
  have F16 := fun_mk (st := s__law_right) l__law_right d__law_right k__law_right
  have b16 := F16.binds (ps := ["_law_one_here", "_law_other", "_law_third"]) fun _ _ _ _ _ _ us hl => match us, hl with | [_, _, _], _ => rfl
  have F17 := fun_mk (st := s_law) l_law d_law k_law
  have hN : ∀ H, SqT K H _ [.int 0, .int 1] := fun H => .inr ⟨_, _, _, l_NOUGHT, rfl, rfl, by show 2 ≤ sizeLine; decide, .cons ⟨_, rfl⟩ (.cons ⟨_, rfl⟩ .nil)⟩
  refine ⟨(PySem.W.fnOf "law" "law" (defArgs s_law) (defBody s_law) (defScope s_law) .none kV16 dc16 pm16 an16 cd16 ct16), fun s v => .of_eq rfl, fun base _ _ => ?_⟩
  · have M := fun {x : Str} {u : Value} (a : PySem.W.nsIn K mainGlobals x = some (some u)) => PySem.W.mg_of X G a
    have Z := fun {x : Str} (a : PySem.W.nsIn K mainGlobals x = some none) => PySem.W.mg_none_of X G a
    have C1 := cal_mk (ok_gcd (P := l.prog) (w := w) (base := base) F1 (Z z_abs)) (M a_greatest_divisor) k_greatest_divisor b1 .nil
    have C2 := cal_mk (ok_red F2 C1) (M a_reduced) k_reduced b2 .nil
    have C3 := cal_mk (ok_plus F3 C2) (M a_plus) k_plus b3 .nil
    have C4 := cal_mk (ok_minus F4 C2) (M a_minus) k_minus b4 .nil
    have C5 := cal_mk (ok_times F5 C2) (M a_times) k_times b5 .nil
    have C6 := cal_mk (ok_over F6 C2) (M a_over) k_over b6 .nil
    have C7 := cal_mk (ok_under (P := l.prog) (w := w) (base := base) F7) (M a_under) k_under b7 .nil
    have C8 := cal_mk (ok_apart F8 C7 C4) (M a_apart) k_apart b8 .nil
    have C9 := cal_mk (ok_whole (P := l.prog) (w := w) (base := base) F9 (Z z_isinstance) (Z z_int) (Z z_bool)) (M a_is_whole) k_is_whole b9 .nil
    have C10 := cal_mk (ok_isF F10 (Z z_isinstance) (Z z_tuple) (Z z_len) C9 C1) (M a_is_fraction) k_is_fraction b10 .nil
    have C11 := cal_mk (ok_frac F11 C9 C2) (M a_fraction) k_fraction b11 v11
    have C12 := cal_mk (ok_total F12 (M a_NOUGHT) hN C3) (M a_total) k_total b12 v12
    have C13 := cal_mk (ok_begun (P := l.prog) (w := w) (base := base) F13 (Z z_max)) (M a__law_begun) k__law_begun b13 .nil
    have C14 := cal_mk (ok_take (P := l.prog) (w := w) (base := base) F14 (Z z_int) (Z z_range)) (M a__law_take) k__law_take b14 .nil
    have C15 := cal_mk (ok_one F15 C14 C11) (M a__law_one) k__law_one b15 .nil
    have C16 := cal_mk (ok_right F16 C3 C4 C5 C6 C7 C8 C12 C10) (M a__law_right) k__law_right b16 .nil
    exact ok_law F17 (Z z_range) (Z z_max) (Z z_min) (Z z_len) C13 C14 C15 C16
end NF
open PySem PySem.W PyProof.Rows
set_option maxHeartbeats 0 in
theorem PySem.Challenge.cw_neartwins_k04_whole_sums_there_and_back_holds : PySem.Challenge.rw_neartwins_k04_whole_sums_there_and_back.Holds := by
  w_on; o_law; k_head; (case hw => w_witness2)
  k_fill
  refine L2.walk_of (l := PySem.Challenge.rw_neartwins_k04_whole_sums_there_and_back) (n := 63) (k := 6) (x := "_law_script") (CX := fun _ => L2.CX0) (sp := fun w => NF.spLaw _) rfl (by decide) rfl ⟨rfl, by decide, by decide⟩ (fun w h Y => PySem.W.kIn_of Y) ?F (fun _ _ a ns hl _ hS => ⟨a, ns, rfl, hS, hl, fun _ => rfl⟩) (fun _ _ _ _ _ h => h)
  case F =>
    intro w mg fa h KX G hmg
    refine' NF.all_mk KX G hmg ?a_greatest_divisor ?l_greatest_divisor ?d_greatest_divisor ?k_greatest_divisor ?a_reduced ?l_reduced ?d_reduced ?k_reduced ?a_plus ?l_plus ?d_plus ?k_plus ?a_minus ?l_minus ?d_minus ?k_minus ?a_times ?l_times ?d_times ?k_times ?a_over ?l_over ?d_over ?k_over ?a_under ?l_under ?d_under ?k_under ?a_apart ?l_apart ?d_apart ?k_apart ?a_is_whole ?l_is_whole ?d_is_whole ?k_is_whole ?a_is_fraction ?l_is_fraction ?d_is_fraction ?k_is_fraction ?a_fraction ?l_fraction ?d_fraction ?k_fraction ?t_fraction ?a_total ?l_total ?d_total ?k_total ?t_total ?a__law_begun ?l__law_begun ?d__law_begun ?k__law_begun ?a__law_take ?l__law_take ?d__law_take ?k__law_take ?a__law_one ?l__law_one ?d__law_one ?k__law_one ?a__law_right ?l__law_right ?d__law_right ?k__law_right ?a_law ?l_law ?d_law ?k_law ?z_abs ?z_isinstance ?z_int ?z_bool ?z_tuple ?z_len ?z_max ?z_min ?z_range ?a_NOUGHT ?l_NOUGHT
    (case a_greatest_divisor => k_is); (case l_greatest_divisor => k_is); (case d_greatest_divisor => k_is); (case k_greatest_divisor => k_is); (case a_reduced => k_is); (case l_reduced => k_is); (case d_reduced => k_is); (case k_reduced => k_is); (case a_plus => k_is); (case l_plus => k_is); (case d_plus => k_is); (case k_plus => k_is); (case a_minus => k_is); (case l_minus => k_is); (case d_minus => k_is); (case k_minus => k_is); (case a_times => k_is); (case l_times => k_is); (case d_times => k_is); (case k_times => k_is); (case a_over => k_is); (case l_over => k_is); (case d_over => k_is); (case k_over => k_is); (case a_under => k_is); (case l_under => k_is); (case d_under => k_is); (case k_under => k_is); (case a_apart => k_is); (case l_apart => k_is); (case d_apart => k_is); (case k_apart => k_is); (case a_is_whole => k_is); (case l_is_whole => k_is); (case d_is_whole => k_is); (case k_is_whole => k_is); (case a_is_fraction => k_is); (case l_is_fraction => k_is); (case d_is_fraction => k_is); (case k_is_fraction => k_is); (case a_fraction => k_is); (case l_fraction => k_is); (case d_fraction => k_is); (case k_fraction => k_is); (case t_fraction => k_is); (case a_total => k_is); (case l_total => k_is); (case d_total => k_is); (case k_total => k_is); (case t_total => k_is); (case a__law_begun => k_is); (case l__law_begun => k_is); (case d__law_begun => k_is); (case k__law_begun => k_is); (case a__law_take => k_is); (case l__law_take => k_is); (case d__law_take => k_is); (case k__law_take => k_is); (case a__law_one => k_is); (case l__law_one => k_is); (case d__law_one => k_is); (case k__law_one => k_is); (case a__law_right => k_is); (case l__law_right => k_is); (case d__law_right => k_is); (case k__law_right => k_is); (case a_law => k_is); (case l_law => k_is); (case d_law => k_is); (case k_law => k_is); (case z_abs => k_is); (case z_isinstance => k_is); (case z_int => k_is); (case z_bool => k_is); (case z_tuple => k_is); (case z_len => k_is); (case z_max => k_is); (case z_min => k_is); (case z_range => k_is); (case a_NOUGHT => k_is); (case l_NOUGHT => k_is)

