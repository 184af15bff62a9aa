import PyProof.Rows.All
import Wide.All
import OpenK.AllK
import Wide.FinOn
import PySem.Challenge.RW_neartwins_k01_fractions_made
import HandS.ForMost
import HandS.Evl
import HandS.Defaults
import HandS.Wide
import HandS.IsInst
import HandS.Flow
import HandS.Exc
import HandS.ExcOwn
import HandS.ExcIs
import HandS.WordsExc
set_option Elab.async false
set_option linter.all false
set_option maxRecDepth 100000
namespace NF

theorem gcd_step {a b : Int} (h : b ≠ 0) : Int.gcd b (a.fmod b) = Int.gcd a b ∧ (a.fmod b).natAbs < b.natAbs := by
  constructor
  · rw [Int.fmod_def, Int.gcd_sub_mul_left_right, Int.gcd_comm]
  · rcases Int.lt_or_gt_of_ne h with hb | hb
    · have e := Int.neg_fmod_neg a b
      have h1 := Int.fmod_nonneg_of_pos (-a) (show 0 < -b by omega)
      have h2 := Int.fmod_lt_of_pos (-a) (show 0 < -b by omega)
      omega
    · have h1 := Int.fmod_nonneg_of_pos a hb
      have h2 := Int.fmod_lt_of_pos a hb
      omega

/-- what reduced does -/
theorem red_pos {a b : Int} (h : 0 < b) : a.fdiv (Int.gcd a b) = (Rat.divInt a b).num ∧ b.fdiv (Int.gcd a b) = (Rat.divInt a b).den := by
  have hg : (0 : Int) < Int.gcd a b := by
    have : 0 < Int.gcd a b := Int.gcd_pos_of_ne_zero_right _ (by omega)
    omega
  constructor
  · rw [Rat.num_divInt, Int.gcd_comm b a, Int.sign_eq_one_of_pos h, Int.one_mul, Int.fdiv_eq_ediv_of_nonneg _ (by omega)]
  · rw [Rat.den_divInt, if_neg (by omega), Int.gcd_comm b a, Int.fdiv_eq_ediv_of_nonneg _ (by omega)]
    rw [Int.natCast_ediv]
    congr 1
    omega
theorem red_neg {a b : Int} (h : b < 0) : a.fdiv (-(Int.gcd a b : Int)) = (Rat.divInt a b).num ∧ b.fdiv (-(Int.gcd a b : Int)) = (Rat.divInt a b).den := by
  have d1 : (Int.gcd a b : Int) ∣ a := Int.gcd_dvd_left ..
  have d2 : (Int.gcd a b : Int) ∣ b := Int.gcd_dvd_right ..
  constructor
  · rw [Rat.num_divInt, Int.gcd_comm b a, Int.sign_eq_neg_one_of_neg h, Int.fdiv_eq_ediv_of_dvd (by rwa [Int.neg_dvd]), Int.ediv_neg, Int.neg_mul, Int.one_mul, Int.neg_ediv_of_dvd d1]
  · rw [Rat.den_divInt, if_neg (by omega), Int.gcd_comm b a, Int.fdiv_eq_ediv_of_dvd (by rwa [Int.neg_dvd]), Int.ediv_neg, ← Int.neg_ediv_of_dvd d2]
    rw [Int.natCast_ediv]
    congr 1
    omega

/-- how many bits a fraction has -/
def Sz (B : Nat) (x : Rat) : Prop := x.num.natAbs < 2 ^ B ∧ x.den < 2 ^ B
theorem Sz.mono {A B : Nat} {x : Rat} (h : Sz A x) (e : A ≤ B) : Sz B x :=
  ⟨Nat.lt_of_lt_of_le h.1 (Nat.pow_le_pow_right (by decide) e), Nat.lt_of_lt_of_le h.2 (Nat.pow_le_pow_right (by decide) e)⟩
theorem sz_div {B : Nat} {a b : Int} (ha : a.natAbs < 2 ^ B) (hb : b.natAbs < 2 ^ B) (h : b ≠ 0) : Sz B (Rat.divInt a b) := by
  constructor
  · rw [Rat.num_divInt]
    have d1 : (Int.gcd b a : Int) ∣ a := Int.gcd_dvd_right ..
    refine Nat.lt_of_le_of_lt ?_ ha
    have : (b.sign * a / ↑(b.gcd a)).natAbs ≤ (b.sign * a).natAbs := by
      exact Int.natAbs_ediv_le_natAbs ..
    refine Nat.le_trans this ?_
    rw [Int.natAbs_mul]
    have : b.sign.natAbs = 1 := Int.natAbs_sign_of_ne_zero h
    rw [this]; omega
  · rw [Rat.den_divInt, if_neg h]
    exact Nat.lt_of_le_of_lt (Nat.div_le_self ..) hb

theorem den0 (x : Rat) : (x.den : Int) ≠ 0 := by have := x.den_nz; omega
theorem denp (x : Rat) : (0 : Int) < (x.den : Int) := by have := x.den_nz; omega
theorem add_rt (x y : Rat) : x + y = Rat.divInt (x.num * y.den + y.num * x.den) (x.den * y.den) := by
  rw [← Rat.divInt_add_divInt _ _ (den0 x) (den0 y), Rat.num_divInt_den, Rat.num_divInt_den]
theorem sub_rt (x y : Rat) : x - y = Rat.divInt (x.num * y.den - y.num * x.den) (x.den * y.den) := by
  rw [← Rat.divInt_sub_divInt _ _ (den0 x) (den0 y), Rat.num_divInt_den, Rat.num_divInt_den]
theorem mul_rt (x y : Rat) : x * y = Rat.divInt (x.num * y.num) (x.den * y.den) := by
  rw [← Rat.divInt_mul_divInt, Rat.num_divInt_den, Rat.num_divInt_den]
theorem div_rt (x y : Rat) : x / y = Rat.divInt (x.num * y.den) (x.den * y.num) := by
  rw [Rat.div_def, Rat.inv_def, ← Rat.divInt_mul_divInt, Rat.num_divInt_den]
theorem nz_num {x : Rat} (h : x.num ≠ 0) : x ≠ 0 := fun e => h (by rw [e]; rfl)
theorem num_nz {x : Rat} (h : x ≠ 0) : x.num ≠ 0 := fun e => h (Rat.num_eq_zero.mp e)

theorem bits_mul {i j : Int} {a b : Nat} (ha : i.natAbs < 2 ^ a) (hb : j.natAbs < 2 ^ b) : (i * j).natAbs < 2 ^ (a + b) := by
  rw [Int.natAbs_mul, Nat.pow_add]
  exact Nat.mul_lt_mul'' ha hb
theorem bits_add {i j : Int} {a : Nat} (ha : i.natAbs < 2 ^ a) (hb : j.natAbs < 2 ^ a) : (i + j).natAbs < 2 ^ (a + 1) := by
  rw [Nat.pow_succ]; omega
theorem bits_sub {i j : Int} {a : Nat} (ha : i.natAbs < 2 ^ a) (hb : j.natAbs < 2 ^ a) : (i - j).natAbs < 2 ^ (a + 1) := by
  rw [Nat.pow_succ]; omega
theorem bits_up {i : Int} {a b : Nat} (h : i.natAbs < 2 ^ a) (e : a ≤ b) : i.natAbs < 2 ^ b := Nat.lt_of_lt_of_le h (Nat.pow_le_pow_right (by decide) e)
theorem Sz.num {B : Nat} {x : Rat} (h : Sz B x) : x.num.natAbs < 2 ^ B := h.1
theorem Sz.den {B : Nat} {x : Rat} (h : Sz B x) : (x.den : Int).natAbs < 2 ^ B := by have := h.2; omega
theorem den_mul0 (x y : Rat) : (x.den : Int) * y.den ≠ 0 := Int.mul_ne_zero (den0 x) (den0 y)
theorem Sz.add {B : Nat} {x y : Rat} (hx : Sz B x) (hy : Sz B y) : Sz (2 * B + 1) (x + y) := by
  rw [add_rt]
  exact sz_div (bits_up (bits_add (bits_mul hx.num hy.den) (bits_mul hy.num hx.den)) (by omega)) (bits_up (bits_mul hx.den hy.den) (by omega)) (den_mul0 x y)
theorem Sz.sub {B : Nat} {x y : Rat} (hx : Sz B x) (hy : Sz B y) : Sz (2 * B + 1) (x - y) := by
  rw [sub_rt]
  exact sz_div (bits_up (bits_sub (bits_mul hx.num hy.den) (bits_mul hy.num hx.den)) (by omega)) (bits_up (bits_mul hx.den hy.den) (by omega)) (den_mul0 x y)
theorem Sz.mul {B : Nat} {x y : Rat} (hx : Sz B x) (hy : Sz B y) : Sz (2 * B + 1) (x * y) := by
  rw [mul_rt]
  exact sz_div (bits_up (bits_mul hx.num hy.num) (by omega)) (bits_up (bits_mul hx.den hy.den) (by omega)) (den_mul0 x y)
theorem Sz.div {B : Nat} {x y : Rat} (hx : Sz B x) (hy : Sz B y) (h : y ≠ 0) : Sz (2 * B + 1) (x / y) := by
  rw [div_rt]
  exact sz_div (bits_up (bits_mul hx.num hy.den) (by omega)) (bits_up (bits_mul hx.den hy.num) (by omega)) (Int.mul_ne_zero (den0 x) (num_nz h))

/-- how far two are apart -/
def ap (x y : Rat) : Rat := if x < y then y - x else x - y
theorem Sz.ap {B : Nat} {x y : Rat} (hx : Sz B x) (hy : Sz B y) : Sz (2 * B + 1) (ap x y) := by
  unfold NF.ap
  split
  · exact hy.sub hx
  · exact hx.sub hy
theorem ap_comm (x y : Rat) : ap x y = ap y x := by
  unfold NF.ap; grind
theorem ap_tri (x y z : Rat) : ¬ (ap x z + ap z y < ap x y) := by
  unfold NF.ap; grind
theorem ap_zero (x y : Rat) : ap x y = 0 ↔ x = y := by
  unfold NF.ap; grind
theorem ap_pos (x y : Rat) : ¬ (ap x y < 0) := by
  unfold NF.ap; grind
theorem lt3 (x y : Rat) : (if x < y then 1 else 0) + (if x = y then 1 else 0) + (if y < x then 1 else 0) = 1 := by grind
theorem lt_rt (x y : Rat) : x < y ↔ x.num * y.den < y.num * x.den := Rat.lt_iff x y
theorem t1 (x y : Rat) : x + y - y = x := by grind
theorem t2 (x y : Rat) : y + x = x + y := by grind
theorem t3 (x y z : Rat) : 0 + x + y + z = x + y + z := by grind
theorem t4 (x y z : Rat) : x + (y + z) = x + y + z := by grind
theorem t5 (x y z : Rat) : x * y * z = x * (z * y) := by grind
theorem t6 (x y z : Rat) : (x + y) * z = x * z + y * z := by grind
theorem t7 (x z : Rat) (h : z ≠ 0) : x * z / z = x := by grind
theorem cop (x : Rat) : Int.gcd x.num x.den = 1 := x.reduced
end NF

namespace NF
open PySem PySem.Spec PyProof.Rows L2 Evl

/-! ### a fraction as a value -/
section
variable {K : PySem.W.Frag} {H H1 H2 : Hp} {σ : L2.St} {ta tb te : TE} {x y z : Rat} {v w : V} {b : Bool}
def Rt (K : PySem.W.Frag) (H : Hp) (v : V) (x : Rat) : Prop := ∃ p, v = .ref p ∧ SqT K H p [.int x.num, .int x.den]
theorem Rt.mono (h : Rt K H v x) (e : Ex H H1) : Rt K H1 v x := by
  obtain ⟨p, e1, h⟩ := h
  exact ⟨p, e1, ex_t e h⟩
theorem Rt.of {p : Addr} {n d : Int} (h : H p = some (.tup [.int n, .int d])) (en : n = x.num) (ed : d = x.den) : Rt K H (.ref p) x := by
  subst en ed
  exact ⟨p, rfl, SqT.of h⟩
def EvF (K : PySem.W.Frag) (te : TE) (σ : L2.St) (H : Hp) (x : Rat) : Prop := ∀ H1, Ex H H1 → ∀ Q : VK, (∀ v H2, Ex H1 H2 → Rt K H2 v x → Q v H2) → te σ H1 Q
theorem EvF.mono (h : EvF K te σ H x) (e : Ex H H1) : EvF K te σ H1 x := fun H2 a Q q => h H2 (e.trans a) Q q
theorem EvF.to (h : EvF K te σ H x) (e : x = y) : EvF K te σ H y := e ▸ h
theorem ef_var {i : Nat} (h : σ[i]? = some (some v)) (r : Rt K H v x) : EvF K (tVar i) σ H x := fun H1 e _ q => ⟨v, h, q v H1 (Ex.refl H1) (r.mono e)⟩
theorem ev_ix0 (ha : EvF K ta σ H x) : Ev (tOp (rIxT K) ta (tC (.int 0))) σ H (.int x.num) := fun H1 e Q q => ha H1 e _ fun v H2 e2 r => by
  obtain ⟨p, rfl, hs⟩ := r
  exact ⟨p, _, 0, _, rfl, rfl, hs, atI_nat (j := 0) rfl, q H2 e2⟩
theorem ev_ix1 (ha : EvF K ta σ H x) : Ev (tOp (rIxT K) ta (tC (.int 1))) σ H (.int x.den) := fun H1 e Q q => ha H1 e _ fun v H2 e2 r => by
  obtain ⟨p, rfl, hs⟩ := r
  exact ⟨p, _, 1, _, rfl, rfl, hs, atI_nat (j := 1) rfl, q H2 e2⟩
theorem eqv_rt : PyData.eqv (.tuple [.int x.num, .int x.den]) (.tuple [.int y.num, .int y.den]) = decide (x = y) := by
  have e : PyData.eqv (.tuple [.int x.num, .int x.den]) (.tuple [.int y.num, .int y.den]) = (x.num == y.num && ((x.den : Int) == (y.den : Int))) := by
    simp [PyData.eqv, PyData.eqvAll]
  rw [e]
  by_cases h : x = y
  · subst h; simp
  · rw [decide_eq_false h]
    by_cases h1 : x.num = y.num
    · have h2 : (x.den : Int) ≠ y.den := fun e => h (Rat.ext h1 (by omega))
      simp [h2]
    · simp [h1]
theorem dp_rt (h : Rt K H v x) : Dp K H v (.tuple [.int x.num, .int x.den]) := by
  obtain ⟨p, rfl, hs⟩ := h
  exact .tup hs (.cons (.int _) (.cons (.int _) .nil))
theorem ev_eqF (ha : EvF K ta σ H x) (hb : EvF K tb σ H y) : Ev (tOp (rEqD K) ta tb) σ H (.bl (decide (x = y))) := fun H1 e Q q =>
  ha H1 e _ fun v H2 e2 r => hb H2 (e.trans e2) _ fun w H3 e3 r' => ⟨_, _, dp_rt (r.mono e3), dp_rt r', rfl, rfl, by rw [eqv_rt]; exact q H3 (e2.trans e3)⟩
theorem ev_neF (ha : EvF K ta σ H x) (hb : EvF K tb σ H y) : Ev (tOp (rNeD K) ta tb) σ H (.bl (!decide (x = y))) := fun H1 e Q q =>
  ha H1 e _ fun v H2 e2 r => hb H2 (e.trans e2) _ fun w H3 e3 r' => ⟨_, _, dp_rt (r.mono e3), dp_rt r', rfl, rfl, by rw [eqv_rt]; exact q H3 (e2.trans e3)⟩
/-- a written pair -/
theorem ef_tup {n d : Int} (h : EvU te σ H [.int n, .int d]) (en : n = x.num) (ed : d = x.den) : EvF K te σ H x := fun H1 e Q q =>
  h H1 e _ fun p H2 _ e2 hp => q _ H2 e2 (Rt.of hp en ed)
theorem ef_if {t : TT} (h : EvT t σ H b) (h1 : b = true → EvF K ta σ H x) (h2 : b = false → EvF K tb σ H x) : EvF K (tIf t ta tb) σ H x := fun H1 e Q q => h H1 e _ fun H2 e2 => by
  cases b with
  | true =>
    show ta σ H2 Q
    exact h1 rfl H2 (e.trans e2) Q fun v H3 e3 r => q v H3 (e2.trans e3) r
  | false =>
    show tb σ H2 Q
    exact h2 rfl H2 (e.trans e2) Q fun v H3 e3 r => q v H3 (e2.trans e3) r
variable {D : Ends} {tu tw tz : TS}
theorem s_retF (h : EvF K te σ H x) (k : ∀ u H1, Ex H H1 → Rt K H1 u x → D.rt u H1) : tRet te D σ H := h H (Ex.refl H) _ k
theorem q_asgF {i : Nat} (h : EvF K te σ H x) (k : ∀ u H1, Ex H H1 → Rt K H1 u x → tz D (σ.set i (some u)) H1) : tSeq (tAsg te (gName i)) tz D σ H := h H (Ex.refl H) _ fun u H1 e r => k u H1 e r
theorem s_asgF {i : Nat} (h : EvF K te σ H x) (k : ∀ u H1, Ex H H1 → Rt K H1 u x → D.nx (σ.set i (some u)) H1) : tAsg te (gName i) D σ H := h H (Ex.refl H) _ fun u H1 e r => k u H1 e r
theorem s_par {i j : Nat} {ta : TA} (h : EvA ta σ H [v, w]) (k : ∀ H1, Ex H H1 → D.nx ((σ.set i (some v)).set j (some w)) H1) : tPar i j ta D σ H := h H (Ex.refl H) _ fun H1 e => ⟨v, w, rfl, k H1 e⟩
end

/-! ### // by any divisor but 0 -/
def CDivX (_ j : Int) : Prop := j ≠ 0 ∧ j.natAbs.log2 < 9000
theorem op_fdivX {X : Cx} : OpR X (binaryOp .FloorDiv) (rI CDivX fun i j => .int (i.fdiv j)) := opI fun _ _ _ _ _ _ _ hc q => floordiv_int hc.1 q (.inl (PyProof.noPylong_of_log2 hc.2))
theorem divX {i j : Int} {b : Nat} (h : j ≠ 0) (hb : j.natAbs < 2 ^ b) (h0 : 0 < b) (h9 : b ≤ 9000) : CDivX i j := ⟨h, Nat.lt_of_lt_of_le (PySem.Flt.log2_lt_of h0 hb) h9⟩

/-! ### a def that is called -/
structure Cal (P : Program) (w : World) (K : PySem.W.Frag) (mg : Str → Option Value) (base : Heap) (k : Nat) (x : Str) (ps : List Str) (dvs : List V) (sp : Sp) : Prop where
  ex : ∃ (f : Addr) (fd : FuncData) (ds : List Value), FnOk P w K mg base CX0 k f fd ps sp ∧ mg x = some (.ref f) ∧ PySem.W.keepIn K (.ref f) = true ∧ Binds K fd ps ds ∧ Vals dvs ds
theorem pe_cal {X : Cx} {j k : Nat} {x : Str} {ps : List Str} {dvs : List V} {sp : Sp} {e : Expr} {es : List Expr} {t : TA} {p pos : Pos} (C : Cal X.prog X.w X.K X.mg X.base k x ps dvs sp) (hr : Room j X.A) (hk : k ≤ j) (hg : Gl X x)
    (ha : PA X (e :: es) t) (hdb : (x == ("__debug__" : Str)) = false := by decide) (he : starEach (e :: es) X.env = (false, eval e X.env) :: starEach es X.env := by rfl) (hpl : (backTo pos (starEach es X.env)).any (·.1) = false := by rfl) :
    PE X (.Call (.Name x p) (e :: es) [] pos) (tCall sp dvs E0 t) := by
  obtain ⟨f, fd, ds, F, hm, kp, b, d⟩ := C.ex
  exact pe_call F (hr.mono hk) hg hm kp b d pass0 ha hdb he hpl

/-! ### promises -/
def spGcd : Sp := fun vs H Q _ => ∃ a b : Int, vs = [.int a, .int b] ∧ ∀ H', Ex H H' → Q (.int (Int.gcd a b)) H'
def spRed (K : PySem.W.Frag) : Sp := fun vs H Q _ => ∃ (a b : Int) (B : Nat), vs = [.int a, .int b] ∧ b ≠ 0 ∧ a.natAbs < 2 ^ B ∧ b.natAbs < 2 ^ B ∧ 0 < B ∧ B ≤ 9000 ∧ ∀ v H', Ex H H' → Rt K H' v (Rat.divInt a b) → Q v H'
def sp2 (K : PySem.W.Frag) (C : Rat → Rat → Prop) (f : Rat → Rat → Rat) : Sp := fun vs H Q _ => ∃ (v w : V) (x y : Rat) (B : Nat), vs = [v, w] ∧ Rt K H v x ∧ Rt K H w y ∧ C x y ∧ Sz B x ∧ Sz B y ∧ 0 < B ∧ B ≤ 4000 ∧ ∀ u H', Ex H H' → Rt K H' u (f x y) → Q u H'
def spLt (K : PySem.W.Frag) : Sp := fun vs H Q _ => ∃ (v w : V) (x y : Rat) (B : Nat), vs = [v, w] ∧ Rt K H v x ∧ Rt K H w y ∧ Sz B x ∧ Sz B y ∧ 0 < B ∧ B ≤ 400000 ∧ ∀ H', Ex H H' → Q (.bl (decide (x < y))) H'
section
variable {K : PySem.W.Frag} {H H1 H2 : Hp} {σ : L2.St} {ta tb te : TE} {x y z : Rat} {v w : V} {B : Nat} {C : Rat → Rat → Prop} {f : Rat → Rat → Rat} {E : XK}
theorem ef_2 (ha : EvF K ta σ H x) (hb : EvF K tb σ H y) (hc : C x y) (sx : Sz B x) (sy : Sz B y) (h0 : 0 < B) (h4 : B ≤ 4000) : EvF K (tCall (sp2 K C f) [] E (tCons ta (tCons tb tNil))) σ H (f x y) := fun H1 e Q q =>
  ha H1 e _ fun v H2 e2 r => hb H2 (e.trans e2) _ fun w H3 e3 r' => ⟨v, w, x, y, B, rfl, r.mono e3, r', hc, sx, sy, h0, h4, fun u H' e4 ru => q u H' ((e2.trans e3).trans e4) ru⟩
theorem ev_lt (ha : EvF K ta σ H x) (hb : EvF K tb σ H y) (sx : Sz B x) (sy : Sz B y) (h0 : 0 < B) (h4 : B ≤ 400000) : Ev (tCall (spLt K) [] E (tCons ta (tCons tb tNil))) σ H (.bl (decide (x < y))) := fun H1 e Q q =>
  ha H1 e _ fun v H2 e2 r => hb H2 (e.trans e2) _ fun w H3 e3 r' => ⟨v, w, x, y, B, rfl, r.mono e3, r', sx, sy, h0, h4, fun H' e4 => q H' ((e2.trans e3).trans e4)⟩
theorem ef_red {a b : Int} (ha : Ev ta σ H (.int a)) (hb : Ev tb σ H (.int b)) (hn : b ≠ 0) (ba : a.natAbs < 2 ^ B) (bb : b.natAbs < 2 ^ B) (h0 : 0 < B) (h4 : B ≤ 9000) : EvF K (tCall (spRed K) [] E (tCons ta (tCons tb tNil))) σ H (Rat.divInt a b) := fun H1 e Q q =>
  ha H1 e _ fun H2 e2 => hb H2 (e.trans e2) _ fun H3 e3 => ⟨a, b, B, rfl, hn, ba, bb, h0, h4, fun u H' e4 ru => q u H' ((e2.trans e3).trans e4) ru⟩
theorem ev_gcd {a b : Int} (ha : Ev ta σ H (.int a)) (hb : Ev tb σ H (.int b)) : Ev (tCall spGcd [] E (tCons ta (tCons tb tNil))) σ H (.int (Int.gcd a b)) := fun H1 e Q q =>
  ha H1 e _ fun H2 e2 => hb H2 (e.trans e2) _ fun H3 e3 => ⟨a, b, rfl, fun H' e4 => q H' ((e2.trans e3).trans e4)⟩
end
end NF

namespace NF
open PySem PySem.Spec PyProof.Rows L2 Evl
/-! ### isinstance -/
theorem c_ty {X : Cx} {x : Str} {n : String} {pos : Pos} (hm : X.mg x = none) (hg : Gl X x) (hv : bootBuiltins x = some (.type n)) (hn : x ≠ "__name__") (hd : (x == ("__debug__" : Str)) = false := by decide) : PE X (.Name x pos) (tC (.ty n)) := pe_bltn hg hm hv rfl hn hd
section
variable {K : PySem.W.Frag} {H H1 H2 : Hp} {σ : L2.St} {ta tb te : TE} {v w : V} {t c : String} {b : Bool} {E : XK}
theorem tyx_mono {t : Value} (h : TyX K H v t) (e : Ex H H1) : TyX K H1 v t := by
  cases h with
  | base b =>
    refine .base ?_
    cases b with
    | non => exact .non
    | bl y => exact .bl y
    | int i => exact .int i
    | str y => exact .str y
    | flt y => exact .flt y
    | lst ea => exact .lst (e _ _ ea)
    | frz ea => exact .frz (e _ _ ea)
    | tup ea => exact .tup (e _ _ ea)
    | dK ea => exact .dK (e _ _ ea)
    | dT ea => exact .dT (e _ _ ea)
    | ins ea cl ha hn htk hm => exact .ins (e _ _ ea) cl ha hn htk hm
  | byt y => exact .byt y
  | set ea => exact .set (e _ _ ea)
  | kList ea c => exact .kList ea c
  | kTuple ea c => exact .kTuple ea c
  | kDict ea c => exact .kDict ea c
  | fTuple ea => exact .fTuple (e _ _ ea)
  | fDict ea => exact .fDict (e _ _ ea)
theorem ev_isi (h : Ev ta σ H v) (ty : TyX K H v (.type t)) (kb : kitB t c = some b) : Ev (tCB (rIsi K) (tCons ta (tCons (tC (.ty c)) tNil))) σ H (.bl b) := fun H1 e Q q =>
  h H1 e _ fun H2 e2 => ⟨v, .ty c, _, _, b, rfl, .ty c, tyx_mono ty (e.trans e2), kit_ty kb, q H2 e2⟩
def spWhole (K : PySem.W.Frag) : Sp := fun vs H Q _ => ∃ (v : V) (t : String) (b1 b2 : Bool), vs = [v] ∧ TyX K H v (.type t) ∧ kitB t "int" = some b1 ∧ kitB t "bool" = some b2 ∧ ∀ H', Ex H H' → Q (.bl (b1 && !b2)) H'
theorem ev_whole {b1 b2 : Bool} (h : Ev ta σ H v) (ty : TyX K H v (.type t)) (k1 : kitB t "int" = some b1) (k2 : kitB t "bool" = some b2) : Ev (tCall (spWhole K) [] E (tCons ta tNil)) σ H (.bl (b1 && !b2)) := fun H1 e Q q =>
  h H1 e _ fun H2 e2 => ⟨v, t, b1, b2, rfl, tyx_mono ty (e.trans e2), k1, k2, fun H' e3 => q H' (e2.trans e3)⟩
theorem kit_ii : kitB "int" "int" = some true := by decide +kernel
theorem kit_ib : kitB "int" "bool" = some false := by decide +kernel
theorem kit_tt : kitB "tuple" "tuple" = some true := by decide +kernel
theorem ty_int (i : Int) : TyX K H (.int i) (.type "int") := .base (.int i)
theorem ev_wholeI {i : Int} (h : Ev ta σ H (.int i)) : Ev (tCall (spWhole K) [] E (tCons ta tNil)) σ H (.bl true) := ev_whole h (ty_int i) kit_ii kit_ib
theorem ty_tup {p : Addr} {xs : List V} (h : SqT K H p xs) : TyX K H (.ref p) (.type "tuple") := by
  rcases h with (h | ⟨o, h⟩) | ⟨o, its, n, e, c, _⟩
  · exact .base (.tup h)
  · exact .fTuple h
  · exact .kTuple e c
end
def spFrac (K : PySem.W.Frag) : Sp := fun vs H Q _ => ∃ (a b : Int) (B : Nat), vs = [.int a, .int b] ∧ b ≠ 0 ∧ a.natAbs < 2 ^ B ∧ b.natAbs < 2 ^ B ∧ 0 < B ∧ B ≤ 9000 ∧ ∀ v H', Ex H H' → Rt K H' v (Rat.divInt a b) → Q v H'
def spIsF (K : PySem.W.Frag) : Sp := fun vs H Q _ => ∃ (v : V) (x : Rat), vs = [v] ∧ Rt K H v x ∧ ∀ H', Ex H H' → Q (.bl true) H'
/-- fractions in a list -/
inductive RtAll (K : PySem.W.Frag) (H : Hp) : List V → List Rat → Prop
  | nil : RtAll K H [] []
  | cons {v : V} {vs : List V} {x : Rat} {xs : List Rat} : Rt K H v x → RtAll K H vs xs → RtAll K H (v :: vs) (x :: xs)
theorem RtAll.mono {K : PySem.W.Frag} {H H1 : Hp} (e : Ex H H1) : ∀ {vs : List V} {xs : List Rat}, RtAll K H vs xs → RtAll K H1 vs xs
  | _, _, .nil => .nil
  | _, _, .cons h t => .cons (h.mono e) (RtAll.mono e t)
theorem RtAll.get {K : PySem.W.Frag} {H : Hp} : ∀ {vs : List V} {xs : List Rat} {i : Nat} {v : V}, RtAll K H vs xs → vs[i]? = some v → ∃ x, xs[i]? = some x ∧ Rt K H v x
  | _, _, _, _, .nil, e => by simp at e
  | _, _, 0, _, .cons h _, e => by
    have e' := Option.some.inj e
    subst e'
    exact ⟨_, rfl, h⟩
  | _, _, i + 1, _, .cons _ t, e => RtAll.get (i := i) t e
theorem RtAll.length {K : PySem.W.Frag} {H : Hp} : ∀ {vs : List V} {xs : List Rat}, RtAll K H vs xs → vs.length = xs.length
  | _, _, .nil => rfl
  | _, _, .cons _ t => congrArg Nat.succ (RtAll.length t)
def sumF (x0 : Rat) (xs : List Rat) : Rat := xs.foldl (· + ·) x0
theorem sumF_take {x0 x : Rat} {xs : List Rat} {i : Nat} (h : xs[i]? = some x) : sumF x0 (xs.take (i + 1)) = sumF x0 (xs.take i) + x := by
  unfold sumF
  rw [List.take_add_one, h, List.foldl_append]
  rfl
/-- one summand after another -/
theorem Sz.addAB {A B : Nat} {x y : Rat} (hx : Sz A x) (hy : Sz B y) : Sz (A + B + 1) (x + y) := by
  rw [add_rt]
  exact sz_div (bits_add (bits_mul hx.num hy.den) (bits_up (bits_mul hy.num hx.den) (by omega))) (bits_up (bits_mul hx.den hy.den) (by omega)) (den_mul0 x y)
theorem sz_sum {B : Nat} {x0 : Rat} {xs : List Rat} (h0 : Sz B x0) (hs : ∀ x ∈ xs, Sz B x) : ∀ i, i ≤ xs.length → Sz ((i + 1) * (B + 1)) (sumF x0 (xs.take i))
  | 0, _ => by
    refine Sz.mono (A := B) ?_ (by omega)
    exact h0
  | i + 1, h => by
    have hi : i < xs.length := by omega
    rw [sumF_take (List.getElem?_eq_getElem hi)]
    refine Sz.mono ((sz_sum h0 hs i (by omega)).addAB (hs _ (List.getElem_mem hi))) ?_
    rw [Nat.succ_mul (i + 1)]
    omega
def spTot (K : PySem.W.Frag) : Sp := fun vs H Q _ => ∃ (a : Addr) (us : List V) (xs : List Rat) (w : V) (x0 : Rat) (B : Nat), vs = [.ref a, w] ∧ SqL K H a us ∧ RtAll K H us xs ∧ ((w = .non ∧ x0 = 0) ∨ Rt K H w x0) ∧ Sz B x0 ∧ (∀ x ∈ xs, Sz B x) ∧
  (xs.length + 2) * (B + 1) ≤ 4000 ∧ ∀ u H', Ex H H' → Rt K H' u (sumF x0 xs) → Q u H'
end NF

namespace NF
open PySem PySem.Spec PyProof.Rows L2 Evl
/-! ### [..].count(True) -/
theorem vals_bl : ∀ {bs : List Bool} {its : List Value}, Vals (bs.map V.bl) its → its = bs.map Value.bool
  | [], _, .nil => rfl
  | b :: bs, _, .cons r t => by
    have e : _ = Value.bool b := r
    rw [e, vals_bl t]
    rfl
def rCntB (K : PySem.W.Frag) : V → List V → Hp → VK → Prop := fun x xs H Q => ∃ (p : Addr) (bs : List Bool) (k : Bool), x = .ref p ∧ xs = [.bl k] ∧ SqL K H p (bs.map V.bl) ∧ Q (.int (bs.count k : Nat)) H
theorem mt_countB {X : Cx} : MtR X "list.count" (rCntB X.K) := by
  intro pins s σ H x xs v us Q I rx rxs h
  obtain ⟨p, bs, k, rfl, rfl, hs, q⟩ := h
  cases rx
  obtain ⟨u, rfl, ru⟩ := rxs.one
  cases (show u = Value.bool k from ru)
  obtain ⟨its, rv, ⟨⟨cls, dd, data, sl⟩, n, ho, hc, hdn, hd⟩, hlen⟩ := I.list hs
  simp only at hc hd
  subst hc hd
  have hi := vals_bl rv
  subst hi
  refine call_meets PySem.F.slot_list_count ⟨_, ho, rfl⟩ PySem.F.entry_list_count (PySem.F.args_list_count_2 _ _)
    (SeqAt.list_countAt p (bs.map Value.bool).toArray n dd sl (.bool k) (isBoolOf k)) ⟨ho, fun y hy => ?_, ?_⟩
  · have hy' : y ∈ bs.map Value.bool := by simpa using hy
    obtain ⟨b, _, rfl⟩ := List.mem_map.mp hy'
    exact SeqAt.EqAt.bool_bool b k
  · have ec : (bs.map Value.bool).toArray.toList.countP (isBoolOf k) = bs.count k := by
      show (bs.map Value.bool).countP (isBoolOf k) = bs.count k
      rw [List.countP_map, List.count]
      rfl
    refine ⟨.int (bs.count k : Nat), H, I.tok _, ⟨s.toks, ?_⟩, q⟩
    rw [ec]
/-! ### the law's state: a list of two ints and a truth -/
def Exs (st : Addr) (H H' : Hp) : Prop := ∀ b o, b ≠ st → H b = some o → H' b = some o
theorem Exs.refl (st : Addr) (H : Hp) : Exs st H H := fun _ _ _ h => h
theorem Exs.trans {st : Addr} {H H1 H2 : Hp} (a : Exs st H H1) (b : Exs st H1 H2) : Exs st H H2 := fun c o n h => b c o n (a c o n h)
theorem Exs.of {st : Addr} {H H1 : Hp} (e : Ex H H1) : Exs st H H1 := fun c o _ h => e c o h
theorem Exs.upd {st : Addr} {H : Hp} {o : HO} : Exs st H (upd H st o) := fun c u n h => by rw [upd_ne n]; exact h
def StA (st : Addr) (H : Hp) : Prop := ∃ (n m : Int) (c : Bool), H st = some (.lst [.int n, .int m, .bl c])
theorem StA.mono {st : Addr} {H H1 : Hp} (e : Ex H H1) (h : StA st H) : StA st H1 := by
  obtain ⟨n, m, c, h⟩ := h
  exact ⟨n, m, c, e _ _ h⟩
/-- what is no list of the state's stays -/
theorem Exs.lst {K : PySem.W.Frag} {st a : Addr} {H H1 : Hp} {xs : List V} (e : Exs st H H1) (n : a ≠ st) (h : SqL K H a xs) : SqL K H1 a xs := by
  rcases h with (h | ⟨o, h⟩) | h
  · exact .inl (.inl (e _ _ n h))
  · exact .inl (.inr ⟨o, e _ _ n h⟩)
  · exact .inr h
theorem Exs.tup {K : PySem.W.Frag} {st a : Addr} {H H1 : Hp} {xs : List V} (e : Exs st H H1) (hs : StA st H) (h : SqT K H a xs) : SqT K H1 a xs := by
  obtain ⟨n, m, c, hs⟩ := hs
  rcases h with (h | ⟨o, h⟩) | h
  · exact .inl (.inl (e _ _ (ne_of h hs (fun z => by cases z)) h))
  · exact .inl (.inr ⟨o, e _ _ (ne_of h hs (fun z => by cases z)) h⟩)
  · exact .inr h
theorem Rt.exs {K : PySem.W.Frag} {st : Addr} {H H1 : Hp} {v : V} {x : Rat} (r : Rt K H v x) (e : Exs st H H1) (hs : StA st H) : Rt K H1 v x := by
  obtain ⟨p, e1, h⟩ := r
  exact ⟨p, e1, e.tup hs h⟩
def spBegun (K : PySem.W.Frag) : Sp := fun vs H Q _ => ∃ (a : Addr) (ns : List Int) (k : Nat), vs = [.ref a, .int (k : Int)] ∧ SqL K H a (ns.map V.int) ∧ ns.length ≤ 1000 ∧ k ≤ 1000 ∧ ∀ st H', H st = none → Ex H H' → StA st H' → Q (.ref st) H'
def spTake : Sp := fun vs H Q _ => ∃ (st : Addr) (many : Int), vs = [.ref st, .int many] ∧ StA st H ∧ 0 < many ∧ many.natAbs < 2 ^ 8000 ∧ ∀ d H', 0 ≤ d → d < many → StA st H' → Exs st H H' → Q (.int d) H'
theorem take_call {st : Addr} {many : Int} {H : Hp} {Q : VK} {E : XK} (hs : StA st H) (h0 : 0 < many) (hm : many.natAbs < 2 ^ 8000) (q : ∀ d H', 0 ≤ d → d < many → StA st H' → Exs st H H' → Q (.int d) H') : spTake [.ref st, .int many] H Q E := ⟨st, many, rfl, hs, h0, hm, q⟩
theorem small_bits {i : Int} (h0 : 0 ≤ i) (h : i ≤ 10 ^ 2000) : i.natAbs < 2 ^ 8000 := by
  have e : (10 : Int) ^ 2000 < 2 ^ 8000 := by decide +kernel
  have e2 : ((2 ^ 8000 : Nat) : Int) = (2 : Int) ^ 8000 := by decide +kernel
  omega
end NF

namespace NF
open PySem PySem.Spec PyProof.Rows L2 Evl
/-! ### promises that also know that no repr is under way (the layer's FnOk says nothing of guards, so repr of a tuple has no rule over it) -/
structure FnG (P : Program) (w : World) (K : PySem.W.Frag) (mg : Str → Option Value) (base : Heap) (CX : CXT) (k : Nat) (f : Addr) (fd : FuncData) (ps : List Str) (sp : Sp) : Prop where
  many : ∀ vs H Q E, sp vs H Q E → vs.length = ps.length
  goes : ∀ (A : Around) (out : List Env) (s : Shared) (H : Hp) (args : Args) (us : List Value) (vs : List V) (Q : VK) (E : XK), A.guards = some [] → Room k A → Env0 P w K mg base A out s H →
    BindsTo s fd args (ps.zip us) → Vals vs us → sp vs H Q E → codeAny (model P w) A (.call (.ref f) args) (CR CX out P w H s Q E) s
section
variable {P : Program} {w : World} {K : PySem.W.Frag} {mg : Str → Option Value} {base : Heap} {CX : CXT} {k j : Nat} {f : Addr} {fd : FuncData} {ps N : List Str} {sp : Sp}
theorem FnG.of (F : FnOk P w K mg base CX k f fd ps sp) : FnG P w K mg base CX k f fd ps sp :=
  ⟨F.len, fun A out s H args us vs Q E _ hr he hb hv hs => F.run A out s H args us vs Q E hr he hb hv hs⟩
theorem FnG.more (F : FnG P w K mg base CX k f fd ps sp) (h : k ≤ j) : FnG P w K mg base CX j f fd ps sp :=
  ⟨F.many, fun A out s H args us vs Q E g hr => F.goes A out s H args us vs Q E g (hr.mono h)⟩
/-- a def by its body, where no repr is under way -/
theorem fn_g {name qual : Str} {params : Arguments} {body : List Stmt} {scope : Scope} {dV kV doc pm cdv ct oc : Value} {an od : Option Addr} {osl : Array (Option Value)}
    (at_f : K.lookup f = some ⟨oc, od, .func (PySem.W.fnOf name qual params body scope dV kV doc pm an cdv ct), osl⟩) (code_f : PySem.W.codeIn K cdv qual = true) (S : FnScope N ps scope) (many : ∀ vs H Q E, sp vs H Q E → vs.length = ps.length)
    (walk : ∀ (A : Around) (out : List Env) (s : Shared) (H : Hp) (vs : List V) (Q : VK) (E : XK), A.guards = some [] → Room k (A.deeper (envOfC qual scope s.heap.objs.size f cdv)) → sp vs H Q E →
      ∃ t, PSs (cxOf CX P w K mg base N qual scope f cdv A out s H E) body t ∧ t { nx := fun _ G => Q .non G, rt := Q } (start N vs) H) : FnG P w K mg base CX (k + 1) f (PySem.W.fnOf name qual params body scope dV kV doc pm an cdv ct) ps sp := by
  constructor
  · exact many
  · intro A out s H args us vs Q E g hr he hb hv hs
    have kin := he.mod.kin.keeps fun b o e => (he.bs b o e).1
    have nol := he.mod.nolimit.keeps fun b o e => (he.bs b o e).1
    refine codeAny_call_function hr.depth (kin _ _ at_f) rfl S.co S.gen rfl (PySem.W.codeRec_of kin code_f) (hb _ _ _ _ ?_)
    refine wpAny_newFunctionEnv_cells S.kind ?_ ?_
    · rintro ⟨n, u⟩ hn
      exact (S.par n (List.of_mem_zip hn).1).imp id fun c => ⟨c, PySem.W.cellsFrom_some _ _ _ (.inl c)⟩
    · intro env e1 s1 x
      subst e1
      obtain ⟨t, d, q⟩ := walk A out s H vs Q E g (hr.deeper _) hs
      have I1 := inv_start (CX := CX) (E := E) S hr.hd he (many _ _ _ _ hs) hv x
      refine ⟨nol.keeps x.toInCall.keep, codeAny_func (wpAny_mono (d.run [] s1 (start N vs) H _ I1 q) ?_ fun _ _ z => z)⟩
      intro fl s2 z
      cases fl with
      | next =>
        obtain ⟨_, G, J, y⟩ := z
        exact ⟨.non, G, J.os, J.bare, J.base, J.hok, rfl, y⟩
      | ret u =>
        obtain ⟨v, _, G, J, rv, y⟩ := z
        exact ⟨v, G, J.os, J.bare, J.base, J.hok, rv, y⟩
      | brk => exact z.elim fun _ z => z.elim fun _ z => z.2.elim
      | cont => exact z.elim fun _ z => z.elim fun _ z => z.2.elim
end
/-- a def that is called, no repr under way -/
structure CaG (P : Program) (w : World) (K : PySem.W.Frag) (mg : Str → Option Value) (base : Heap) (CX : CXT) (k : Nat) (x : Str) (ps : List Str) (dvs : List V) (sp : Sp) : Prop where
  ex : ∃ (f : Addr) (fd : FuncData) (ds : List Value), FnG P w K mg base CX k f fd ps sp ∧ mg x = some (.ref f) ∧ PySem.W.keepIn K (.ref f) = true ∧ Binds K fd ps ds ∧ Vals dvs ds
theorem Cal.g {P : Program} {w : World} {K : PySem.W.Frag} {mg : Str → Option Value} {base : Heap} {k : Nat} {x : Str} {ps : List Str} {dvs : List V} {sp : Sp} (C : Cal P w K mg base k x ps dvs sp) : CaG P w K mg base CX0 k x ps dvs sp := by
  obtain ⟨f, fd, ds, F, r⟩ := C.ex
  exact ⟨f, fd, ds, .of F, r⟩
theorem caG_mk {P : Program} {w : World} {K : PySem.W.Frag} {mg : Str → Option Value} {base : Heap} {CX : CXT} {k : Nat} {x : Str} {ps : List Str} {dvs : List V} {sp : Sp} {f : Addr} {fd : FuncData} {ds : List Value} (h : FnG P w K mg base CX k f fd ps sp) (m : mg x = some (.ref f)) (kp : PySem.W.keepIn K (.ref f) = true)
    (b : Binds K fd ps ds) (d : Vals dvs ds) : CaG P w K mg base CX k x ps dvs sp := ⟨⟨f, fd, ds, h, m, kp, b, d⟩⟩
section
variable {X : Cx} {CX : CXT} {j k : Nat} {f : Addr} {fd : FuncData} {ps : List Str} {sp : Sp} {dvs : List V} {ds : List Value} {E : XK} {x : Str} {p pos : Pos} {e : Expr} {es : List Expr} {t : TA}
theorem run_g {pins : List (Addr × Obj)} {σ : L2.St} {H : Hp} {s : Shared} {Q : VK} {us : List Value} {vs : List V} (F : FnG X.prog X.w X.K X.mg X.base CX k f fd ps sp) (g : X.A.guards = some []) (hr : Room k X.A) (b : Binds X.K fd ps ds) (d : Vals dvs ds) (out : Passes CX X E)
    (I : Inv X pins σ H s) (v : Vals vs us) (h : sp (vs ++ dvs) H Q E) : wpAny (model X.prog X.w) X.A (call (.ref f) us) (EP X pins σ Q) X.xe s := by
  have va := v.append d
  have le : (us ++ ds).length = ps.length := va.length.symm.trans (F.many _ _ _ _ h)
  refine wpAny_call (codeAny_mono (F.goes X.A X.stack s H ⟨us, []⟩ _ _ Q E g hr I.env0 (b s us I.kIn le) va h) ?_)
  intro r s2 z
  match r, z with
  | .error y, z => exact out pins σ H s y s2 I z
  | .ok (.ret u), z => exact I.after z
theorem pe_caX (C : CaG X.prog X.w X.K X.mg X.base CX k x ps dvs sp) (g : X.A.guards = some []) (hr : Room j X.A) (hk : k ≤ j) (gl : Gl X x) (out : Passes CX X E) (ha : PA X (e :: es) t) (db : (x == ("__debug__" : Str)) = false := by decide)
    (he : starEach (e :: es) X.env = (false, eval e X.env) :: starEach es X.env := by rfl) (pl : (backTo pos (starEach es X.env)).any (·.1) = false := by rfl) : PE X (.Call (.Name x p) (e :: es) [] pos) (tCall sp dvs E t) := by
  obtain ⟨f, fd, ds, F, hm, kp, b, d⟩ := C.ex
  constructor
  intro pins s σ H Q I h
  refine wpAny_Call_Name_kw (ld_glob I gl hm (PySem.W.callWith_K (h₀ := X.base) I.ok.mod.kin kp (thn (ha.run pos pins s σ H _ I h) ?_) he pl) db)
  rintro us s1 ⟨vs, G, J, r, q⟩
  exact ⟨J.kIn, run_g F g (hr.mono hk) b d out J r q⟩
theorem pe_caG (C : CaG X.prog X.w X.K X.mg X.base CX0 k x ps dvs sp) (g : X.A.guards = some []) (hr : Room j X.A) (hk : k ≤ j) (gl : Gl X x) (ha : PA X (e :: es) t) (db : (x == ("__debug__" : Str)) = false := by decide)
    (he : starEach (e :: es) X.env = (false, eval e X.env) :: starEach es X.env := by rfl) (pl : (backTo pos (starEach es X.env)).any (·.1) = false := by rfl) : PE X (.Call (.Name x p) (e :: es) [] pos) (tCall sp dvs E0 t) := pe_caX C g hr hk gl pass0 ha db he pl
end
theorem Fun.okG {P : Program} {w : World} {K : PySem.W.Frag} {mg : Str → Option Value} {base : Heap} {x qual : Str} {st : Stmt} {f : Addr} {fd : FuncData} {N ps : List Str} {k : Nat} {sp : Sp} (F : L2.Fun K x qual st f fd) (S : FnScope N ps (defScope st)) (many : ∀ vs H Q E, sp vs H Q E → vs.length = ps.length)
    (walk : ∀ (cdv : Value) (A : Around) (out : List Env) (s : Shared) (H : Hp) (vs : List V) (Q : VK) (E : XK), A.guards = some [] → Room k (A.deeper (envOfC qual (defScope st) s.heap.objs.size f cdv)) → sp vs H Q E →
      ∃ t, PSs (cxOf CX0 P w K mg base N qual (defScope st) f cdv A out s H E).nox (defBody st) t ∧ t { nx := fun _ G => Q .non G, rt := Q } (start N vs) H) : FnG P w K mg base CX0 (k + 1) f fd ps sp := by
  obtain ⟨_, _, _, _, _, _, cdv, _, _, rfl, lk, hcd⟩ := F.ex
  exact fn_g lk hcd S many fun A out s H vs Q E g hr hs => (walk cdv A out s H vs Q E g hr hs).elim fun t z => ⟨t, z.1.nox, z.2⟩
end NF

namespace NF
open PySem PySem.Spec PyProof.Rows L2 Evl
/-! ### the end of a law row, from a promise that knows of guards -/
section
variable {P : Program} {w : World} {K : PySem.W.Frag} {mg mb : Str → Option Value} {CX : CXT} {k : Nat} {fa a : Addr} {fd : FuncData} {x : Str} {sp : Sp} {s₁ : Shared} {vs : List Value} {ns : List Int}
/-- the call, where the script alone may be tracked -/
theorem goes_from {H : Hp} (g : Heap) (KX : K.In g) (NX : g.Ns mainGlobals mg) (F : FnG P w K mg g CX k fa fd [x] sp) (hr : Room k callerA) (e0 : Env0 P w K mg g callerA [] s₁ H) (bd : ∀ (s : Shared) (u : Value), BindsTo s fd ⟨[u], []⟩ [(x, u)])
    (hO : Only H) (hsp : sp [.ref a] H (fun v _ => v = .bl true) fun _ _ _ => False) (hCX : ∀ H e s', CX [] H s₁ (fun _ _ _ => False) e s' → False) :
    codeAny (model P w) callerA (.call (.ref fa) ⟨[.ref a], []⟩) (fun r s' => r = .ok (.ret (.bool true)) ∧ OldK s₁.heap s'.heap ∧ s'.os = s₁.os ∧ AllBare s'.gens) s₁ := by
  refine codeAny_mono (F.goes callerA [] s₁ H ⟨[.ref a], []⟩ [.ref a] [.ref a] _ _ rfl hr e0 (bd s₁ _) (.cons rfl .nil) hsp) ?_
  intro r s2 z
  match r, z with
  | .error e, z => exact (hCX H e s2 z).elim
  | .ok (.ret u), z =>
    obtain ⟨v, G, h1, h2, un, ok2, rv, q⟩ := z
    cases (show v = .bl true from q)
    cases (show u = Value.bool true from rv)
    refine ⟨rfl, OldK.of_keep ?_, h1, h2⟩
    intro b o eb
    rcases hO b with n | ⟨ob, xs, y⟩
    · exact un.keep b o eb n (List.not_mem_nil) (List.not_mem_nil)
    · have y1 := (e0.hok b _ y).1
      have y2 := (ok2 b _ (un.frzs b ob _ y)).1
      rw [eb] at y1
      rw [y2, y1]
theorem law_goes (KX : K.In s₁.heap) (NX : s₁.heap.Ns mainGlobals mg) (BX : s₁.heap.Ns builtinsNs mb) (bb : ∀ x : Str, x ≠ "__name__" → mb x = bootBuiltins x) (nol : s₁.heap.NoLimit) (gn : s₁.gens = #[])
    (ea : s₁.heap.get? a = some { cls := .type "list", data := .seq vs.toArray }) (hi : IntsAre vs ns) (hl : ns.length ≤ sizeLine) (hr : Room k callerA)
    (F : ∀ base : Heap, K.In base → base.Ns mainGlobals mg → FnG P w K mg base CX k fa fd [x] sp) (bd : ∀ (s : Shared) (u : Value), BindsTo s fd ⟨[u], []⟩ [(x, u)])
    (hsp : ∀ H : Hp, Only H → SqL K H a (ns.map V.int) → sp [.ref a] H (fun v _ => v = .bl true) fun _ _ _ => False) (hCX : ∀ H e s', CX [] H s₁ (fun _ _ _ => False) e s' → False) :
    codeAny (model P w) callerA (.call (.ref fa) ⟨[.ref a], []⟩) (fun r s' => r = .ok (.ret (.bool true)) ∧ OldK s₁.heap s'.heap ∧ s'.os = s₁.os ∧ AllBare s'.gens) s₁ := by
  have rv := vals_ints hi
  by_cases inK : ∃ o, K.lookup a = some o
  · obtain ⟨o, lo⟩ := inK
    have eo := (KX a o lo).symm.trans ea
    cases eo
    have ok0 : HOk P w (fun _ => none) s₁.heap := fun _ _ z => nomatch (show (none : Option HO) = some _ from z)
    have m0 : Mod K mg s₁.heap := ⟨KX, NX, ⟨mb, BX, bb⟩, nol⟩
    exact goes_from s₁.heap KX NX (F _ KX NX) hr ⟨rfl, m0, fun b o e => ⟨e, rfl⟩, Nat.le_refl _, trivial, fun b z => absurd z List.not_mem_nil, ok0, .of_eq gn⟩ bd (fun _ => .inl rfl)
      (hsp _ (fun _ => .inl rfl) (.inr ⟨_, vs.toArray, _, lo, rfl, rfl, rfl, by rw [List.size_toArray, hi.length]; exact hl, rv⟩)) hCX
  · -- the script is tracked, known to the object
    have noK : K.lookup a = none := by
      cases c : K.lookup a with
      | none => rfl
      | some o => exact absurd ⟨o, c⟩ inK
    let H : Hp := fun b => if b = a then some (.frz { cls := .type "list", data := .seq vs.toArray } (.lst (ns.map V.int))) else none
    have Ha : H a = some (.frz { cls := .type "list", data := .seq vs.toArray } (.lst (ns.map V.int))) := if_pos rfl
    have Hn : ∀ {b}, b ≠ a → H b = none := fun n => if_neg n
    have hO : Only H := fun b => by
      by_cases c : b = a
      · exact .inr ⟨_, _, c ▸ Ha⟩
      · exact .inl (Hn c)
    have ok1 : HOk P w H s₁.heap := fun b u z => by
      by_cases c : b = a
      · subst c
        rw [Ha] at z
        cases z
        exact ⟨ea, by rw [List.length_map]; exact hl, vs, _, rv, ea⟩
      · rw [Hn c] at z
        cases z
    have up : ∀ {b o}, s₁.heap.get? b = some o → b ≠ a → (hidT s₁.heap H).get? b = some o := fun e n => hidT_get e (Hn n)
    have na : ∀ {b o es ep}, s₁.heap.get? b = some o → o.data = .dict es ep → b ≠ a := fun {b o es ep} e d c => by
      subst c
      rw [ea] at e
      cases e
      cases (show Data.seq vs.toArray _ = Data.dict es ep from d)
    have upN : ∀ {b m}, s₁.heap.Ns b m → (hidT s₁.heap H).Ns b m := fun ⟨o, es, ep, e, d, r⟩ => ⟨o, es, ep, up e (na e d), d, r⟩
    have KB : K.In (hidT s₁.heap H) := fun b o e => up (KX b o e) fun c => by
      rw [c, noK] at e
      cases e
    obtain ⟨mc, c1, c2⟩ := nol
    have m1 : Mod K mg (hidT s₁.heap H) := ⟨KB, upN NX, ⟨mb, upN BX, bb⟩, ⟨mc, upN c1, c2⟩⟩
    exact goes_from _ KB (upN NX) (F _ KB (upN NX)) hr ⟨rfl, m1, fun b o e => of_hidT e, Nat.le_of_eq (hidT_size _ _), trivial, fun b z => absurd z List.not_mem_nil, ok1, .of_eq gn⟩ bd hO (hsp H hO (.inl (.inr ⟨_, Ha⟩))) hCX
end
theorem walk_g {l : PySem.W.OpenLaw} {n k : Nat} {q : Program} {loose : List Str} {XP : (Str → Option Value) → Heap → Prop} {YP : World → Heap → Prop} {d : DefRec} {K : Params → PySem.W.Frag} {sp : World → Sp} {x : Str}
    (hn : l.most = some n) (hn2 : n ≤ sizeLine) (df : d.params.defaults = []) (hr : Room k callerA) (hY : ∀ (w : World) (h : Heap), YP w h → (K w.params).In h)
    (F : ∀ (w : World) (mg : Str → Option Value) (fa : Addr) (h : Heap), (K w.params).In h → h.Ns mainGlobals mg → mg d.name = some (.ref fa) →
      ∃ fd : FuncData, (∀ (s : Shared) (u : Value), BindsTo s fd ⟨[u], []⟩ [(x, u)]) ∧ ∀ base : Heap, (K w.params).In base → base.Ns mainGlobals mg → FnG l.prog w (K w.params) mg base CX0 k fa fd [x] (sp w))
    (hsp : ∀ (w : World) (H : Hp) (a : Addr) (ns : List Int), ns.length ≤ n → Only H → SqL (K w.params) H a (ns.map V.int) → sp w [.ref a] H (fun v _ => v = .bl true) fun _ _ _ => False) :
    PySem.W.WalkO q loose XP YP l.row.toRowW d [] (fun f vs => PySem.call f vs) := by
  refine Att.attach_call hn df ?_
  intro w s₀ s₁ mg mb fa o pm cd doc a vs ns G Y ho hd hcd hmg hobj hints hlen hg
  obtain ⟨fd, bd, hF⟩ := F w mg fa _ (hY w _ Y) G.T.g hmg
  exact law_goes (hY w _ Y) G.T.g G.T.b G.T.builtins G.T.nolimit hg hobj hints (Nat.le_trans hlen hn2) hr hF bd (fun H hO hS => hsp w H a ns hlen hO hS) fun _ _ _ z => z
end NF

namespace NF
open PySem PySem.Spec PyProof.Rows L2 Evl
/-! ### a caught exception that a local keeps beyond the suite -/
/-- an exception object of the class cls, raised and caught -/
def ExT (cls : Value) (d : Option Addr) (a : Addr) : HO := .ext fun h => ∃ (oe : Obj) (vs : Array Value), h.get? a = some oe ∧ Zc cls d oe ∧ oe.data = .fields vs
theorem exT_ok {P : Program} {w : World} {H : Hp} {h : Heap} {a : Addr} {cls : Value} {d : Option Addr} {oe : Obj} {vs : Array Value} (e : h.get? a = some oe) (z : Zc cls d oe) (dt : oe.data = .fields vs) : ObjOk P w H h a (ExT cls d a) :=
  ⟨⟨oe, vs, e, z, dt⟩, ⟨oe, e⟩, fun _ _ ⟨o1, v1, e1, z1, d1⟩ k => ⟨o1, v1, k _ e1, z1, d1⟩⟩
section
variable {X : Cx} {pins : List (Addr × Obj)} {σ : L2.St} {H : Hp} {s : Shared}
theorem Inv.track {a : Addr} {cls : Value} {d : Option Addr} {oe : Obj} {vs : Array Value} (I : Inv X pins σ H s) (na : H a = none) (ea : s.heap.get? a = some oe) (z : Zc cls d oe) (dt : oe.data = .fields vs)
    (fr : X.s_0.heap.get? a = none) (np : ∀ p ∈ X.pn ++ pins, p.1 ≠ a) (nL : a ≠ X.env.locals) : Inv X pins σ (upd H a (ExT cls d a)) s where
  ok := I.ok
  os := I.os
  bare := I.bare
  base := {
    keep := I.base.keep
    slot := I.base.slot
    free := fun b o e n x => by
      have nb : b ≠ a := fun c => by
        rw [c, fr] at e
        cases e
      rw [upd_ne nb]
      exact I.base.free b o e n x
    there := I.base.there
    tups := fun b xs e => by
      have e2 := I.base.tups b xs e
      rw [upd_ne (ne_of_none e2 na)]
      exact e2
    frzs := fun b o u e => by
      have e2 := I.base.frzs b o u e
      rw [upd_ne (ne_of_none e2 na)]
      exact e2
    tbls := fun b ps e => by
      obtain ⟨m, e2⟩ := I.base.tbls b ps e
      refine ⟨m, ?_⟩
      rw [upd_ne (ne_of_none e2 na)]
      exact e2 }
  loc := I.loc
  cell := I.cell
  free := by
    rw [upd_ne nL.symm]
    exact I.free
  freeC := fun x c e => by
    have nc : c ≠ a := fun q => by
      subst q
      obtain ⟨v, o, e1, e2⟩ := I.cell x c e
      rw [ea] at e1
      cases e1
      rw [dt] at e2
      cases e2
    rw [upd_ne nc]
    exact I.freeC x c e
  pin := fun p hp => by
    obtain ⟨p1, p2, p3⟩ := I.pin p hp
    refine ⟨p1, ?_, p3⟩
    rw [upd_ne (np p hp)]
    exact p2
  hok := fun b u e => by
    by_cases c : b = a
    · subst c
      rw [upd_same] at e
      cases e
      exact exT_ok ea z dt
    · rw [upd_ne c] at e
      refine (I.hok b u e).stay (fun _ _ _ q => q) (fun c q => ?_) (fun c xs q => ?_)
      · rw [upd_ne (ne_of_none q na)]
        exact q
      · rw [upd_ne (ne_of_none q na)]
        exact q
  len := I.len
end
/-- what 'except x as n' wishes of an exception of the body: it is caught; behind the suite it is tracked -/
def wKeep (K : PySem.W.Frag) (c : Value) (i : Nat) (ts : Addr → TS) (D : Ends) : WX := fun cls d σ H =>
  PySem.W.exmOne K cls c = some true ∧ ∀ a, H a = none → ts a { nx := fun σ' G => D.nx (σ'.set i none) (upd G a (ExT cls d a)), rt := fun _ _ => False, bk := fun _ _ => False, ct := fun _ _ => False } (σ.set i (some (.ref a))) H
section
variable {X : Cx} {x n : Str} {c : Value} {i : Nat} {body suite : List Stmt} {b₀ : Stmt} {np pos pos' : Pos} {tb : WX → TS} {ts : Addr → TS}
theorem ps_try_keep (stk : X.stack = X.env :: X.outer) (frm : X.env.frame = some X.env.locals) (nex : X.ex = []) (nd : X.N.Nodup) (hi : X.N[i]? = some n) (kn : X.env.kindOf n = some .local) (nm : Names X x c)
    (hb : ∀ (W : WX) (pn : List (Addr × Obj)) (xe : Value → Shared → Prop), Takes (X.tr pn xe) W → PassesOwn (model X.prog X.w) X.A X.env xe → PSs (X.tr pn xe) body (tb W))
    (hs : ∀ (a : Addr) (oe : Obj) (pn : List (Addr × Obj)), PSs (X.suite a ((a, oe) :: pn)) (b₀ :: suite) (ts a)) :
    PS X (.Try body [.ExceptHandler (some (.Name x np)) (some n) (b₀ :: suite) pos'] [] [] pos) (fun D σ H => tb (wKeep X.K c i ts D) D σ H) := by
  constructor
  intro pins s σ H D I h
  have ok := I.ok
  have frs0 : X.A.frames = some (X.env :: X.outer) := by rw [ok.frames, stk]
  refine wpAny_Try_except (wpAny_mono ((hb (wKeep X.K c i ts D) (X.pn ++ pins) _ ?caught PassesOwn.looking).run [] s σ H D (I.toTry _) h) ?_ fun _ _ z => z)
  case caught =>
    rintro u s2 ⟨a, B, sI, pins', σ', G, cls, d, rfl, J0, nb, up, sky, na, os2, bare2, hm, go⟩
    have J := J0.ofTry (pins := pins) ok
    rw [stk] at sky
    show wpAny (model X.prog X.w) X.A (noteFrame (.ref a) X.env) _ _ _
    refine Sky.land Zc.steady frs0 frm sky ?_
    intro h3 fl3 up3
    have J3 : Inv X pins σ' G { s2 with heap := h3 } := J.landed nb fl3.1 (up.trans up3) os2 bare2
    obtain ⟨o3, v3, e3, z3, d3⟩ := fl3.there
    have apart_ : a ∉ frs (X.env :: X.outer) := fun m => by
      obtain ⟨_, o', e', nf⟩ := fl3.2.2.1.mem m
      rw [e3] at e'
      cases e'
      exact nf _ d3
    have nL : a ≠ X.env.locals := fun q => apart_ (List.mem_filterMap.mpr ⟨X.env, List.mem_cons_self, by rw [frm, q]⟩)
    have nF : a ∉ X.fs := fun m => (List.mem_filterMap.mp m).elim fun e z => apart_ (List.mem_filterMap.mpr ⟨e, List.mem_cons_of_mem _ z.1, z.2⟩)
    have aB : B.get? a = none := fl3.2.1
    have toB : ∀ b o, sI.heap.get? b = some o → b ≠ X.env.locals → b ∉ X.fs → b ≠ a := fun b o e l f q => by
      have := nb b o e (fun m => by
        rw [stk] at m
        rcases List.mem_filterMap.mp m with ⟨ev, hv, q2⟩
        rcases List.mem_cons.mp hv with r | r
        · rw [r, frm] at q2
          exact l (Option.some.inj q2).symm
        · exact f (List.mem_filterMap.mpr ⟨ev, r, q2⟩))
      rw [q, aB] at this
      cases this
    have npn : ∀ p ∈ X.pn ++ pins, p.1 ≠ a := fun p hp => by
      obtain ⟨p1, _, p3, p4, _⟩ := J.pin p hp
      exact toB p.1 p.2 p1 p3 p4
    have fr0 : X.s_0.heap.get? a = none := by
      cases q : X.s_0.heap.get? a with
      | none => rfl
      | some o =>
        obtain ⟨o', e'⟩ := J.base.there a o q (by rw [nex]; exact List.not_mem_nil)
        exact absurd rfl (toB a o' e' nL nF)
    have S3 := J3.suite e3 d3 na nL nF
    refine wpAny_handleBy_cons (codeAny_handlers_test ?_) nofun
    have lt : PySem.W.Looks (model X.prog X.w) h3 (typeOf (.ref a)) cls := fun A Q E s k q => wpAny_typeOf_ref (k _ _ e3) (by rw [z3.1]; exact q)
    have ask : ∀ {Q E : Value → Shared → Prop}, Q c { s2 with heap := h3 } → wpAny (model X.prog X.w) (X.A.mark (some (.ref a))) (eval (.Name x np) X.env) Q E { s2 with heap := h3 } := fun q => by
      obtain ⟨g1, g2, g3⟩ := nm
      rcases g3 with g3 | ⟨g3, g4, g5⟩
      · exact ld_glob (X := X.suite a ((a, o3) :: (X.pn ++ pins))) S3 g1 g3 q g2
      · exact ld_blt (X := X.suite a ((a, o3) :: (X.pn ++ pins))) S3 g1 g3 g4 q g5 g2
    refine ask ((PySem.W.exm_one (M := model X.prog X.w) J3.kIn lt hm).here (codeAny_handlers_suite_as (HandSPX.lands_againZ fl3 ?_)))
    intro h4 fl4 up4
    have J4 : Inv X pins σ' G { s2 with heap := h4 } := J.landed nb fl4.1 ((up.trans up3).trans up4) os2 bare2
    obtain ⟨o4, v4, e4, z4, d4⟩ := fl4.there
    refine store_ok (X := X.suite a ((a, o4) :: (X.pn ++ pins))) (v := .ref a) (J4.suite e4 d4 na nL nF) nd hi (.inl kn) rfl ?_ (.inr kn)
    intro s5 S5
    refine wpAny_mono ((hs a o4 (X.pn ++ pins)).run [] s5 _ G _ S5 (go a na)) ?_ fun _ _ q => q.elim
    intro f s6 w6
    match f, w6 with
    | .next, ⟨σ6, G6, S6, q6⟩ =>
      obtain ⟨a1, a2, _⟩ := S6.pin (a, o4) (List.mem_append_left _ List.mem_cons_self)
      exact gone_ok (Inv.track (S6.unsuite ok) a2 a1 z4 d4 fr0 npn nL) nd hi kn fun s7 J7 => ⟨_, _, J7, q6⟩
    | .brk, ⟨_, _, _, q6⟩ => exact q6.elim
    | .cont, ⟨_, _, _, q6⟩ => exact q6.elim
    | .ret u, ⟨_, _, _, _, _, q6⟩ => exact q6.elim
  · intro f s1 w1
    match f, w1 with
    | .next, ⟨σ1, H1, J1, q1⟩ => exact wpAny_execs_nil ⟨σ1, H1, J1.ofTry ok, q1⟩
    | .brk, ⟨σ1, H1, J1, q1⟩ => exact ⟨σ1, H1, J1.ofTry ok, q1⟩
    | .cont, ⟨σ1, H1, J1, q1⟩ => exact ⟨σ1, H1, J1.ofTry ok, q1⟩
    | .ret u, ⟨v1, σ1, H1, J1, r1, q1⟩ => exact ⟨v1, σ1, H1, J1.ofTry ok, r1, q1⟩
end
/-- isinstance(e, c) of an exception that is kept -/
def rIsX (K : PySem.W.Frag) : List V → Hp → VK → Prop := fun xs H Q => ∃ (a D : Addr) (c : V) (cv : Value) (b : Bool), xs = [.ref a, c] ∧ H a = some (ExT (.ref D) none a) ∧ ExcC K D ∧ (∀ u, RelV c u → u = cv) ∧ PySem.W.kitOne K (.ref D) cv = some b ∧ Q (.bl b) H
theorem call_isX {X : Cx} : CallR X (.builtin "isinstance") (rIsX X.K) := by
  intro pins s σ H xs us Q I r h
  obtain ⟨a, D, c, cv, b, rfl, hH, C, hcv, e, q⟩ := h
  obtain ⟨u1, u2, rfl, r1, r2⟩ := vals2 r
  cases (show u1 = Value.ref a from r1)
  cases hcv _ r2
  obtain ⟨⟨⟨oc, od, oda, osl⟩, vs, e1, ⟨z1, z2⟩, d1⟩, _⟩ := (show ObjOk X.prog X.w H s.heap a (ExT (.ref D) none a) from I.hok a _ hH)
  dsimp only at z1 z2 d1
  subst z1 z2 d1
  exact PySem.W.kia_one (PySem.W.handS_kitx_exc C.hg C.hk C.hs C.hd C.ha C.hn C.ht C.hm) I.kIn ⟨e1, rfl, rfl, trivial⟩ e (fun z => nomatch z) fun tk => ⟨.bl b, H, I.kept (t' := tk) fun _ _ z => z, rfl, q⟩
end NF

namespace NF
open PySem PySem.Spec PyProof.Rows L2 Evl
/-! ### repr of data -/
def Fine (d : PyData) : Prop := d.showable = true ∧ d.hasDict = false ∧ d.depth ≤ 20 ∧ d.shown.length ≤ sizeLine
def rRep (K : PySem.W.Frag) : List V → Hp → VK → Prop := fun xs H Q => ∃ (x : V) (d : PyData), xs = [x] ∧ Dp K H x d ∧ Fine d ∧ Q (.str d.shown) H
theorem call_rep {X : Cx} (gd : X.A.guards = some []) (hu : X.A.units + 64 < cLine) : CallR X (.builtin "repr") (rRep X.K) := by
  intro pins s σ H xs us Q I r h
  obtain ⟨x, d, rfl, hd, ⟨f1, f2, f3, f4⟩, q⟩ := h
  obtain ⟨u, rfl, ru⟩ := vals1 r
  obtain ⟨as, rd⟩ := Dp.reads I d x u hd ru
  cases rd with
  | none => exact PySem.P.repr_of_none ⟨.str _, H, I.tok _, ⟨_, rfl⟩, q⟩
  | bool b => exact PySem.P.repr_of_bool ⟨.str _, H, I.tok _, ⟨_, rfl⟩, q⟩
  | int i t => exact PySem.P.repr_of_int (by simpa only [PyData.showable, decide_eq_true_eq] using f1) ⟨.str _, H, I.tok _, ⟨_, rfl⟩, q⟩
  | str y t => exact PySem.P.repr_of_str ⟨.str _, H, I.tok _, ⟨_, rfl⟩, q⟩ f4
  | list a1 a2 a3 a4 => exact repr_of_reads' (.list a1 a2 a3 a4) f1 (fun z => by rw [f2] at z; cases z) gd (by omega) (fun _ _ z => z) (fun h' t tk hk => ⟨.str _, H, I.kept hk, ⟨t, rfl⟩, q⟩) f4
  | tuple a1 a2 a3 a4 => exact repr_of_reads' (.tuple a1 a2 a3 a4) f1 (fun z => by rw [f2] at z; cases z) gd (by omega) (fun _ _ z => z) (fun h' t tk hk => ⟨.str _, H, I.kept hk, ⟨t, rfl⟩, q⟩) f4
  | dict a1 a2 a3 a4 a5 => cases hd
/-! ### data that is fine to show -/
def FineN (n : Nat) (d : PyData) : Prop := d.showable = true ∧ d.hasDict = false ∧ d.leavesShort 2000 = true ∧ d.weight ≤ n
theorem fine_of {n : Nat} {d : PyData} (h : FineN n d) (hn : n ≤ 4000) (hd : d.depth ≤ 20) : Fine d := by
  obtain ⟨h1, h2, h3, h4⟩ := h
  refine ⟨h1, h2, hd, ?_⟩
  have h5 := PyData.shown_le 2000 (by decide) d h3
  have h6 : (2000 + 2) * d.weight ≤ 2002 * 4000 := Nat.mul_le_mul_left _ (by omega)
  have h7 : 2002 * 4000 + 2000 ≤ sizeLine := by decide
  omega
theorem fineI {i : Int} (h : i.natAbs < 2 ^ 1900) : FineN 1900 (.int i) := by
  have hl : i.natAbs.log2 < 1900 := PySem.Flt.log2_lt_of (by decide) h
  refine ⟨?_, rfl, ?_, ?_⟩
  · simp only [PyData.showable, decide_eq_true_eq]
    omega
  · simp only [PyData.leavesShort, decide_eq_true_eq]
    show (Str.ofString (toString i)).length ≤ 2000
    have h1 := int_text_length_le (a := i) (k := 1900) (by decide) hl
    rw [PySem.ofString_length]
    omega
  · simp only [PyData.weight]
    split <;> omega
def fd (x : Rat) : PyData := .tuple [.int x.num, .int x.den]
/-- the bits of a fraction as shown -/
theorem weightI {i : Int} {B : Nat} (h : i.natAbs < 2 ^ B) (h0 : 0 < B) : PyData.weight (.int i) ≤ B := by
  have hl : i.natAbs.log2 < B := PySem.Flt.log2_lt_of h0 h
  simp only [PyData.weight]
  split <;> omega
theorem fineF {B : Nat} {x : Rat} (h : Sz B x) (h0 : 0 < B) (hB : B ≤ 1900) : FineN (2 * B + 2) (fd x) := by
  obtain ⟨a1, a2, a3, _⟩ := fineI (bits_up h.num hB)
  obtain ⟨b1, b2, b3, _⟩ := fineI (bits_up h.den hB)
  have a4 := weightI h.num h0
  have b4 := weightI h.den h0
  refine ⟨?_, ?_, ?_, ?_⟩
  · simp only [fd, PyData.showable, PyData.showableAll] at *
    simp only [a1, b1]
    rfl
  · rfl
  · simp only [fd, PyData.leavesShort, PyData.leavesShortAll] at *
    simp only [a3, b3]
    rfl
  · simp only [fd, PyData.weight, PyData.weightAll] at *
    omega
theorem fineL {B : Nat} (h0 : 0 < B) (hB : B ≤ 1900) : ∀ {xs : List Rat}, (∀ x ∈ xs, Sz B x) → FineN (xs.length * (2 * B + 3)) (.list (xs.map fd)) ∧ (PyData.list (xs.map fd)).depth ≤ 2
  | [], _ => ⟨⟨rfl, rfl, rfl, Nat.zero_le _⟩, by show 1 ≤ 2; decide⟩
  | x :: xs, h => by
    obtain ⟨⟨a1, a2, a3, a4⟩, a5⟩ := fineL h0 hB (xs := xs) fun y hy => h y (List.mem_cons_of_mem _ hy)
    obtain ⟨b1, b2, b3, b4⟩ := fineF (h x (List.mem_cons_self ..)) h0 hB
    simp only [PyData.showable, PyData.hasDict, PyData.leavesShort, PyData.weight, PyData.depth, List.map_cons, PyData.showableAll, PyData.hasDictAll, PyData.leavesShortAll, PyData.weightAll, PyData.depthAll, FineN] at *
    refine ⟨⟨by rw [a1, b1]; rfl, by rw [a2, b2]; rfl, by rw [a3, b3]; rfl, ?_⟩, ?_⟩
    · rw [List.length_cons, Nat.succ_mul]
      omega
    · have : (fd x).depth ≤ 1 := by show 1 ≤ 1; decide
      omega
theorem fine_rt {B : Nat} {x : Rat} (h : Sz B x) (h0 : 0 < B) (hB : B ≤ 1900) : Fine (fd x) := fine_of (fineF h h0 hB) (by omega) (by show 1 ≤ 20; decide)
theorem fine_rts {B : Nat} {xs : List Rat} (h : ∀ x ∈ xs, Sz B x) (h0 : 0 < B) (hB : B ≤ 1900) (hn : xs.length * (2 * B + 3) ≤ 4000) : Fine (.list (xs.map fd)) := by
  obtain ⟨a, b⟩ := fineL h0 hB h
  exact fine_of a hn (by omega)
theorem fine_bl (b : Bool) : Fine (.bool b) := by cases b <;> exact ⟨rfl, rfl, by decide, by decide +kernel⟩
/-! ### what repr evaluates to -/
section
variable {K : PySem.W.Frag} {H H1 H2 : Hp} {σ : L2.St} {ta tb te tl : TE} {x y z : Rat} {v w u : V} {B : Nat} {E : XK}
theorem dp_rts : ∀ {us : List V} {xs : List Rat}, RtAll K H us xs → DpAll K H us (xs.map fd)
  | _, _, .nil => .nil
  | _, _, .cons h t => .cons (dp_rt h) (dp_rts t)
theorem ev_repF (h : EvF K ta σ H x) (sx : Sz B x) (h0 : 0 < B) (hB : B ≤ 1900) : Ev (tCB (rRep K) (tCons ta tNil)) σ H (.str (fd x).shown) := fun H1 e Q q =>
  h H1 e _ fun v H2 e2 r => ⟨v, fd x, rfl, dp_rt r, fine_rt sx h0 hB, q H2 e2⟩
theorem ev_repL {a : Addr} {us : List V} {xs : List Rat} (h : Ev ta σ H (.ref a)) (ha : SqL K H a us) (hx : RtAll K H us xs) (hf : Fine (.list (xs.map fd))) : Ev (tCB (rRep K) (tCons ta tNil)) σ H (.str (PyData.list (xs.map fd)).shown) := fun H1 e Q q =>
  h H1 e _ fun H2 e2 => ⟨_, _, rfl, .lst (ex_l (e.trans e2) ha) (dp_rts (hx.mono (e.trans e2))), hf, q H2 e2⟩
theorem ev_repB {b : Bool} (h : Ev ta σ H (.bl b)) : Ev (tCB (rRep K) (tCons ta tNil)) σ H (.str (PyData.bool b).shown) := fun H1 e Q q =>
  h H1 e _ fun H2 e2 => ⟨_, .bool b, rfl, .bl b, fine_bl b, q H2 e2⟩
/-- fractions made one after another, then a list of them -/
def EvFs (K : PySem.W.Frag) (tA : TA) (σ : L2.St) (H : Hp) (xs : List Rat) : Prop := ∀ H1, Ex H H1 → ∀ Q : List V → Hp → Prop, (∀ vs H2, Ex H1 H2 → RtAll K H2 vs xs → Q vs H2) → tA σ H1 Q
theorem efs_nil : EvFs K tNil σ H [] := fun H1 _ Q q => q [] H1 (Ex.refl H1) .nil
theorem efs_cons {tA : TA} {xs : List Rat} (h : EvF K ta σ H x) (hr : EvFs K tA σ H xs) : EvFs K (tCons ta tA) σ H (x :: xs) := fun H1 e Q q =>
  h H1 e _ fun v H2 e2 r => hr H2 (e.trans e2) _ fun vs H3 e3 rs => q (v :: vs) H3 (e2.trans e3) (.cons (r.mono e3) rs)
/-- such a list -/
def EvR (K : PySem.W.Frag) (te : TE) (σ : L2.St) (H : Hp) (xs : List Rat) : Prop := ∀ H1, Ex H H1 → ∀ Q : VK, (∀ p us H2, H1 p = none → Ex H1 H2 → H2 p = some (.lst us) → RtAll K H2 us xs → Q (.ref p) H2) → te σ H1 Q
theorem er_lst {tA : TA} {xs : List Rat} (h : EvFs K tA σ H xs) (hl : xs.length ≤ 100000) : EvR K (tLst tA) σ H xs := fun H1 e Q q =>
  h H1 e _ fun vs H2 e2 r => ⟨sz_of (by rw [r.length]; exact hl), fun p hp => q p vs _ (fresh_back e2 hp) (e2.trans (Ex.new hp)) upd_same (r.mono (Ex.new hp))⟩
end
/-! ### f(k = v, ..) -/
structure CaK (P : Program) (w : World) (K : PySem.W.Frag) (mg : Str → Option Value) (base : Heap) (k : Nat) (x : Str) (ps ks : List Str) (g : {α : Type} → List α → List α) (sp : Sp) : Prop where
  ex : ∃ (f : Addr) (fd : FuncData), FnG P w K mg base CX0 k f fd ps sp ∧ mg x = some (.ref f) ∧ PySem.W.keepIn K (.ref f) = true ∧ (∀ (s : Shared) (ws : List Value), K.In s.heap → ws.length = ks.length → BindsTo s fd ⟨[], ks.zip ws⟩ (ps.zip (g ws)))
  rel : ∀ {vs : List V} {us : List Value}, Vals vs us → Vals (g vs) (g us)
def tCallW (n : Nat) (sp : Sp) (g : {α : Type} → List α → List α) (E : XK) (tk : TA) : TE := fun σ H Q => tk σ H fun zs H2 => zs.length = n ∧ sp (g zs) H2 Q E
theorem pe_caK {X : Cx} {j k : Nat} {x : Str} {ps ks : List Str} {g : {α : Type} → List α → List α} {sp : Sp} {p pos : Pos} {kws : List Keyword} {tk : TA} (C : CaK X.prog X.w X.K X.mg X.base k x ps ks g sp) (gd : X.A.guards = some []) (hr : Room j X.A) (hk : k ≤ j) (gl : Gl X x) (hkw : PK X kws tk)
    (hall : (backToKw pos (keywordEach kws X.env)).all (·.1.isSome) = true := by rfl) (hks : (backToKw pos (keywordEach kws X.env)).filterMap (·.1) = ks := by rfl) (db : (x == ("__debug__" : Str)) = false := by decide)
    (pl : ((backTo pos (starEach [] X.env)).any (·.1) || (backToKw pos (keywordEach kws X.env)).any (·.1.isNone)) = false := by rfl) : PE X (.Call (.Name x p) [] kws pos) (tCallW ks.length sp g E0 tk) := by
  obtain ⟨f, fd, F, hm, kp, b⟩ := C.ex
  constructor
  intro pins s σ H Q I h
  refine wpAny_Call_Name_kw (ld_glob I gl hm (PySem.W.callWith_KW0 (h₀ := X.base) I.ok.mod.kin kp hall (thn (hkw.run pos pins s σ H _ I h) ?_) pl) db)
  rintro ws s1 ⟨zs, G, J, r, hl, q⟩
  refine ⟨J.kIn, ?_⟩
  rw [hks]
  refine wpAny_call (codeAny_mono (F.goes X.A X.stack s1 G ⟨[], ks.zip ws⟩ _ _ Q E0 gd (hr.mono hk) J.env0 (b s1 ws J.kIn (r.length.symm.trans hl)) (C.rel r) q) ?_)
  intro r2 s2 z
  match r2, z with
  | .error y, z => exact z.elim
  | .ok (.ret u), z => exact J.after z
end NF

namespace NF
open PySem PySem.Spec PyProof.Rows L2 Evl
def topS (i : Nat) : Stmt := PySem.Challenge.pw_neartwins_k01_fractions_made.main.body.getD i (.Pass ⟨0, 0, 0, 0⟩)
abbrev s_greatest_divisor : Stmt := topS 9
theorem sc_greatest_divisor : FnScope ["one", "other"] ["one", "other"] (defScope s_greatest_divisor) := ⟨rfl, rfl, rfl, by decide +kernel, rfl, by decide +kernel, by decide +kernel⟩
abbrev s_reduced : Stmt := topS 11
theorem sc_reduced : FnScope ["top", "bottom", "divisor"] ["top", "bottom"] (defScope s_reduced) := ⟨rfl, rfl, rfl, by decide +kernel, rfl, by decide +kernel, by decide +kernel⟩
section
variable {P : Program} {w : World} {K : PySem.W.Frag} {mg : Str → Option Value} {base : Heap} {f : Addr} {fd : FuncData}
theorem ok_gcd (F : Fun K "greatest_divisor" "greatest_divisor" s_greatest_divisor f fd) (n_abs : mg "abs" = none) : FnOk P w K mg base CX0 1 f fd ["one", "other"] spGcd := by
  refine F.ok sc_greatest_divisor (fun vs H Q E h => ?_) (fun cdv A outer s H vs Q E hr h => ?_)
  · obtain ⟨a, b, rfl, _⟩ := h
    rfl
  · obtain ⟨a, b, rfl, q⟩ := h
    refine ⟨_, (pss_cons (ps_while PassesOwn.never (pt_cmpR op_ne (pv 1) pe_int (nomark _)) (pss_one (ps_par (i := 0) (j := 1) (by rfl) sc_greatest_divisor.nd rfl rfl (by decide) rfl rfl (pa_cons (pv 1) (pa_cons (pe_op op_modN (pv 0) (pv 1)) pa_nil)) (by rfl))))
      (pss_one (ps_ret (pe_callB call_abs (by rfl) n_abs PyProof.Rows.boot_abs (pa_cons (pv 0) pa_nil))))), ?_⟩
    refine q_while (fun m σ' H' => ∃ c d : Int, σ' = [some (.int c), some (.int d)] ∧ d.natAbs = m ∧ Int.gcd c d = Int.gcd a b ∧ Ex H H') b.natAbs ⟨a, b, rfl, rfl, rfl, Ex.refl H⟩ ?_
    rintro m σ' H' ⟨c, d, rfl, rfl, eg, ex⟩
    refine ⟨_, et_test (ev_op (ev_var rfl) ev_c (rv_ne rfl)), fun hb H1 e1 => ?_, fun hb H1 e1 => ?_⟩
    · have hd : d ≠ 0 := by
        intro z
        subst z
        simp at hb
      obtain ⟨g1, g2⟩ := gcd_step (a := c) hd
      refine ⟨fun σ2 H2 => ∃ c' d' : Int, σ2 = [some (.int c'), some (.int d')] ∧ d'.natAbs < d.natAbs ∧ Int.gcd c' d' = Int.gcd a b ∧ Ex H H2, ?_, ?_⟩
      · rintro σ2 H2 ⟨c', d', e, l, g, x⟩
        exact ⟨_, l, c', d', e, rfl, g, x⟩
      · exact s_par (ea_cons (ev_var rfl) (ea_cons (ev_op (ev_var rfl) (ev_var rfl) (rv_I hd)) ea_nil)) fun H2 e2 => ⟨d, c.fmod d, rfl, g2, by rw [g1, eg], (ex.trans e1).trans e2⟩
    · have hd : d = 0 := by
        by_cases z : d = 0
        · exact z
        · simp [z] at hb
      subst hd
      have ea : RC (fun xs H Q => ∃ i, xs = [V.int i] ∧ Q (V.int (if i < 0 then -i else i)) H) [V.int c] H1 (V.int (if c < 0 then -c else c)) := fun H1 _ Q' q' => ⟨c, rfl, q' H1 (Ex.refl H1)⟩
      refine s_ret (v := .int (Int.gcd a b)) (ev_is (ev_cb (ea_cons (ev_var rfl) ea_nil) ea) ?_) fun H2 e2 => q H2 ((ex.trans e1).trans e2)
      rw [← eg, Int.gcd_zero_right]
      congr 1
      split <;> omega
theorem ok_red (F : Fun K "reduced" "reduced" s_reduced f fd) (C_greatest_divisor : Cal P w K mg base 1 "greatest_divisor" ["one", "other"] [] spGcd) : FnOk P w K mg base CX0 2 f fd ["top", "bottom"] (spRed K) := by
  refine F.ok sc_reduced (fun vs H Q E h => ?_) (fun cdv A outer s H vs Q E hr h => ?_)
  · obtain ⟨a, b, _, rfl, _⟩ := h
    rfl
  · obtain ⟨a, b, B, rfl, hb0, ha, hb, hB0, hB, q⟩ := h
    refine ⟨_, (pss_cons (ps_set (i := 2) sc_reduced.nd rfl (.inl rfl) (pe_cal C_greatest_divisor hr (by decide) (by rfl) (pa_cons (pv 0) (pa_cons (pv 1) pa_nil))))
      (pss_cons (ps_if (pt_cmpR op_lt (pv 1) pe_int (nomark _)) (pss_one (ps_set (i := 2) sc_reduced.nd rfl (.inl rfl) (pe_un un_neg (pv 2)))) pss_nil)
      (pss_one (ps_ret (pe_tup (pa_cons (pe_op op_fdivX (pv 0) (pv 2)) (pa_cons (pe_op op_fdivX (pv 1) (pv 2)) pa_nil))))))), ?_⟩
    have hg : 0 < Int.gcd a b := Int.gcd_pos_of_ne_zero_right _ hb0
    have hgb : ((Int.gcd a b : Nat) : Int).natAbs < 2 ^ B := by
      have h1 : Int.gcd a b ≤ b.natAbs := Nat.le_of_dvd (by omega) (Int.gcd_dvd_natAbs_right a b)
      omega
    refine q_asg (ev_gcd (ev_var rfl) (ev_var rfl)) fun H1 e1 => ?_
    refine q_ifAsg (v := .int (if b < 0 then -(Int.gcd a b : Int) else Int.gcd a b)) (et_test (ev_op (ev_var rfl) ev_c rv_I0)) (fun hb => ?_) (fun hb => ?_) fun H2 e2 => ?_
    · have hl : b < 0 := of_decide_eq_true hb
      rw [if_pos hl]
      exact ev_un (ev_var rfl) ru_neg
    · have hl : ¬ b < 0 := of_decide_eq_false hb
      rw [if_neg hl]
      rfl
    · have hd0 : (if b < 0 then -(Int.gcd a b : Int) else Int.gcd a b) ≠ 0 := by split <;> omega
      have hdb : (if b < 0 then -(Int.gcd a b : Int) else Int.gcd a b).natAbs < 2 ^ B := by split <;> omega
      refine s_retU (eu_tup (ea_cons (ev_op (ev_var rfl) (ev_var rfl) (rv_I (divX hd0 hdb hB0 hB))) (ea_cons (ev_op (ev_var rfl) (ev_var rfl) (rv_I (divX hd0 hdb hB0 hB))) ea_nil)) (by show 2 ≤ 100000; decide)) fun p H3 _ e3 hp => ?_
      refine q _ _ ((e1.trans e2).trans e3) (Rt.of hp ?_ ?_)
      · by_cases hl : b < 0
        · rw [if_pos hl]
          exact (red_neg hl).1
        · rw [if_neg hl]
          exact (red_pos (by omega)).1
      · by_cases hl : b < 0
        · rw [if_pos hl]
          exact (red_neg hl).2
        · rw [if_neg hl]
          exact (red_pos (by omega)).2
end
end NF

namespace NF
open PySem PySem.Spec PyProof.Rows L2 Evl
abbrev s_is_whole : Stmt := topS 8
theorem sc_is_whole : FnScope ["thing"] ["thing"] (defScope s_is_whole) := ⟨rfl, rfl, rfl, by decide +kernel, rfl, by decide +kernel, by decide +kernel⟩
section
variable {P : Program} {w : World} {K : PySem.W.Frag} {mg : Str → Option Value} {base : Heap} {f : Addr} {fd : FuncData}
theorem ok_whole (F : Fun K "is_whole" "is_whole" s_is_whole f fd) (n_isinstance : mg "isinstance" = none) (n_int : mg "int" = none) (n_bool : mg "bool" = none) : FnOk P w K mg base CX0 1 f fd ["thing"] (spWhole K) := by
  refine F.ok sc_is_whole (fun vs H Q E h => ?_) (fun cdv A outer s H vs Q E hr h => ?_)
  · obtain ⟨_, _, _, _, rfl, _⟩ := h
    rfl
  · obtain ⟨v, t, b1, b2, rfl, ty, k1, k2, q⟩ := h
    refine ⟨_, (pss_one (ps_ret (pe_and (pe_callB call_isi (by rfl) n_isinstance PyProof.Rows.boot_isinstance (pa_cons (pv 0) (pa_cons (c_ty (n := "int") n_int (by rfl) (by decide +kernel) (by decide)) pa_nil))) (pe_one (pe_not (pe_callB call_isi (by rfl) n_isinstance PyProof.Rows.boot_isinstance (pa_cons (pv 0) (pa_cons (c_ty (n := "bool") n_bool (by rfl) (by decide +kernel) (by decide)) pa_nil)))))))), ?_⟩
    exact s_ret (ev_andV (ev_isi (ev_var rfl) ty k1) fun _ => ev_notV (ev_isi (ev_var rfl) ty k2)) q
end
end NF

namespace NF
open PySem PySem.Spec PyProof.Rows L2 Evl
abbrev s__law_begun : Stmt := topS 14
theorem sc__law_begun : FnScope ["_law_script", "_law_k", "_law_cell", "_law_number_here", "_law_mixed"] ["_law_script", "_law_k"] (defScope s__law_begun) := ⟨rfl, rfl, rfl, by decide +kernel, rfl, by decide +kernel, by decide +kernel⟩
abbrev s__law_take : Stmt := topS 15
theorem sc__law_take : FnScope ["_law_state", "_law_many", "_law_digit", "_law_made", "_law_turn"] ["_law_state", "_law_many"] (defScope s__law_take) := ⟨rfl, rfl, rfl, by decide +kernel, rfl, by decide +kernel, by decide +kernel⟩
section
variable {P : Program} {w : World} {K : PySem.W.Frag} {mg : Str → Option Value} {base : Heap} {f : Addr} {fd : FuncData}
theorem cell_ok (ns : List Int) (k : Nat) : ∃ c : Int, (cutV (ns.map V.int) (some (k : Int)) (some ((k : Int) + 1)) ++ [V.int 0])[0]? = some (.int c) := by
  have h : ∀ v ∈ cutV (ns.map V.int) (some (k : Int)) (some ((k : Int) + 1)), ∃ c, v = V.int c := by
    intro v hv
    have h1 : v ∈ ns.map V.int := List.mem_of_mem_drop (List.mem_of_mem_take hv)
    obtain ⟨c, _, e⟩ := List.mem_map.mp h1
    exact ⟨c, e.symm⟩
  cases e : cutV (ns.map V.int) (some (k : Int)) (some ((k : Int) + 1)) with
  | nil => exact ⟨0, rfl⟩
  | cons v r =>
    rw [e] at h
    obtain ⟨c, hc⟩ := h v (List.mem_cons_self ..)
    exact ⟨c, by rw [hc]; rfl⟩
theorem cut_len (xs : List V) (a b : Option Int) : (cutV xs a b).length ≤ xs.length := by
  unfold cutV
  rw [List.length_take, List.length_drop]
  omega
theorem ok_begun (F : Fun K "_law_begun" "_law_begun" s__law_begun f fd) (n_max : mg "max" = none) : FnOk P w K mg base CX0 1 f fd ["_law_script", "_law_k"] (spBegun K) := by
  refine F.ok sc__law_begun (fun vs H Q E h => ?_) (fun cdv A outer s H vs Q E hr h => ?_)
  · obtain ⟨_, _, _, rfl, _⟩ := h
    rfl
  · obtain ⟨a, ns, k, rfl, ha, hl, hk, q⟩ := h
    refine ⟨_, (pss_cons (ps_set (i := 2) sc__law_begun.nd rfl (.inl rfl) (pe_ix ix_list (pe_op op_cat (pe_slice sl_list (pv 0) (po_some (pv 1)) (po_some (pe_op op_add (pv 1) pe_int))) (pe_lst (pa_cons pe_int pa_nil))) pe_int (fun _ _ => rfl)))
      (pss_cons (ps_set (i := 3) sc__law_begun.nd rfl (.inl rfl) (pe_callB (call_max2 rfl) (by rfl) n_max PyProof.Rows.boot_max (pa_cons (pv 2) (pa_cons (pe_op op_sub (pe_un un_neg pe_int) (pv 2)) pa_nil))))
      (pss_cons (ps_set (i := 4) sc__law_begun.nd rfl (.inl rfl) (pe_op op_modN (pe_op op_add (pe_op op_add (pe_op op_add (pe_op op_modN (pv 3) pe_int) (pe_op op_mul pe_int (pv 1))) (pe_op op_mul (pe_op op_mul pe_int (pv 1)) (pv 1))) pe_int) pe_int))
      (pss_one (ps_ret (pe_lst (pa_cons (pv 3) (pa_cons (pv 4) (pa_cons (pe_cmpR op_ge (pv 3) (pe_op op_pow pe_int pe_int) (nomark _)) pa_nil))))))))), ?_⟩
    obtain ⟨c, hc⟩ := cell_ok ns k
    have hlen := cut_len (ns.map V.int) (some (k : Int)) (some ((k : Int) + 1))
    rw [List.length_map] at hlen
    have e1 : Ev (tOp (rIxL K) (tOp rCat (tSl (rSlL K) (tVar 0) (tPart (tVar 1)) (tPart (tOp (rI0 fun i j => .int (i + j)) (tVar 1) (tC (.int 1))))) (tLst (tCons (tC (.int 0)) tNil))) (tC (.int 0))) (start ["_law_script", "_law_k", "_law_cell", "_law_number_here", "_law_mixed"] [.ref a, .int (k : Int)]) H (.int c) := by
      intro H1 x1 Q' q'
      refine el_sl (ev_var rfl) (eo_some (ev_var rfl)) (eo_some (ev_op (ev_var rfl) ev_c rv_I0)) ha H1 x1 _ fun p H2 np x2 hp => ?_
      refine el_lst (H := H2) (ea_cons ev_c ea_nil) (by show 1 ≤ 100000; decide) H2 (Ex.refl H2) _ fun r H3 nr x3 h3 => ?_
      refine ⟨p, r, _, _, rfl, rfl, x3 _ _ hp, h3, sz_of (by show (cutV (ns.map V.int) (some (k : Int)) (some ((k : Int) + 1))).length + 1 ≤ 100000; omega), fun t nt => ?_⟩
      exact ⟨t, _, 0, .int c, rfl, rfl, SqL.of upd_same, atI_nat (j := 0) hc, q' _ ((x2.trans x3).trans (Ex.new nt))⟩
    refine q_asg e1 fun H1 x1 => ?_
    refine q_asg (ev_max2 (ev_var rfl) (ev_op (ev_un ev_c ru_neg) (ev_var rfl) rv_I0)) fun H2 x2 => ?_
    refine q_asg (ev_op (ev_op (ev_op (ev_op (ev_op (ev_var rfl) ev_c (rv_I (by decide))) (ev_op ev_c (ev_var rfl) (rv_I (.inl ⟨by decide, by decide⟩))) rv_I0)
      (ev_op (ev_op ev_c (ev_var rfl) (rv_I (.inl ⟨by decide, by decide⟩))) (ev_var rfl) (rv_I (.inr ⟨by omega, by omega⟩))) rv_I0) ev_c rv_I0) ev_c (rv_I (by decide))) fun H3 x3 => ?_
    refine s_retL (el_lst (ea_cons (ev_var rfl) (ea_cons (ev_var rfl) (ea_cons (ev_op (ev_var rfl) (ev_op ev_c ev_c (rv_I ⟨by decide, by decide, by decide⟩)) rv_I0) ea_nil))) (by show 3 ≤ 100000; decide)) fun p H4 np x4 hp => ?_
    exact q p H4 (fresh_back ((x1.trans x2).trans x3) np) (((x1.trans x2).trans x3).trans x4) ⟨_, _, _, hp⟩
theorem ok_take (F : Fun K "_law_take" "_law_take" s__law_take f fd) (n_int : mg "int" = none) (n_range : mg "range" = none) : FnOk P w K mg base CX0 1 f fd ["_law_state", "_law_many"] spTake := by
  refine F.ok sc__law_take (fun vs H Q E h => ?_) (fun cdv A outer s H vs Q E hr h => ?_)
  · obtain ⟨_, _, rfl, _⟩ := h
    rfl
  · obtain ⟨st, many, rfl, ⟨n, m, c, hs⟩, h0, hm, q⟩ := h
    refine ⟨_, (pss_cons (ps_if (pt_val (pe_ix ix_list (pv 0) pe_int (fun _ _ => rfl))) (pss_cons (ps_set (i := 2) sc__law_take.nd rfl (.inl rfl) (pe_op op_modN (pe_ix ix_list (pv 0) pe_int (fun _ _ => rfl)) (pv 1)))
      (pss_cons (ps_asg (pe_op op_fdivX (pe_ix ix_list (pv 0) pe_int (fun _ _ => rfl)) (pv 1)) (pg_sub (pv 0) pe_int set_list))
      (pss_cons (ps_asg (pe_cmpR op_gt (pe_ix ix_list (pv 0) pe_int (fun _ _ => rfl)) pe_int (nomark _)) (pg_sub (pv 0) pe_int set_list))
      (pss_one (ps_ret (pv 2)))))) pss_nil)
      (pss_cons (ps_set (i := 3) sc__law_take.nd rfl (.inl rfl) pe_int)
      (pss_cons (ps_for PassesOwn.never rfl (pi_range1 (by rfl) n_range (pa_cons (pe_op op_add pe_int (pe_callTy call_int1 (by rfl) n_int PyProof.Rows.boot_int (pa_cons (pe_cmpR op_gt (pv 1) (pe_op op_pow pe_int pe_int) (nomark _)) pa_nil))) pa_nil)) (pg_name (i := 4) sc__law_take.nd rfl (.inl rfl)) (pss_cons (ps_asg (pe_op op_modN (pe_op op_add (pe_op op_mul (pe_ix ix_list (pv 0) pe_int (fun _ _ => rfl)) pe_int) pe_int) pe_int) (pg_sub (pv 0) pe_int set_list))
      (pss_one (ps_set (i := 3) sc__law_take.nd rfl (.inl rfl) (pe_op op_add (pe_op op_mul (pv 3) pe_int) (pe_op op_modN (pe_op op_mul (pe_ix ix_list (pv 0) pe_int (fun _ _ => rfl)) (pe_ix ix_list (pv 0) pe_int (fun _ _ => rfl))) pe_int))))))
      (pss_one (ps_ret (pe_op op_modN (pe_op op_fdivX (pv 3) pe_int) (pv 1))))))), ?_⟩
    have i0 : ∀ {σ : L2.St} {H : Hp} {a b c : V}, σ[0]? = some (some (.ref st)) → H st = some (.lst [a, b, c]) → Ev (tOp (rIxL K) (tVar 0) (tC (.int 0))) σ H a := fun hσ h => ev_op (ev_var hσ) ev_c (rv_ixL (SqL.of h) (atI_nat (j := 0) rfl))
    have i1 : ∀ {σ : L2.St} {H : Hp} {a b c : V}, σ[0]? = some (some (.ref st)) → H st = some (.lst [a, b, c]) → Ev (tOp (rIxL K) (tVar 0) (tC (.int 1))) σ H b := fun hσ h => ev_op (ev_var hσ) ev_c (rv_ixL (SqL.of h) (atI_nat (j := 1) rfl))
    have i2 : ∀ {σ : L2.St} {H : Hp} {a b c : V}, σ[0]? = some (some (.ref st)) → H st = some (.lst [a, b, c]) → Ev (tOp (rIxL K) (tVar 0) (tC (.int 2))) σ H c := fun hσ h => ev_op (ev_var hσ) ev_c (rv_ixL (SqL.of h) (atI_nat (j := 2) rfl))
    refine q_when (et_B (i2 rfl hs)) (fun hb H1 x1 => ?_) fun hb H1 x1 => ?_
    · refine q_asg (ev_op (i0 rfl (x1 _ _ hs)) (ev_var rfl) (rv_I (Int.ne_of_gt h0))) fun H2 x2 => ?_
      refine q_setL (j := 0) ((x1.trans x2) _ _ hs) (ev_op (i0 rfl ((x1.trans x2) _ _ hs)) (ev_var rfl) (rv_I (divX (Int.ne_of_gt h0) hm (by decide) (by decide)))) (ev_var rfl) ev_c (by show 0 < 3; decide) fun H3 x3 => ?_
      refine q_setL (j := 2) upd_same (ev_op (i0 rfl upd_same) ev_c rv_I0) (ev_var rfl) ev_c (by show 2 < 3; decide) fun H4 x4 => ?_
      have y3 : Exs st H (upd H3 st (.lst [.int (n.fdiv many), .int m, .bl c])) := (Exs.of ((x1.trans x2).trans x3)).trans Exs.upd
      exact s_ret (ev_var rfl) fun H5 x5 => q _ H5 (Int.fmod_nonneg_of_pos n h0) (Int.fmod_lt_of_pos n h0) ⟨_, _, _, x5 _ _ upd_same⟩ (((y3.trans (Exs.of x4)).trans Exs.upd).trans (Exs.of x5))
    · refine q_asg ev_c fun H2 x2 => ?_
      have en : RC (fun xs H Q => (∃ i, xs = [V.int i] ∧ Q (.int i) H) ∨ ∃ k, xs = [V.bl k] ∧ Q (.int (if k then 1 else 0)) H) [.bl (decide ((10 : Int) ^ (6 : Int).toNat < many))] H2 (.int (if decide ((10 : Int) ^ (6 : Int).toNat < many) = true then 1 else 0)) := fun H1 _ _ q => .inr ⟨_, rfl, q H1 (Ex.refl H1)⟩
      refine q_forR1 (n := 1 + (if decide ((10 : Int) ^ (6 : Int).toNat < many) = true then 1 else 0)) (ea_cons (ev_op ev_c (ev_cb (ea_cons (ev_op (ev_var rfl) (ev_op ev_c ev_c (rv_I ⟨by decide, by decide, by decide⟩)) rv_I0) ea_nil) en) rv_I0) ea_nil) (by split <;> omega)
        (fun i σ' H' => ∃ (g : Int) (y2 y4 : Option V), σ' = [some (.ref st), some (.int many), y2, some (.int g), y4] ∧ StA st H' ∧ Exs st H H') (fun H3 x3 => ⟨0, none, none, rfl, ⟨n, m, c, ((x1.trans x2).trans x3) _ _ hs⟩, Exs.of ((x1.trans x2).trans x3)⟩) ?_ ?_
      · rintro i σ' H' hi ⟨g, y2, y4, rfl, ⟨n', m', c', hs'⟩, x⟩
        have p0 : 0 ≤ (m' * 48271 + 11).fmod 2147483647 := Int.fmod_nonneg_of_pos _ (by decide)
        have p1 : (m' * 48271 + 11).fmod 2147483647 < 2147483647 := Int.fmod_lt_of_pos _ (by decide)
        refine q_setL (j := 1) hs' (ev_op (ev_op (ev_op (i1 rfl hs') ev_c (rv_I (.inr ⟨by decide, by decide⟩))) ev_c rv_I0) ev_c (rv_I (by decide))) (ev_var rfl) ev_c (by show 1 < 3; decide) fun H3 x3 => ?_
        refine s_asg (ev_op (ev_op (ev_var rfl) ev_c (rv_I (.inr ⟨by decide, by decide⟩))) (ev_op (ev_op (i1 rfl upd_same) (i1 rfl upd_same) (rv_I (.inl ⟨by omega, by omega⟩))) ev_c (rv_I (by decide))) rv_I0) fun H4 x4 => ?_
        exact ⟨_, _, _, rfl, ⟨_, _, _, x4 _ _ upd_same⟩, ((x.trans (Exs.of x3)).trans Exs.upd).trans (Exs.of x4)⟩
      · rintro σ' H' ⟨g, y2, y4, rfl, hs', x⟩
        exact s_ret (ev_op (ev_op (ev_var rfl) ev_c (rv_I (divX (b := 7) (by decide) (by decide) (by decide) (by decide)))) (ev_var rfl) (rv_I (Int.ne_of_gt h0))) fun H3 x3 => q _ H3 (Int.fmod_nonneg_of_pos _ h0) (Int.fmod_lt_of_pos _ h0) (hs'.mono x3) (x.trans (Exs.of x3))
end
end NF

namespace NF
open PySem PySem.Spec PyProof.Rows L2 Evl
abbrev s_is_fraction : Stmt := topS 10
theorem sc_is_fraction : FnScope ["thing", "top", "bottom"] ["thing"] (defScope s_is_fraction) := ⟨rfl, rfl, rfl, by decide +kernel, rfl, by decide +kernel, by decide +kernel⟩
abbrev s__law_whole : Stmt := topS 18
theorem sc__law_whole : FnScope ["_law_thing"] ["_law_thing"] (defScope s__law_whole) := ⟨rfl, rfl, rfl, by decide +kernel, rfl, by decide +kernel, by decide +kernel⟩
abbrev s__law_due : Stmt := topS 17
theorem sc__law_due : FnScope ["_law_upper", "_law_base", "_law_one", "_law_other"] ["_law_upper", "_law_base"] (defScope s__law_due) := ⟨rfl, rfl, rfl, by decide +kernel, rfl, by decide +kernel, by decide +kernel⟩
abbrev s__law_is_fraction : Stmt := topS 19
theorem sc__law_is_fraction : FnScope ["_law_thing"] ["_law_thing"] (defScope s__law_is_fraction) := ⟨rfl, rfl, rfl, by decide +kernel, rfl, by decide +kernel, by decide +kernel⟩
abbrev s_fraction : Stmt := topS 12
theorem sc_fraction : FnScope ["top", "bottom"] ["top", "bottom"] (defScope s_fraction) := ⟨rfl, rfl, rfl, by decide +kernel, rfl, by decide +kernel, by decide +kernel⟩
abbrev s__law_refused : Stmt := topS 21
theorem sc__law_refused : FnScope ["_law_upper", "_law_base", "_law_error", "e"] ["_law_upper", "_law_base"] (defScope s__law_refused) := ⟨rfl, rfl, rfl, by decide +kernel, rfl, by decide +kernel, by decide +kernel⟩
/-! ### things of any kind: whether they are whole numbers, whether they are fractions -/
def Wh (K : PySem.W.Frag) (H : Hp) (v : V) (b : Bool) : Prop := ∃ (t : String) (b1 b2 : Bool), TyX K H v (.type t) ∧ kitB t "int" = some b1 ∧ kitB t "bool" = some b2 ∧ b = (b1 && !b2) ∧ (b = true → ∃ i, v = .int i)
inductive Fr (K : PySem.W.Frag) (H : Hp) : V → Bool → Prop
  | no {v : V} {t : String} : TyX K H v (.type t) → kitB t "tuple" = some false → Fr K H v false
  | len {p : Addr} {xs : List V} : SqT K H p xs → xs.length ≠ 2 → Fr K H (.ref p) false
  | two {p : Addr} {x y : V} {b c : Bool} : SqT K H p [x, y] → Wh K H x b → Wh K H y c → (b && c) = false → Fr K H (.ref p) false
  | nums {p : Addr} {i j : Int} (B : Nat) : SqT K H p [.int i, .int j] → i.natAbs < 2 ^ B → j.natAbs < 2 ^ B → 0 < B → B ≤ 9000 → Fr K H (.ref p) (decide (1 ≤ j ∧ Int.gcd i j = 1))
section
variable {K : PySem.W.Frag} {H H1 H2 : Hp} {σ : L2.St} {ta tb te tl : TE} {x y z : Rat} {v w u : V} {B : Nat} {E : XK} {b c r : Bool}
theorem Wh.mono (h : Wh K H v b) (e : Ex H H1) : Wh K H1 v b := by
  obtain ⟨t, b1, b2, h1, h2⟩ := h
  exact ⟨t, b1, b2, tyx_mono h1 e, h2⟩
theorem Fr.mono (h : Fr K H v b) (e : Ex H H1) : Fr K H1 v b := by
  cases h with
  | no h1 h2 => exact .no (tyx_mono h1 e) h2
  | len h1 h2 => exact .len (ex_t e h1) h2
  | two h1 h2 h3 h4 => exact .two (ex_t e h1) (h2.mono e) (h3.mono e) h4
  | nums B h1 h2 h3 h4 h5 => exact .nums B (ex_t e h1) h2 h3 h4 h5
theorem wh_int (i : Int) : Wh K H (.int i) true := ⟨"int", true, false, ty_int i, kit_ii, kit_ib, rfl, fun _ => ⟨i, rfl⟩⟩
theorem wh_non : Wh K H .non false := ⟨"NoneType", false, false, .base .non, by decide +kernel, by decide +kernel, rfl, nofun⟩
theorem wh_bl (b : Bool) : Wh K H (.bl b) false := ⟨"bool", true, true, .base (.bl b), by decide +kernel, by decide +kernel, rfl, nofun⟩
theorem wh_str (x : Str) : Wh K H (.str x) false := ⟨"str", false, false, .base (.str x), by decide +kernel, by decide +kernel, rfl, nofun⟩
theorem wh_lst {p : Addr} {xs : List V} (h : H p = some (.lst xs)) : Wh K H (.ref p) false := ⟨"list", false, false, .base (.lst h), by decide +kernel, by decide +kernel, rfl, nofun⟩
theorem wh_dK {p : Addr} {xs : List (Key × V)} (h : H p = some (.dK xs)) : Wh K H (.ref p) false := ⟨"dict", false, false, .base (.dK h), by decide +kernel, by decide +kernel, rfl, nofun⟩
theorem wh_tup {p : Addr} {xs : List V} (h : SqT K H p xs) : Wh K H (.ref p) false := ⟨"tuple", false, false, ty_tup h, by decide +kernel, by decide +kernel, rfl, nofun⟩
theorem fr_int (i : Int) : Fr K H (.int i) false := .no (ty_int i) (by decide +kernel)
theorem fr_non : Fr K H .non false := .no (.base .non) (by decide +kernel)
theorem fr_bl (b : Bool) : Fr K H (.bl b) false := .no (.base (.bl b)) (by decide +kernel)
theorem fr_str (x : Str) : Fr K H (.str x) false := .no (.base (.str x)) (by decide +kernel)
theorem fr_lst {p : Addr} {xs : List V} (h : H p = some (.lst xs)) : Fr K H (.ref p) false := .no (.base (.lst h)) (by decide +kernel)
theorem fr_dK {p : Addr} {xs : List (Key × V)} (h : H p = some (.dK xs)) : Fr K H (.ref p) false := .no (.base (.dK h)) (by decide +kernel)
theorem ev_wh (h : Ev ta σ H v) (hw : Wh K H v b) : Ev (tCall (spWhole K) [] E (tCons ta tNil)) σ H (.bl b) := by
  obtain ⟨t, b1, b2, h1, h2, h3, rfl, _⟩ := hw
  exact ev_whole h h1 h2 h3
def spFr (K : PySem.W.Frag) : Sp := fun vs H Q _ => ∃ (v : V) (r : Bool), vs = [v] ∧ Fr K H v r ∧ ∀ H', Ex H H' → Q (.bl r) H'
theorem ev_fr (h : Ev ta σ H v) (hf : Fr K H v r) : Ev (tCall (spFr K) [] E (tCons ta tNil)) σ H (.bl r) := fun H1 e Q q =>
  h H1 e _ fun H2 e2 => ⟨v, r, rfl, hf.mono (e.trans e2), fun H' e3 => q H' (e2.trans e3)⟩
theorem tup_isi {p : Addr} {xs : List V} (h : SqT K H p xs) (hv : Ev ta σ H (.ref p)) : Ev (tCB (rIsi K) (tCons ta (tCons (tC (.ty "tuple")) tNil))) σ H (.bl true) := ev_isi hv (ty_tup h) kit_tt
theorem ev_lenT {p : Addr} {xs : List V} (hv : Ev ta σ H (.ref p)) (h : SqT K H p xs) : Ev (tCB (fun xs H Q => ∃ p ys, xs = [V.ref p] ∧ (SqL K H p ys ∨ SqT K H p ys) ∧ Q (.int ys.length) H) (tCons ta tNil)) σ H (.int xs.length) := fun H1 e Q q =>
  hv H1 e _ fun H2 e2 => ⟨p, xs, rfl, .inr (ex_t (e.trans e2) h), q H2 e2⟩
theorem ev_ixT {p : Addr} {xs : List V} {j : Nat} (hv : Ev ta σ H (.ref p)) (h : SqT K H p xs) (hj : xs[j]? = some v) : Ev (tOp (rIxT K) ta (tC (.int (j : Int)))) σ H v := ev_op hv ev_c (rv_ixT h (atI_nat hj))
def spDue (K : PySem.W.Frag) : Sp := fun vs H Q _ => ∃ (a b : Int) (B : Nat), vs = [.int a, .int b] ∧ b ≠ 0 ∧ a.natAbs < 2 ^ B ∧ b.natAbs < 2 ^ B ∧ 0 < B ∧ B ≤ 9000 ∧ ∀ v H', Ex H H' → Rt K H' v (Rat.divInt a b) → Q v H'
theorem ef_due {a b : Int} (ha : Ev ta σ H (.int a)) (hb : Ev tb σ H (.int b)) (hn : b ≠ 0) (ba : a.natAbs < 2 ^ B) (bb : b.natAbs < 2 ^ B) (h0 : 0 < B) (h4 : B ≤ 9000) : EvF K (tCall (spDue K) [] E (tCons ta (tCons tb tNil))) σ H (Rat.divInt a b) := fun H1 e Q q =>
  ha H1 e _ fun H2 e2 => hb H2 (e.trans e2) _ fun H3 e3 => ⟨a, b, B, rfl, hn, ba, bb, h0, h4, fun u H' e4 ru => q u H' ((e2.trans e3).trans e4) ru⟩
/-- what fraction refuses -/
def spFrX (K : PySem.W.Frag) (C : Addr) : Sp := fun vs H _ E => ∃ (v w : V) (b c : Bool), vs = [v, w] ∧ Wh K H v b ∧ Wh K H w c ∧ ((b && c) = false ∨ w = .int 0) ∧ ∀ H', Ex H H' → E (.ref C) none H'
def spRef (K : PySem.W.Frag) : Sp := fun vs H Q _ => ∃ (v w : V) (b c : Bool), vs = [v, w] ∧ Wh K H v b ∧ Wh K H w c ∧ ((b && c) = false ∨ w = .int 0) ∧ ∀ H', Ex H H' → Q (.bl true) H'
theorem ev_ref (h1 : Ev ta σ H v) (h2 : Ev tb σ H w) (hv : Wh K H v b) (hw : Wh K H w c) (hc : (b && c) = false ∨ w = .int 0) : Ev (tCall (spRef K) [] E (tCons ta (tCons tb tNil))) σ H (.bl true) := fun H1 e Q q =>
  h1 H1 e _ fun H2 e2 => h2 H2 (e.trans e2) _ fun H3 e3 => ⟨v, w, b, c, rfl, hv.mono ((e.trans e2).trans e3), hw.mono ((e.trans e2).trans e3), hc, fun H' e4 => q H' ((e2.trans e3).trans e4)⟩
def spTruths (K : PySem.W.Frag) : Sp := fun vs H Q _ => ∃ (v : V) (b r : Bool), vs = [v] ∧ Wh K H v b ∧ Fr K H v r ∧ ∀ H', Ex H H' → Q (.bl true) H'
theorem ev_isX {a C : Addr} {c : V} {cv : Value} {b : Bool} (h : Ev ta σ H (.ref a)) (hH : H a = some (ExT (.ref C) none a)) (X : ExcC K C) (hc : ∀ u, RelV c u → u = cv) (hk : PySem.W.kitOne K (.ref C) cv = some b) : Ev (tCB (rIsX K) (tCons ta (tCons (tC c) tNil))) σ H (.bl b) := fun H1 e Q q =>
  h H1 e _ fun H2 e2 => ⟨a, C, c, cv, b, rfl, (e.trans e2) _ _ hH, X, hc, hk, q H2 e2⟩
/-- isinstance(e, (A, B, ..)) of an exception that is kept -/
def rIsXT (K : PySem.W.Frag) : List V → Hp → VK → Prop := fun xs H Q => ∃ (a D tp : Addr) (cs : List V) (us : List Value) (b : Bool), xs = [.ref a, .ref tp] ∧ H a = some (ExT (.ref D) none a) ∧ ExcC K D ∧ H tp = some (.tup cs) ∧ Paired ClsV cs us ∧ PySem.W.kitAny K (.ref D) us = some b ∧ Q (.bl b) H
theorem call_isXT {X : Cx} : CallR X (.builtin "isinstance") (rIsXT X.K) := by
  intro pins s σ H xs us Q I r h
  obtain ⟨a, D, tp, cs, ws, b, rfl, hH, C, hT, k, e, q⟩ := h
  obtain ⟨u1, u2, rfl, r1, r2⟩ := vals2 r
  cases (show u1 = Value.ref a from r1)
  cases (show u2 = Value.ref tp from r2)
  obtain ⟨⟨⟨oc, od, oda, osl⟩, vs, e1, ⟨z1, z2⟩, d1⟩, _⟩ := (show ObjOk X.prog X.w H s.heap a (ExT (.ref D) none a) from I.hok a _ hH)
  dsimp only at z1 z2 d1
  subst z1 z2 d1
  obtain ⟨_, its, rv, o, h1, h2, n, h3⟩ := (show ObjOk X.prog X.w H s.heap tp (.tup cs) from I.hok tp _ hT)
  have e3 := ClsV.all k rv
  subst e3
  obtain ⟨oc, od, dt, sl⟩ := o
  simp only at h2 h3
  subst h2 h3
  exact PySem.W.kia_tup (PySem.W.handS_kitx_exc C.hg C.hk C.hs C.hd C.ha C.hn C.ht C.hm) I.kIn ⟨e1, rfl, rfl, trivial⟩ h1 e (fun z => nomatch z) fun tk => ⟨.bl b, H, I.kept (t' := tk) fun _ _ z => z, rfl, q⟩
theorem ev_isXT {a C : Addr} {tA : TA} {cs : List V} {us : List Value} {b : Bool} (h : Ev ta σ H (.ref a)) (hc : EvU te σ H cs) (hH : H a = some (ExT (.ref C) none a)) (X : ExcC K C) (hp : Paired ClsV cs us) (hk : PySem.W.kitAny K (.ref C) us = some b) : Ev (tCB (rIsXT K) (tCons ta (tCons te tNil))) σ H (.bl b) := fun H1 e Q q =>
  h H1 e _ fun H2 e2 => hc H2 (e.trans e2) _ fun tp H3 _ e3 h3 => ⟨a, C, tp, cs, us, b, rfl, ((e.trans e2).trans e3) _ _ hH, X, h3, hp, hk, q H3 (e2.trans e3)⟩
end
structure CalX (P : Program) (w : World) (K : PySem.W.Frag) (mg : Str → Option Value) (base : Heap) (k : Nat) (x : Str) (ps : List Str) (sp : Sp) : Prop where
  ex : ∃ (f : Addr) (fd : FuncData), FnOk P w K mg base (L2.CX P w) k f fd ps sp ∧ mg x = some (.ref f) ∧ PySem.W.keepIn K (.ref f) = true ∧ Binds K fd ps []
theorem pe_calS {X : Cx} {W : WX} {j k : Nat} {x : Str} {ps : List Str} {sp : Sp} {e : Expr} {es : List Expr} {t : TA} {p pos : Pos} (C : CalX X.prog X.w X.K X.mg X.base k x ps sp) (hr : Room j X.A) (hk : k ≤ j) (hg : Gl X x) (tk : Takes X W)
    (ha : PA X (e :: es) t) (hdb : (x == ("__debug__" : Str)) = false := by decide) (he : starEach (e :: es) X.env = (false, eval e X.env) :: starEach es X.env := by rfl) (hpl : (backTo pos (starEach es X.env)).any (·.1) = false := by rfl) :
    PE X (.Call (.Name x p) (e :: es) [] pos) (tCallS sp (WE W) t) := by
  obtain ⟨f, fd, F, hm, kp, b⟩ := C.ex
  exact pe_callS F (hr.mono hk) hg hm kp b (fun σ => passAt tk σ) ha hdb he hpl
section
variable {K : PySem.W.Frag} {H H1 H2 : Hp} {σ : L2.St} {ta tb te tl : TE} {x y z : Rat} {v w u : V} {B : Nat} {E : XK} {b c r : Bool} {D : Ends} {tz : TS}
theorem ev_eqP {p : Addr} {i j : Int} (h1 : EvF K ta σ H x) (h2 : Ev tb σ H (.ref p)) (hp : SqT K H p [.int i, .int j]) : Ev (tOp (rEqD K) ta tb) σ H (.bl (decide (x.num = i ∧ (x.den : Int) = j))) := fun H1 e Q q =>
  h1 H1 e _ fun v H2 e2 r => h2 H2 (e.trans e2) _ fun H3 e3 => ⟨_, .tuple [.int i, .int j], dp_rt (r.mono e3), .tup (ex_t ((e.trans e2).trans e3) hp) (.cons (.int _) (.cons (.int _) .nil)), rfl, rfl, by
    have e8 : PyData.eqv (.tuple [.int x.num, .int x.den]) (.tuple [.int i, .int j]) = (x.num == i && ((x.den : Int) == j)) := by
      simp [PyData.eqv, PyData.eqvAll]
    have e9 : (x.num == i && ((x.den : Int) == j)) = decide (x.num = i ∧ (x.den : Int) = j) := by
      by_cases c1 : x.num = i <;> by_cases c2 : (x.den : Int) = j <;> simp [c1, c2]
    rw [e8, e9]
    exact q H3 (e2.trans e3)⟩
theorem div_neg (t b : Int) : Rat.divInt (0 - t) (0 - b) = Rat.divInt t b := by
  rw [Int.zero_sub, Int.zero_sub]
  exact Rat.neg_divInt_neg t b
/-- if base < 0: both signs are turned -/
theorem if_par {a b : Int} {y2 y3 : Option V} (hb0 : b ≠ 0) (k : ∀ (a' b' : Int) (H1 : Hp), Ex H H1 → 0 < b' → Rat.divInt a' b' = Rat.divInt a b → a'.natAbs = a.natAbs → b'.natAbs = b.natAbs → tz D [some (.int a'), some (.int b'), y2, y3] H1) :
    tSeq (tIfS (tTest (tOp (rI0 fun i j => .bl (decide (i < j))) (tVar 1) (tC (.int 0)))) (tPar 0 1 (tCons (tOp (rI0 fun i j => .int (i - j)) (tC (.int 0)) (tVar 0)) (tCons (tOp (rI0 fun i j => .int (i - j)) (tC (.int 0)) (tVar 1)) tNil))) tNext) tz D [some (.int a), some (.int b), y2, y3] H := by
  refine q_when (et_test (ev_op (ev_var rfl) ev_c rv_I0)) (fun hb H1 e1 => ?_) fun hb H1 e1 => ?_
  · have hl : b < 0 := of_decide_eq_true hb
    exact s_par (ea_cons (ev_op ev_c (ev_var rfl) rv_I0) (ea_cons (ev_op ev_c (ev_var rfl) rv_I0) ea_nil)) fun H2 e2 => k (0 - a) (0 - b) H2 (e1.trans e2) (by omega) (div_neg a b) (by omega) (by omega)
  · have hl : ¬ b < 0 := of_decide_eq_false hb
    exact k a b H1 e1 (by omega) rfl rfl rfl
end
theorem low_iff {i j : Int} (h : 0 < j) : ((Rat.divInt i j).num = i ∧ ((Rat.divInt i j).den : Int) = j) ↔ Int.gcd i j = 1 := by
  constructor
  · rintro ⟨h1, h2⟩
    have := cop (Rat.divInt i j)
    rw [h1, h2] at this
    exact this
  · intro g
    have h1 := (red_pos (a := i) h).1
    have h2 := (red_pos (a := i) h).2
    rw [g] at h1 h2
    rw [← h1, ← h2]
    exact ⟨Int.fdiv_one i, Int.fdiv_one j⟩
section
variable {P : Program} {w : World} {K : PySem.W.Frag} {mg : Str → Option Value} {base : Heap} {f : Addr} {fd : FuncData}
theorem ok_fr (F : Fun K "is_fraction" "is_fraction" s_is_fraction f fd) (n_isinstance : mg "isinstance" = none) (n_tuple : mg "tuple" = none) (n_len : mg "len" = none) (C_is_whole : Cal P w K mg base 1 "is_whole" ["thing"] [] (spWhole K))
    (C_greatest_divisor : Cal P w K mg base 1 "greatest_divisor" ["one", "other"] [] spGcd) : FnOk P w K mg base CX0 2 f fd ["thing"] (spFr K) := by
  refine F.ok sc_is_fraction (fun vs H Q E h => ?_) (fun cdv A outer s H vs Q E hr h => ?_)
  · obtain ⟨_, _, rfl, _⟩ := h
    rfl
  · obtain ⟨v, r, rfl, hf, q⟩ := h
    refine ⟨_, (pss_cons (ps_if (PW.pt (pw_or (pt_not (pt_val (pe_callB call_isi (by rfl) n_isinstance PyProof.Rows.boot_isinstance (pa_cons (pv 0) (pa_cons (c_ty (n := "tuple") n_tuple (by rfl) (by decide +kernel) (by decide)) pa_nil))))) (pw_or1 (pt_cmpR op_ne (pe_callB call_len_seq (by rfl) n_len PySem.boot_len (pa_cons (pv 0) pa_nil)) pe_int (nomark _))))) (pss_one (ps_ret pe_bl)) pss_nil)
      (pss_cons (ps_asg (pv 0) (pg_tup rfl (pgs_cons (pg_name (i := 1) sc_is_fraction.nd rfl (.inl rfl)) (pgs_cons (pg_name (i := 2) sc_is_fraction.nd rfl (.inl rfl)) pgs_nil))))
      (pss_cons (ps_if (PW.pt (pw_or (pt_not (pt_val (pe_cal C_is_whole hr (by decide) (by rfl) (pa_cons (pv 1) pa_nil)))) (pw_or (pt_not (pt_val (pe_cal C_is_whole hr (by decide) (by rfl) (pa_cons (pv 2) pa_nil)))) (pw_or1 (pt_cmpR op_lt (pv 2) pe_int (nomark _)))))) (pss_one (ps_ret pe_bl)) pss_nil)
      (pss_one (ps_ret (pe_cmpR op_eq (pe_cal C_greatest_divisor hr (by decide) (by rfl) (pa_cons (pv 1) (pa_cons (pv 2) pa_nil))) pe_int (nomark _))))))), ?_⟩
    cases hf with
    | no h1 h2 =>
      refine q_when (b := true) (et_is (et_or (b := true) (et_not (et_B (ev_isi (ev_var rfl) h1 h2))) nofun) rfl) (fun _ H1 e1 => ?_) nofun
      exact s_ret ev_c fun H2 e2 => q H2 (e1.trans e2)
    | @len p xs h1 h2 =>
      refine q_when (b := true) (et_is (et_or (et_not (et_B (tup_isi h1 (ev_var rfl)))) fun _ => et_test (ev_op (ev_lenT (ev_var rfl) h1) ev_c (rv_ne rfl))) ?_) (fun _ H1 e1 => ?_) nofun
      · have : ¬ (xs.length : Int) = 2 := fun z => h2 (by omega)
        simp [this]
      · exact s_ret ev_c fun H2 e2 => q H2 (e1.trans e2)
    | @two p x y b c h1 h2 h3 h4 =>
      refine q_when (b := false) (et_is (et_or (et_not (et_B (tup_isi h1 (ev_var rfl)))) fun _ => et_test (ev_op (ev_lenT (ev_var rfl) h1) ev_c (rv_ne rfl))) rfl) nofun fun _ H1 e1 => ?_
      refine ⟨.ref p, rfl, p, _, rfl, ex_t e1 h1, rfl, _, _, rfl, _, _, rfl, rfl, ?_⟩
      dsimp only
      refine q_when (b := true) ?tst (fun _ H2 e2 => ?yes) nofun
      case yes => exact s_ret ev_c fun H3 e3 => q H3 ((e1.trans e2).trans e3)
      cases b with
      | false => exact et_is (et_or (b := true) (et_not (et_B (ev_wh (ev_var rfl) (h2.mono e1)))) nofun) rfl
      | true =>
        cases c with
        | true => cases h4
        | false => exact et_is (et_or (et_not (et_B (ev_wh (ev_var rfl) (h2.mono e1)))) fun _ => et_or (b := true) (et_not (et_B (ev_wh (ev_var rfl) (h3.mono e1)))) nofun) rfl
    | @nums p i j B h1 h2 h3 h4 h5 =>
      refine q_when (b := false) (et_is (et_or (et_not (et_B (tup_isi h1 (ev_var rfl)))) fun _ => et_test (ev_op (ev_lenT (ev_var rfl) h1) ev_c (rv_ne rfl))) rfl) nofun fun _ H1 e1 => ?_
      refine ⟨.ref p, rfl, p, _, rfl, ex_t e1 h1, rfl, _, _, rfl, _, _, rfl, rfl, ?_⟩
      refine q_when (et_or (et_not (et_B (ev_wholeI (ev_var rfl)))) fun _ => et_or (et_not (et_B (ev_wholeI (ev_var rfl)))) fun _ => et_test (ev_op (ev_var rfl) ev_c rv_I0)) (fun hb H2 e2 => ?_) fun hb H2 e2 => ?_
      · have hj : j < 1 := by simpa using hb
        have : decide (1 ≤ j ∧ Int.gcd i j = 1) = false := decide_eq_false fun z => by omega
        rw [this] at q
        exact s_ret ev_c fun H3 e3 => q H3 ((e1.trans e2).trans e3)
      · have hj : ¬ j < 1 := by simpa using hb
        refine s_ret (ev_is (ev_op (ev_gcd (ev_var rfl) (ev_var rfl)) ev_c (rv_eq rfl)) ?_) fun H3 e3 => q H3 ((e1.trans e2).trans e3)
        show V.bl _ = V.bl _
        congr 1
        refine decide_eq_decide.mpr ⟨fun z => ⟨by omega, by have := V.int.inj z; omega⟩, fun z => by rw [z.2]; rfl⟩
theorem ok_lwhole (F : Fun K "_law_whole" "_law_whole" s__law_whole f fd) (n_isinstance : mg "isinstance" = none) (n_int : mg "int" = none) (n_bool : mg "bool" = none) : FnOk P w K mg base CX0 1 f fd ["_law_thing"] (spWhole K) := by
  refine F.ok sc__law_whole (fun vs H Q E h => ?_) (fun cdv A outer s H vs Q E hr h => ?_)
  · obtain ⟨_, _, _, _, rfl, _⟩ := h
    rfl
  · obtain ⟨v, t, b1, b2, rfl, ty, k1, k2, q⟩ := h
    refine ⟨_, (pss_one (ps_ret (pe_and (pe_callB call_isi (by rfl) n_isinstance PyProof.Rows.boot_isinstance (pa_cons (pv 0) (pa_cons (c_ty (n := "int") n_int (by rfl) (by decide +kernel) (by decide)) pa_nil))) (pe_one (pe_not (pe_callB call_isi (by rfl) n_isinstance PyProof.Rows.boot_isinstance (pa_cons (pv 0) (pa_cons (c_ty (n := "bool") n_bool (by rfl) (by decide +kernel) (by decide)) pa_nil)))))))), ?_⟩
    exact s_ret (ev_andV (ev_isi (ev_var rfl) ty k1) fun _ => ev_notV (ev_isi (ev_var rfl) ty k2)) q
theorem ok_due (F : Fun K "_law_due" "_law_due" s__law_due f fd) (n_abs : mg "abs" = none) : FnOk P w K mg base CX0 1 f fd ["_law_upper", "_law_base"] (spDue K) := by
  refine F.ok sc__law_due (fun vs H Q E h => ?_) (fun cdv A outer s H vs Q E hr h => ?_)
  · obtain ⟨_, _, _, rfl, _⟩ := h
    rfl
  · obtain ⟨a0, b0, B, rfl, hb0, ha, hb, hB0, hB, q⟩ := h
    refine ⟨_, (pss_cons (ps_if (pt_cmpR op_lt (pv 1) pe_int (nomark _)) (pss_one (ps_par (i := 0) (j := 1) (by rfl) sc__law_due.nd rfl rfl (by decide) rfl rfl (pa_cons (pe_op op_sub pe_int (pv 0)) (pa_cons (pe_op op_sub pe_int (pv 1)) pa_nil)) (by rfl))) pss_nil)
      (pss_cons (ps_set (i := 2) sc__law_due.nd rfl (.inl rfl) (pe_callB call_abs (by rfl) n_abs PyProof.Rows.boot_abs (pa_cons (pv 0) pa_nil)))
      (pss_cons (ps_set (i := 3) sc__law_due.nd rfl (.inl rfl) (pv 1))
      (pss_cons (ps_while PassesOwn.never (pt_cmpR op_gt (pv 3) pe_int (nomark _)) (pss_one (ps_par (i := 2) (j := 3) (by rfl) sc__law_due.nd rfl rfl (by decide) rfl rfl (pa_cons (pv 3) (pa_cons (pe_op op_modN (pv 2) (pv 3)) pa_nil)) (by rfl))))
      (pss_one (ps_ret (pe_tup (pa_cons (pe_op op_fdivX (pv 0) (pv 2)) (pa_cons (pe_op op_fdivX (pv 1) (pv 2)) pa_nil))))))))), ?_⟩
    refine if_par (a := a0) (b := b0) hb0 ?_
    rintro a b H0 e0 hpos hdiv hna hnb
    rw [← hdiv] at q
    have ha' : a.natAbs < 2 ^ B := by omega
    have hb' : b.natAbs < 2 ^ B := by omega
    have ea : ∀ {H}, RC (fun xs H Q => ∃ i, xs = [V.int i] ∧ Q (V.int (if i < 0 then -i else i)) H) [V.int a] H (V.int (if a < 0 then -a else a)) := fun H1 _ Q' q' => ⟨a, rfl, q' H1 (Ex.refl H1)⟩
    refine q_asg (ev_cb (ea_cons (ev_var rfl) ea_nil) ea) fun H1 e1 => ?_
    refine q_asg (ev_var rfl) fun H2 e2 => ?_
    refine q_while (fun m σ' H' => ∃ c d : Int, σ' = [some (.int a), some (.int b), some (.int c), some (.int d)] ∧ 0 ≤ c ∧ 0 ≤ d ∧ d.natAbs = m ∧ Int.gcd c d = Int.gcd a b ∧ Ex H H') b.natAbs ⟨_, b, rfl, by split <;> omega, by omega, rfl, ?_, (e0.trans e1).trans e2⟩ ?_
    · split
      · simp [Int.gcd]
      · rfl
    rintro m σ' H' ⟨c, d, rfl, hc0, hd0, rfl, eg, ex⟩
    refine ⟨_, et_test (ev_op (ev_var rfl) ev_c rv_I0), fun hb => ?_, fun hb => ?_⟩
    · intro H3 e3
      have hd : 0 < d := of_decide_eq_true hb
      obtain ⟨g1, g2⟩ := gcd_step (a := c) (b := d) (by omega)
      have g3 := Int.fmod_nonneg_of_pos c hd
      refine ⟨fun σ2 H2 => ∃ c' d' : Int, σ2 = [some (.int a), some (.int b), some (.int c'), some (.int d')] ∧ 0 ≤ c' ∧ 0 ≤ d' ∧ d'.natAbs < d.natAbs ∧ Int.gcd c' d' = Int.gcd a b ∧ Ex H H2, ?_, ?_⟩
      · rintro σ2 H2 ⟨c', d', e, z1, z2, l, g, x⟩
        exact ⟨_, l, c', d', e, z1, z2, rfl, g, x⟩
      · exact s_par (ea_cons (ev_var rfl) (ea_cons (ev_op (ev_var rfl) (ev_var rfl) (rv_I (by omega))) ea_nil)) fun H4 e4 => ⟨d, c.fmod d, rfl, hd0, g3, g2, by rw [g1, eg], (ex.trans e3).trans e4⟩
    · intro H3 e3
      have hd : d = 0 := by
        have := of_decide_eq_false hb
        omega
      subst hd
      have hcg : c = (Int.gcd a b : Int) := by
        rw [← eg, Int.gcd_zero_right]
        omega
      subst hcg
      have hg : 0 < Int.gcd a b := Int.gcd_pos_of_ne_zero_right _ (by omega)
      have hgb : ((Int.gcd a b : Nat) : Int).natAbs < 2 ^ B := by
        have h1 : Int.gcd a b ≤ b.natAbs := Nat.le_of_dvd (by omega) (Int.gcd_dvd_natAbs_right a b)
        omega
      have hd0' : (Int.gcd a b : Int) ≠ 0 := by omega
      refine s_retU (eu_tup (ea_cons (ev_op (ev_var rfl) (ev_var rfl) (rv_I (divX hd0' hgb hB0 hB))) (ea_cons (ev_op (ev_var rfl) (ev_var rfl) (rv_I (divX hd0' hgb hB0 hB))) ea_nil)) (by show 2 ≤ 100000; decide)) fun p H4 _ e4 hp => ?_
      exact q _ _ ((ex.trans e3).trans e4) (Rt.of hp (red_pos hpos).1 (red_pos hpos).2)
theorem ok_lfr (F : Fun K "_law_is_fraction" "_law_is_fraction" s__law_is_fraction f fd) (n_isinstance : mg "isinstance" = none) (n_tuple : mg "tuple" = none) (n_len : mg "len" = none) (C__law_whole : Cal P w K mg base 1 "_law_whole" ["_law_thing"] [] (spWhole K))
    (C__law_due : Cal P w K mg base 1 "_law_due" ["_law_upper", "_law_base"] [] (spDue K)) : FnOk P w K mg base CX0 2 f fd ["_law_thing"] (spFr K) := by
  refine F.ok sc__law_is_fraction (fun vs H Q E h => ?_) (fun cdv A outer s H vs Q E hr h => ?_)
  · obtain ⟨_, _, rfl, _⟩ := h
    rfl
  · obtain ⟨v, r, rfl, hf, q⟩ := h
    refine ⟨_, (pss_cons (ps_if (PW.pt (pw_or (pt_not (pt_val (pe_callB call_isi (by rfl) n_isinstance PyProof.Rows.boot_isinstance (pa_cons (pv 0) (pa_cons (c_ty (n := "tuple") n_tuple (by rfl) (by decide +kernel) (by decide)) pa_nil))))) (pw_or (pt_cmpR op_ne (pe_callB call_len_seq (by rfl) n_len PySem.boot_len (pa_cons (pv 0) pa_nil)) pe_int (nomark _)) (pw_or (pt_not (pt_val (pe_cal C__law_whole hr (by decide) (by rfl) (pa_cons (pe_ix ix_tup (pv 0) pe_int (fun _ _ => rfl)) pa_nil)))) (pw_or1 (pt_not (pt_val (pe_cal C__law_whole hr (by decide) (by rfl) (pa_cons (pe_ix ix_tup (pv 0) pe_int (fun _ _ => rfl)) pa_nil))))))))) (pss_one (ps_ret pe_bl)) pss_nil)
      (pss_one (ps_ret (pe_and (pe_cmpR op_gt (pe_ix ix_tup (pv 0) pe_int (fun _ _ => rfl)) pe_int (nomark _)) (pe_one (pe_cmpR (op_eqD hr.units) (pe_cal C__law_due hr (by decide) (by rfl) (pa_cons (pe_ix ix_tup (pv 0) pe_int (fun _ _ => rfl)) (pa_cons (pe_ix ix_tup (pv 0) pe_int (fun _ _ => rfl)) pa_nil))) (pv 0) (nomark _))))))), ?_⟩
    cases hf with
    | no h1 h2 =>
      refine q_when (b := true) (et_is (et_or (b := true) (et_not (et_B (ev_isi (ev_var rfl) h1 h2))) nofun) rfl) (fun _ H1 e1 => ?_) nofun
      exact s_ret ev_c fun H2 e2 => q H2 (e1.trans e2)
    | @len p xs h1 h2 =>
      have hz : (!decide (V.int (xs.length : Int) = V.int 2)) = true := by
        have : ¬ (xs.length : Int) = 2 := fun z => h2 (by omega)
        simp [this]
      refine q_when (b := true) (et_is (et_or (et_not (et_B (tup_isi h1 (ev_var rfl)))) fun _ => et_or (b := true) (et_test (ev_op (ev_lenT (ev_var rfl) h1) ev_c (rv_ne rfl))) (fun z => by rw [hz] at z; cases z)) ?_) (fun _ H1 e1 => ?_) nofun
      · simp
      · exact s_ret ev_c fun H2 e2 => q H2 (e1.trans e2)
    | @two p x y b c h1 h2 h3 h4 =>
      refine q_when (b := true) ?tst (fun _ H2 e2 => ?yes) nofun
      case yes => exact s_ret ev_c fun H3 e3 => q H3 (e2.trans e3)
      have i0 := ev_ixT (σ := start ["_law_thing"] [.ref p]) (ta := tVar 0) (K := K) (j := 0) (ev_var rfl) h1 rfl
      have i1 := ev_ixT (σ := start ["_law_thing"] [.ref p]) (ta := tVar 0) (K := K) (j := 1) (ev_var rfl) h1 rfl
      cases b with
      | false => exact et_is (et_or (et_not (et_B (tup_isi h1 (ev_var rfl)))) fun _ => et_or (et_test (ev_op (ev_lenT (ev_var rfl) h1) ev_c (rv_ne rfl))) fun _ => et_or (b := true) (et_not (et_B (ev_wh i0 h2))) nofun) rfl
      | true =>
        cases c with
        | true => cases h4
        | false => exact et_is (et_or (et_not (et_B (tup_isi h1 (ev_var rfl)))) fun _ => et_or (et_test (ev_op (ev_lenT (ev_var rfl) h1) ev_c (rv_ne rfl))) fun _ => et_or (et_not (et_B (ev_wh i0 h2))) fun _ => et_not (et_B (ev_wh i1 h3))) rfl
    | @nums p i j B h1 h2 h3 h4 h5 =>
      have i0 : ∀ {H'}, Ex H H' → Ev (tOp (rIxT K) (tVar 0) (tC (.int 0))) (start ["_law_thing"] [.ref p]) H' (.int i) := fun e => ev_ixT (j := 0) (ev_var rfl) (ex_t e h1) rfl
      have i1 : ∀ {H'}, Ex H H' → Ev (tOp (rIxT K) (tVar 0) (tC (.int 1))) (start ["_law_thing"] [.ref p]) H' (.int j) := fun e => ev_ixT (j := 1) (ev_var rfl) (ex_t e h1) rfl
      refine q_when (b := false) (et_is (et_or (et_not (et_B (tup_isi h1 (ev_var rfl)))) fun _ => et_or (et_test (ev_op (ev_lenT (ev_var rfl) h1) ev_c (rv_ne rfl))) fun _ => et_or (et_not (et_B (ev_wholeI (i0 (Ex.refl _))))) fun _ => et_not (et_B (ev_wholeI (i1 (Ex.refl _))))) rfl) nofun fun _ H1 e1 => ?_
      by_cases hj : 0 < j
      · refine s_ret (ev_is (ev_andV (ev_op (i1 e1) ev_c rv_I0) fun _ => ev_eqP (ef_due (i0 e1) (i1 e1) (by omega) h2 h3 h4 h5) (ev_var rfl) (ex_t e1 h1)) ?_) fun H3 e3 => q H3 (e1.trans e3)
        show V.bl _ = V.bl _
        congr 1
        rw [show decide (0 < j) = true from decide_eq_true hj, Bool.true_and]
        exact decide_eq_decide.mpr ⟨fun z => ⟨by omega, (low_iff hj).mp z⟩, fun z => (low_iff hj).mpr z.2⟩
      · refine s_ret (ev_is (w := .bl false) (ev_andV (b := true) (ev_op (i1 e1) ev_c rv_I0) fun z => absurd (of_decide_eq_true z) hj) ?_) fun H3 e3 => ?_
        · rw [decide_eq_false hj]
          rfl
        · have : decide (1 ≤ j ∧ Int.gcd i j = 1) = false := decide_eq_false fun z => by omega
          rw [this] at q
          exact q H3 (e1.trans e3)
theorem ok_fracX {C : Addr} {dvs : List V} (F : FunD K "fraction" "fraction" (defArgs s_fraction) (defBody s_fraction) (defScope s_fraction) dvs [] f fd) (C_is_whole : Cal P w K mg base 1 "is_whole" ["thing"] [] (spWhole K)) (C_reduced : Cal P w K mg base 2 "reduced" ["top", "bottom"] [] (spRed K))
    (g_NoNumber : mg "NoNumber" = some (.ref C)) (x_NN : PySem.W.excIn K C [.type "ValueError", .type "Exception", .type "BaseException", .type "object"] "ValueError.__new__" = true) (k_NN : PySem.W.keepIn K (.ref C) = true) (b_NN : PySem.W.subIn K (.ref C) (.type "BaseException") = some true) (t_NN : PySem.W.typeIn K (.ref C) = some (.type "type")) :
    FnOk P w K mg base (L2.CX P w) 3 f fd ["top", "bottom"] (spFrX K C) := by
  refine F.ok sc_fraction (fun vs H Q E h => ?_) (fun cdv A outer s H vs Q E hr h => ?_)
  · obtain ⟨_, _, _, _, rfl, _⟩ := h
    rfl
  · obtain ⟨v, w, b, c, rfl, hv, hw, hc, q⟩ := h
    refine ⟨_, (pss_cons (ps_if (PW.pt (pw_or (pt_not (pt_val (pe_cal C_is_whole hr (by decide) (by rfl) (pa_cons (pv 0) pa_nil)))) (pw_or (pt_not (pt_val (pe_cal C_is_whole hr (by decide) (by rfl) (pa_cons (pv 1) pa_nil)))) (pw_or1 (pt_cmpR op_eq (pv 1) pe_int (nomark _)))))) (pss_one (ps_raise rfl (takes_of rfl rfl rfl rfl) (pmk_own PySem.F.excBase_ValueError x_NN g_NoNumber k_NN (raises_own b_NN t_NN) rfl))) pss_nil)
      (pss_one (ps_ret (pe_cal C_reduced hr (by decide) (by rfl) (pa_cons (pv 0) (pa_cons (pv 1) pa_nil)))))), ?_⟩
    refine q_when (b := true) ?_ (fun _ H1 e1 => q H1 e1) nofun
    cases b with
    | false => exact et_is (et_or (b := true) (et_not (et_B (ev_wh (ev_var rfl) hv))) nofun) rfl
    | true =>
      cases c with
      | false => exact et_is (et_or (et_not (et_B (ev_wh (ev_var rfl) hv))) fun _ => et_or (b := true) (et_not (et_B (ev_wh (ev_var rfl) hw))) nofun) rfl
      | true =>
        rcases hc with hc | rfl
        · cases hc
        · exact et_is (et_or (et_not (et_B (ev_wh (ev_var rfl) hv))) fun _ => et_or (et_not (et_B (ev_wh (ev_var rfl) hw))) fun _ => et_test (ev_op (ev_var rfl) ev_c (rv_eq rfl))) rfl
theorem ok_refused {cNN cTE cNF cTM cND cNV : Addr} (F : Fun K "_law_refused" "_law_refused" s__law_refused f fd) (C_fraction2X : CalX P w K mg base 3 "fraction" ["top", "bottom"] (spFrX K cNN)) (g_TwinError : mg "TwinError" = some (.ref cTE)) (g_NoNumber : mg "NoNumber" = some (.ref cNN)) (g_NoFade : mg "NoFade" = some (.ref cNF))
    (g_TooMany : mg "TooMany" = some (.ref cTM)) (g_NoDeed : mg "NoDeed" = some (.ref cND)) (g_NoDivisor : mg "NoDivisor" = some (.ref cNV)) (em : PySem.W.exmOne K (.ref cNN) (.ref cTE) = some true) (n_isinstance : mg "isinstance" = none) (n_ValueError : mg "ValueError" = none) (EC : ExcC K cNN)
    (i1 : PySem.W.kitOne K (.ref cNN) (.ref cNN) = some true) (i2 : PySem.W.kitOne K (.ref cNN) (.type "ValueError") = some true) (i3 : PySem.W.kitAny K (.ref cNN) [.ref cNF, .ref cTM, .ref cND, .ref cNV] = some false) : FnOk P w K mg base CX0 4 f fd ["_law_upper", "_law_base"] (spRef K) := by
  refine F.ok sc__law_refused (fun vs H Q E h => ?_) (fun cdv A outer s H vs Q E hr h => ?_)
  · obtain ⟨_, _, _, _, rfl, _⟩ := h
    rfl
  · obtain ⟨v, w, b, c, rfl, hv, hw, hc, q⟩ := h
    refine ⟨_, (pss_cons (ps_set (i := 2) sc__law_refused.nd rfl (.inl rfl) pe_non)
      (pss_cons (ps_try_keep (i := 3) rfl rfl rfl sc__law_refused.nd rfl rfl ⟨by rfl, by decide, .inl g_TwinError⟩ (fun W pn xe tk _ => (pss_one (ps_expr (pe_calS C_fraction2X hr (by decide) (by rfl) tk (pa_cons (pv 0) (pa_cons (pv 1) pa_nil)))))) (fun a oe pn => (pss_one (ps_set (i := 2) sc__law_refused.nd rfl (.inl rfl) (pv 3)))))
      (pss_cons (ps_if (PW.pt (pw_or (pt_not (pt_val (pe_callB call_isX (by rfl) n_isinstance PyProof.Rows.boot_isinstance (pa_cons (pv 2) (pa_cons (pe_glob (v := .ref cNN) (by rfl) g_NoNumber rfl) pa_nil))))) (pw_or1 (pt_not (pt_val (pe_callB call_isX (by rfl) n_isinstance PyProof.Rows.boot_isinstance (pa_cons (pv 2) (pa_cons (c_ty (n := "ValueError") n_ValueError (by rfl) (by decide +kernel) (by decide)) pa_nil)))))))) (pss_one (ps_ret pe_bl)) pss_nil)
      (pss_one (ps_ret (pe_not (pe_callB call_isXT (by rfl) n_isinstance PyProof.Rows.boot_isinstance (pa_cons (pv 2) (pa_cons (pe_tup (pa_cons (pe_glob (v := .ref cNF) (by rfl) g_NoFade rfl) (pa_cons (pe_glob (v := .ref cTM) (by rfl) g_TooMany rfl) (pa_cons (pe_glob (v := .ref cND) (by rfl) g_NoDeed rfl) (pa_cons (pe_glob (v := .ref cNV) (by rfl) g_NoDivisor rfl) pa_nil))))) pa_nil))))))))), ?_⟩
    refine q_asg ev_c fun H1 e1 => ?_
    refine ⟨v, rfl, w, rfl, v, w, b, c, rfl, hv.mono e1, hw.mono e1, hc, fun H3 e3 => ⟨em, fun a na => ?_⟩⟩
    refine ⟨.ref a, rfl, ?_⟩
    have X3 : Ex H H3 := e1.trans e3
    refine q_when (b := false) (et_is (et_or (et_not (et_B (ev_isX (c := .ref cNN) (cv := .ref cNN) (ev_var rfl) upd_same EC (fun u h => h) i1))) fun _ => et_not (et_B (ev_isX (c := .ty "ValueError") (cv := .type "ValueError") (ev_var rfl) upd_same EC (fun u h => h) i2))) rfl) nofun fun _ H4 e4 => ?_
    refine s_ret (ev_is (w := .bl true) (ev_notV (ev_isXT (tA := tNil) (us := [.ref cNF, .ref cTM, .ref cND, .ref cNV]) (ev_var rfl) (eu_tup (ea_cons ev_c (ea_cons ev_c (ea_cons ev_c (ea_cons ev_c ea_nil)))) (by show 4 ≤ 100000; decide)) (e4 _ _ upd_same) EC (.cons (.own _) (.cons (.own _) (.cons (.own _) (.cons (.own _) .nil)))) i3)) rfl) fun H5 e5 => q H5 (((X3.trans (Ex.new na)).trans e4).trans e5)
end
end NF

namespace NF
open PySem PySem.Spec PyProof.Rows L2 Evl
abbrev s__law_number : Stmt := topS 16
theorem sc__law_number : FnScope ["_law_state", "_law_most"] ["_law_state"] (defScope s__law_number) := ⟨rfl, rfl, rfl, by decide +kernel, rfl, by decide +kernel, by decide +kernel⟩
abbrev s__law_odd : Stmt := topS 20
theorem sc__law_odd : FnScope ["_law_state", "_law_upper", "_law_some"] ["_law_state", "_law_upper"] (defScope s__law_odd) := ⟨rfl, rfl, rfl, by decide +kernel, rfl, by decide +kernel, by decide +kernel⟩
abbrev s__law_truths : Stmt := topS 22
theorem sc__law_truths : FnScope ["_law_thing", "_law_told"] ["_law_thing"] (defScope s__law_truths) := ⟨rfl, rfl, rfl, by decide +kernel, rfl, by decide +kernel, by decide +kernel⟩
section
variable {K : PySem.W.Frag} {H H1 H2 : Hp} {σ : L2.St} {ta tb te tl : TE} {x y z : Rat} {v w u : V} {B : Nat} {E : XK} {D : Ends} {tz t1 t2 : TS} {tc : TT} {b c r : Bool}
theorem Exs.ex {st : Addr} (h : H st = none) (e : Exs st H H1) : Ex H H1 := fun b o hb => e b o (ne_of_none hb h) hb
theorem tyx_exs {st : Addr} {t : Value} (h : TyX K H v t) (e : Exs st H H1) (s0 : StA st H) (s1 : StA st H1) : TyX K H1 v t := by
  obtain ⟨n, m, q, s0⟩ := s0
  obtain ⟨n1, m1, q1, s1⟩ := s1
  cases h with
  | base b =>
    refine .base ?_
    cases b with
    | non => exact .non
    | bl y => exact .bl y
    | int i => exact .int i
    | str y => exact .str y
    | flt y => exact .flt y
    | @lst a xs ea =>
      by_cases c : a = st
      · subst c
        exact .lst s1
      · exact .lst (e _ _ c ea)
    | frz ea => exact .frz (e _ _ (ne_of ea s0 (fun z => by cases z)) ea)
    | tup ea => exact .tup (e _ _ (ne_of ea s0 (fun z => by cases z)) ea)
    | dK ea => exact .dK (e _ _ (ne_of ea s0 (fun z => by cases z)) ea)
    | dT ea => exact .dT (e _ _ (ne_of ea s0 (fun z => by cases z)) ea)
    | ins ea cl ha hn htk hm => exact .ins (e _ _ (ne_of ea s0 (fun z => by cases z)) ea) cl ha hn htk hm
  | byt y => exact .byt y
  | set ea => exact .set (e _ _ (ne_of ea s0 (fun z => by cases z)) ea)
  | kList ea c => exact .kList ea c
  | kTuple ea c => exact .kTuple ea c
  | kDict ea c => exact .kDict ea c
  | fTuple ea => exact .fTuple (e _ _ (ne_of ea s0 (fun z => by cases z)) ea)
  | fDict ea => exact .fDict (e _ _ (ne_of ea s0 (fun z => by cases z)) ea)
theorem Wh.exs {st : Addr} (h : Wh K H v b) (e : Exs st H H1) (s0 : StA st H) (s1 : StA st H1) : Wh K H1 v b := by
  obtain ⟨t, b1, b2, h1, h2⟩ := h
  exact ⟨t, b1, b2, tyx_exs h1 e s0 s1, h2⟩
theorem Fr.exs {st : Addr} (h : Fr K H v b) (e : Exs st H H1) (s0 : StA st H) (s1 : StA st H1) : Fr K H1 v b := by
  cases h with
  | no h1 h2 => exact .no (tyx_exs h1 e s0 s1) h2
  | len h1 h2 => exact .len (e.tup s0 h1) h2
  | two h1 h2 h3 h4 => exact .two (e.tup s0 h1) (h2.exs e s0 s1) (h3.exs e s0 s1) h4
  | nums B h1 h2 h3 h4 h5 => exact .nums B (e.tup s0 h1) h2 h3 h4 h5
def Odd (K : PySem.W.Frag) (v : V) (H : Hp) : Prop := Wh K H v false ∧ ∃ r, Fr K H v r
def Thg (K : PySem.W.Frag) (v : V) (H : Hp) : Prop := ∃ b r, Wh K H v b ∧ Fr K H v r
theorem Odd.mono (h : Odd K v H) (e : Ex H H1) : Odd K v H1 := ⟨h.1.mono e, h.2.imp fun _ z => z.mono e⟩
theorem Odd.exs {st : Addr} (h : Odd K v H) (e : Exs st H H1) (s0 : StA st H) (s1 : StA st H1) : Odd K v H1 := ⟨h.1.exs e s0 s1, h.2.imp fun _ z => z.exs e s0 s1⟩
theorem Odd.thg (h : Odd K v H) : Thg K v H := ⟨false, h.2.elim fun r z => ⟨r, h.1, z⟩⟩
theorem Thg.mono (h : Thg K v H) (e : Ex H H1) : Thg K v H1 := h.elim fun b h => h.elim fun r h => ⟨b, r, h.1.mono e, h.2.mono e⟩
/-! ### values of which a word is known -/
def EvP (te : TE) (σ : L2.St) (H : Hp) (P : V → Hp → Prop) : Prop := ∀ H1, Ex H H1 → ∀ Q : VK, (∀ v H2, Ex H1 H2 → P v H2 → Q v H2) → te σ H1 Q
def EvPs (tA : TA) (σ : L2.St) (H : Hp) (P : V → Hp → Prop) (n : Nat) : Prop := ∀ H1, Ex H H1 → ∀ Q : List V → Hp → Prop, (∀ vs H2, Ex H1 H2 → vs.length = n → (∀ v ∈ vs, P v H2) → Q vs H2) → tA σ H1 Q
def EvLP (te : TE) (σ : L2.St) (H : Hp) (P : V → Hp → Prop) (n : Nat) : Prop := ∀ H1, Ex H H1 → ∀ Q : VK, (∀ p vs H2, H1 p = none → Ex H1 H2 → H2 p = some (.lst vs) → vs.length = n → (∀ v ∈ vs, P v H2) → Q (.ref p) H2) → te σ H1 Q
variable {P : V → Hp → Prop} {n m : Nat}
theorem eps_nil : EvPs tNil σ H P 0 := fun H1 _ Q q => q [] H1 (Ex.refl H1) rfl (fun _ h => nomatch h)
theorem eps_cons {tA : TA} (mo : ∀ {v H1 H2}, P v H1 → Ex H1 H2 → P v H2) (h : EvP te σ H P) (hr : EvPs tA σ H P n) : EvPs (tCons te tA) σ H P (n + 1) := fun H1 e Q q =>
  h H1 e _ fun v H2 e2 hp => hr H2 (e.trans e2) _ fun vs H3 e3 hl hs => q (v :: vs) H3 (e2.trans e3) (congrArg Nat.succ hl) fun y hy => by
    rcases List.mem_cons.mp hy with rfl | hy
    · exact mo hp e3
    · exact hs y hy
theorem elp_lst {tA : TA} (mo : ∀ {v H1 H2}, P v H1 → Ex H1 H2 → P v H2) (h : EvPs tA σ H P n) (hn : n ≤ 100000) : EvLP (tLst tA) σ H P n := fun H1 e Q q =>
  h H1 e _ fun vs H2 e2 hl hs => ⟨sz_of (by omega), fun p hp => q p vs _ (fresh_back e2 hp) (e2.trans (Ex.new hp)) upd_same hl fun v hv => mo (hs v hv) (Ex.new hp)⟩
theorem elp_cat {i : Nat} {p1 : Addr} {vs1 : List V} (mo : ∀ {v H1 H2}, P v H1 → Ex H1 H2 → P v H2) (hσ : σ[i]? = some (some (.ref p1))) (h1 : H p1 = some (.lst vs1)) (hl1 : vs1.length = n) (hs1 : ∀ v ∈ vs1, P v H) (h2 : EvLP tb σ H P m) (hn : n + m ≤ 100000) : EvLP (tOp rCat (tVar i) tb) σ H P (n + m) := fun H1 e Q q =>
  ⟨_, hσ, h2 H1 e _ fun p2 vs2 H2 np e2 hp2 hl2 hs2 => ⟨p1, p2, vs1, vs2, rfl, rfl, (e.trans e2) _ _ h1, hp2, sz_of (by omega), fun t nt => q t _ _ (fresh_back e2 nt) (e2.trans (Ex.new nt)) upd_same (by rw [List.length_append, hl1, hl2]) fun v hv => by
    rcases List.mem_append.mp hv with hv | hv
    · exact mo (hs1 v hv) ((e.trans e2).trans (Ex.new nt))
    · exact mo (hs2 v hv) (Ex.new nt)⟩⟩
theorem ep_ev (h : Ev te σ H v) (hp : ∀ {H1}, Ex H H1 → P v H1) : EvP te σ H P := fun H1 e Q q => h H1 e _ fun H2 e2 => q v H2 e2 (hp (e.trans e2))
theorem ep_any (h : Ev te σ H v) : EvP te σ H fun _ _ => True := fun H1 e Q q => h H1 e _ fun H2 e2 => q v H2 e2 True.intro
theorem ep_lst {tA : TA} (h : EvPs tA σ H (fun _ _ => True) n) (hn : n ≤ 100000) (hp : ∀ {p vs H2}, H2 p = some (.lst vs) → P (.ref p) H2) : EvP (tLst tA) σ H P := fun H1 e Q q =>
  elp_lst (fun _ _ => True.intro) h hn H1 e _ fun p vs H2 _ e2 h2 _ _ => q _ H2 e2 (hp h2)
theorem ep_tup {xs : List V} (h : EvU te σ H xs) (hp : ∀ {p H2}, H2 p = some (.tup xs) → P (.ref p) H2) : EvP te σ H P := fun H1 e Q q => h H1 e _ fun p H2 _ e2 h2 => q _ H2 e2 (hp h2)
theorem ep_dict (hp : ∀ {p H2}, H2 p = some (.dK []) → P (.ref p) H2) : EvP tDNewK σ H P := fun H1 e Q q p np => q _ _ (Ex.new np) (hp upd_same)
theorem ep_two (h1 : EvP ta σ H fun v H => Wh K H v b) (h2 : EvP tb σ H fun v H => Wh K H v c) (hbc : (b && c) = false) : EvP (tTup (tCons ta (tCons tb tNil))) σ H (Thg K) := fun H1 e Q q =>
  h1 H1 e _ fun x H2 e2 hx => h2 H2 (e.trans e2) _ fun y H3 e3 hy => ⟨by show 2 ≤ sizeLine; decide, fun p hp => q _ _ ((e2.trans e3).trans (Ex.new hp)) ⟨false, false, wh_tup (SqT.of upd_same), .two (SqT.of upd_same) ((hx.mono e3).mono (Ex.new hp)) (hy.mono (Ex.new hp)) hbc⟩⟩
theorem odd_lst {p : Addr} {vs : List V} (h : H p = some (.lst vs)) : Odd K (.ref p) H := ⟨wh_lst h, _, fr_lst h⟩
theorem odd_dK {p : Addr} {vs : List (Key × V)} (h : H p = some (.dK vs)) : Odd K (.ref p) H := ⟨wh_dK h, _, fr_dK h⟩
theorem odd_len {p : Addr} {xs : List V} (h : H p = some (.tup xs)) (hl : xs.length ≠ 2) : Odd K (.ref p) H := ⟨wh_tup (SqT.of h), _, .len (SqT.of h) hl⟩
theorem odd_two {p : Addr} {i j : Int} (B : Nat) (h : H p = some (.tup [.int i, .int j])) (hi : i.natAbs < 2 ^ B) (hj : j.natAbs < 2 ^ B) (h0 : 0 < B) (h9 : B ≤ 9000) : Odd K (.ref p) H := ⟨wh_tup (SqT.of h), _, .nums B (SqT.of h) hi hj h0 h9⟩
theorem odd_non : Odd K .non H := ⟨wh_non, _, fr_non⟩
theorem odd_bl (b : Bool) : Odd K (.bl b) H := ⟨wh_bl b, _, fr_bl b⟩
theorem odd_str (x : Str) : Odd K (.str x) H := ⟨wh_str x, _, fr_str x⟩
/-! ### raw steps -/
theorem q_raw {i : Nat} (h : te σ H fun x H1 => tz D (σ.set i (some x)) H1) : tSeq (tAsg te (gName i)) tz D σ H := h
theorem s_raw (h : te σ H D.rt) : tRet te D σ H := h
theorem op_raw {r : R2} {Q : VK} (h : ta σ H fun x H1 => tb σ H1 fun y H2 => r x y H2 Q) : tOp r ta tb σ H Q := h
theorem take_ev {i : Nat} {st : Addr} {Q : VK} (many : Int) (h1 : σ[i]? = some (some (.ref st))) (hb : Ev tb σ H (.int many)) (hs : StA st H) (h0 : 0 < many) (hm : many.natAbs < 2 ^ 8000)
    (q : ∀ d H', 0 ≤ d → d < many → StA st H' → Exs st H H' → Q (.int d) H') : tCall spTake [] E (tCons (tVar i) (tCons tb tNil)) σ H Q :=
  ⟨_, h1, hb H (Ex.refl H) _ fun H1 e => ⟨st, many, rfl, hs.mono e, h0, hm, fun d H' a b c x => q d H' a b c ((Exs.of e).trans x)⟩⟩
theorem cons_raw {tA : TA} {Q : List V → Hp → Prop} (h : ta σ H fun x H1 => tA σ H1 fun xs H2 => Q (x :: xs) H2) : tCons ta tA σ H Q := h
theorem lst_raw {tA : TA} {Q : VK} (h : tA σ H fun xs H1 => xs.length ≤ sizeLine ∧ ∀ p, H1 p = none → Q (.ref p) (upd H1 p (.lst xs))) : tLst tA σ H Q := h
def spNum : Sp := fun vs H Q _ => ∃ st : Addr, vs = [.ref st] ∧ StA st H ∧ ∀ (n : Int) H', n ≠ 0 → n.natAbs < 2 ^ 197 → StA st H' → Exs st H H' → Q (.int n) H'
def spOdd (K : PySem.W.Frag) : Sp := fun vs H Q _ => ∃ (st : Addr) (u : Int), vs = [.ref st, .int u] ∧ u.natAbs < 2 ^ 200 ∧ StA st H ∧ ∀ v H', Odd K v H' → StA st H' → Exs st H H' → Q v H'
theorem ev_repN {xs : List V} {ds : List PyData} (h : EvL te σ H xs) (hd : ∀ {H2}, DpAll K H2 xs ds) (fin : Fine (.list ds)) : Ev (tCB (rRep K) (tCons te tNil)) σ H (.str (PyData.list ds).shown) := fun H1 e Q q =>
  h H1 e _ fun p H2 _ e2 h2 => ⟨_, _, rfl, .lst (SqL.of h2) hd, fin, q H2 e2⟩
theorem ev_truths (h : Ev ta σ H v) (hv : Thg K v H) : Ev (tCall (spTruths K) [] E (tCons ta tNil)) σ H (.bl true) := fun H1 e Q q =>
  hv.elim fun b z => z.elim fun r z => h H1 e _ fun H2 e2 => ⟨v, b, r, rfl, z.1.mono (e.trans e2), z.2.mono (e.trans e2), fun H' e3 => q H' (e2.trans e3)⟩
end
section
variable {P : Program} {w : World} {K : PySem.W.Frag} {mg : Str → Option Value} {base : Heap} {f : Addr} {fd : FuncData}
theorem ok_frac {dvs : List V} (F : FunD K "fraction" "fraction" (defArgs s_fraction) (defBody s_fraction) (defScope s_fraction) dvs [] f fd) (C_is_whole : Cal P w K mg base 1 "is_whole" ["thing"] [] (spWhole K))
    (C_reduced : Cal P w K mg base 2 "reduced" ["top", "bottom"] [] (spRed K)) : FnOk P w K mg base CX0 3 f fd ["top", "bottom"] (spFrac K) := by
  refine F.ok sc_fraction (fun vs H Q E h => ?_) (fun cdv A outer s H vs Q E hr h => ?_)
  · obtain ⟨_, _, _, rfl, _⟩ := h
    rfl
  · obtain ⟨a, b, B, rfl, hb0, ha, hb, hB0, hB, q⟩ := h
    refine ⟨_, PSs.nox ((pss_cons (ps_if (PW.pt (pw_or (pt_not (pt_val (pe_cal C_is_whole hr (by decide) (by rfl) (pa_cons (pv 0) pa_nil)))) (pw_or (pt_not (pt_val (pe_cal C_is_whole hr (by decide) (by rfl) (pa_cons (pv 1) pa_nil)))) (pw_or1 (pt_cmpR op_eq (pv 1) pe_int (nomark _)))))) (pss_one ps_never) pss_nil)
      (pss_one (ps_ret (pe_cal C_reduced hr (by decide) (by rfl) (pa_cons (pv 0) (pa_cons (pv 1) pa_nil))))))), ?_⟩
    refine q_when (et_or (et_not (et_B (ev_wholeI (ev_var rfl)))) fun _ => et_or (et_not (et_B (ev_wholeI (ev_var rfl)))) fun _ => et_test (ev_op (ev_var rfl) ev_c (rv_eq rfl))) (fun hz => ?_) fun _ H1 e1 => ?_
    · simp at hz
      exact absurd hz hb0
    · exact s_retF (K := K) (ef_red (ev_var rfl) (ev_var rfl) hb0 ha hb hB0 hB) fun u H2 e2 r => q u H2 (e1.trans e2) r
theorem pick4 {d : Int} (h0 : 0 ≤ d) (h : d < 4) : ∃ mo : Int, atI [V.int 3, .int 19, .int ((10 : Int) ^ (6 : Int).toNat), .int ((10 : Int) ^ (59 : Int).toNat)] d = some (.int mo) ∧ 0 < mo ∧ mo ≤ 10 ^ 59 := by
  have : d = 0 ∨ d = 1 ∨ d = 2 ∨ d = 3 := by omega
  rcases this with rfl | rfl | rfl | rfl
  · exact ⟨3, rfl, by decide, by decide⟩
  · exact ⟨19, rfl, by decide, by decide⟩
  · exact ⟨_, rfl, by decide, by decide⟩
  · exact ⟨_, rfl, by decide, by decide⟩
theorem pick2 {d : Int} (h0 : 0 ≤ d) (h : d < 2) : ∃ mo : Int, atI [V.int 1, .int (-1)] d = some (.int mo) ∧ (mo = 1 ∨ mo = -1) := by
  have : d = 0 ∨ d = 1 := by omega
  rcases this with rfl | rfl
  · exact ⟨1, rfl, .inl rfl⟩
  · exact ⟨-1, rfl, .inr rfl⟩
theorem bits197 {i : Int} (h : i ≤ 10 ^ 59) (h0 : -(10 ^ 59) ≤ i) : i.natAbs < 2 ^ 197 := by
  have e : (10 : Int) ^ 59 = 100000000000000000000000000000000000000000000000000000000000 := by decide
  have e2 : (2 : Nat) ^ 197 = 200867255532373784442745261542645325315275374222849104412672 := by decide
  omega
theorem ok_number (F : Fun K "_law_number" "_law_number" s__law_number f fd) (C__law_take : Cal P w K mg base 1 "_law_take" ["_law_state", "_law_many"] [] spTake) : FnOk P w K mg base CX0 2 f fd ["_law_state"] spNum := by
  refine F.ok sc__law_number (fun vs H Q E h => ?_) (fun cdv A outer s H vs Q E hr h => ?_)
  · obtain ⟨_, rfl, _⟩ := h
    rfl
  · obtain ⟨st, rfl, hs, q⟩ := h
    refine ⟨_, (pss_cons (ps_set (i := 1) sc__law_number.nd rfl (.inl rfl) (pe_ix ix_list (pe_lst (pa_cons pe_int (pa_cons pe_int (pa_cons (pe_op op_pow pe_int pe_int) (pa_cons (pe_op op_pow pe_int pe_int) pa_nil))))) (pe_cal C__law_take hr (by decide) (by rfl) (pa_cons (pv 0) (pa_cons pe_int pa_nil))) (fun _ _ => rfl)))
      (pss_one (ps_ret (pe_op op_mul (pe_op op_add (pe_cal C__law_take hr (by decide) (by rfl) (pa_cons (pv 0) (pa_cons (pv 1) pa_nil))) pe_int) (pe_ix ix_list (pe_lst (pa_cons pe_int (pa_cons (pe_un un_neg pe_int) pa_nil))) (pe_cal C__law_take hr (by decide) (by rfl) (pa_cons (pv 0) (pa_cons pe_int pa_nil))) (fun _ _ => rfl)))))), ?_⟩
    obtain ⟨n, m, c, hst⟩ := id hs
    refine q_raw (op_raw ?_)
    refine el_lst (H := H) (ea_cons ev_c (ea_cons ev_c (ea_cons (ev_op ev_c ev_c (rv_I (i := 10) (j := 6) (C := CPow) (g := fun i j => .int (i ^ j.toNat)) ⟨by decide, by decide, by decide⟩)) (ea_cons (ev_op ev_c ev_c (rv_I (i := 10) (j := 59) (C := CPow) (g := fun i j => .int (i ^ j.toNat)) ⟨by decide, by decide, by decide⟩)) ea_nil)))) (by show 4 ≤ 100000; decide) H (Ex.refl H) _ fun p H1 np x1 hp => ?_
    have nps : p ≠ st := (ne_of_none hst np).symm
    refine take_ev 4 rfl ev_c (hs.mono x1) (by decide) (by decide +kernel) fun d H2 d0 d4 hs2 x2 => ?_
    obtain ⟨mo, hmo, mo0, mo1⟩ := pick4 d0 d4
    refine ⟨p, _, d, .int mo, rfl, rfl, SqL.of (x2 _ _ nps hp), hmo, ?_⟩
    have hmb : mo.natAbs < 2 ^ 8000 := small_bits (by omega) (Int.le_trans mo1 (by decide +kernel))
    refine s_raw (op_raw (op_raw ?_))
    refine take_ev mo rfl (ev_var rfl) hs2 mo0 hmb fun e H3 e0 e1 hs3 x3 => ?_
    refine ⟨e, 1, rfl, rfl, ?_⟩
    refine op_raw ?_
    obtain ⟨n3, m3, c3, hst3⟩ := id hs3
    refine el_lst (H := H3) (ea_cons ev_c (ea_cons (ev_un ev_c ru_neg) ea_nil)) (by show 2 ≤ 100000; decide) H3 (Ex.refl H3) _ fun p4 H4 np4 x4 hp4 => ?_
    have nps4 : p4 ≠ st := (ne_of_none hst3 np4).symm
    refine take_ev 2 rfl ev_c (hs3.mono x4) (by decide) (by decide +kernel) fun d5 H5 d50 d51 hs5 x5 => ?_
    obtain ⟨sg, hsg, hsg1⟩ := pick2 d50 d51
    refine ⟨p4, _, d5, .int sg, rfl, rfl, SqL.of (x5 _ _ nps4 hp4), hsg, ?_⟩
    refine ⟨e + 1, sg, rfl, rfl, .inr (by rcases hsg1 with rfl | rfl <;> exact ⟨by decide, by decide⟩), ?_⟩
    refine q _ H5 (by rcases hsg1 with rfl | rfl <;> omega) (by rcases hsg1 with rfl | rfl <;> exact bits197 (by omega) (by omega)) hs5 ((((Exs.of x1).trans x2).trans x3).trans ((Exs.of x4).trans x5))
theorem ok_odd (F : Fun K "_law_odd" "_law_odd" s__law_odd f fd) (C__law_take : Cal P w K mg base 1 "_law_take" ["_law_state", "_law_many"] [] spTake) : FnOk P w K mg base CX0 2 f fd ["_law_state", "_law_upper"] (spOdd K) := by
  refine F.ok sc__law_odd (fun vs H Q E h => ?_) (fun cdv A outer s H vs Q E hr h => ?_)
  · obtain ⟨_, _, rfl, _⟩ := h
    rfl
  · obtain ⟨st, u, rfl, hu, hs, q⟩ := h
    refine ⟨_, (pss_cons (ps_set (i := 2) sc__law_odd.nd rfl (.inl rfl) (pe_lst (pa_cons pe_non (pa_cons pe_bl (pa_cons pe_bl (pa_cons pe_str (pa_cons pe_str (pa_cons (pe_lst pa_nil) (pa_cons (pe_lst (pa_cons (pv 1) pa_nil)) (pa_cons (pe_tup (pa_cons (pv 1) pa_nil)) (pa_cons (pe_tup (pa_cons (pv 1) (pa_cons pe_int pa_nil))) (pa_cons pe_dnewK (pa_cons pe_str (pa_cons (pe_lst (pa_cons pe_str pa_nil)) (pa_cons (pe_tup pa_nil) (pa_cons (pe_lst (pa_cons pe_non pa_nil)) (pa_cons (pe_disp (pps_cons pe_int pe_int pps_nil) (by rfl) (by rfl) (fun z => by cases z) (by decide)) pa_nil)))))))))))))))))
      (pss_one (ps_ret (pe_ix ix_list (pe_op op_cat (pv 2) (pe_lst (pa_cons (pe_tup (pa_cons pe_int (pa_cons pe_int pa_nil))) (pa_cons (pe_lst (pa_cons (pe_tup (pa_cons pe_int (pa_cons pe_int pa_nil))) pa_nil)) (pa_cons pe_str pa_nil))))) (pe_cal C__law_take hr (by decide) (by rfl) (pa_cons (pv 0) (pa_cons pe_int pa_nil))) (fun _ _ => rfl))))), ?_⟩
    have mo : ∀ {v : V} {H1 H2 : Hp}, Odd K v H1 → Ex H1 H2 → Odd K v H2 := fun h e => h.mono e
    have b1 : (1 : Int).natAbs < 2 ^ 200 := by decide
    have b2 : (2 : Int).natAbs < 2 ^ 200 := by decide
    have t12 : ∀ {σ : L2.St} {H : Hp}, EvP (tTup (tCons (tC (.int 1)) (tCons (tC (.int 2)) tNil))) σ H (Odd K) := ep_tup (eu_tup (ea_cons ev_c (ea_cons ev_c ea_nil)) (by show 2 ≤ 100000; decide)) fun h => odd_two 200 h b1 b2 (by decide) (by decide)
    have any12 : ∀ {σ : L2.St} {H : Hp}, EvP (tTup (tCons (tC (.int 1)) (tCons (tC (.int 2)) tNil))) σ H (fun _ _ => True) := fun H1 e Q q => t12 H1 e Q fun v H2 e2 _ => q v H2 e2 True.intro
    have ed : ∀ {σ : L2.St} {H : Hp}, EvP (tDisp [(tC (.int 1), tC (.int 2))]) σ H (Odd K) := fun H1 e Q q p np => ⟨upd_same, [(Sum.inl 1, .int 2)], rfl, by decide, q _ _ (by rw [upd_upd]; exact Ex.new np) (odd_dK upd_same)⟩
    have L1 : EvLP _ (start ["_law_state", "_law_upper", "_law_some"] [.ref st, .int u]) H (Odd K) 15 := elp_lst mo
      (eps_cons mo (ep_ev (te := tC .non) ev_c fun _ => odd_non) (eps_cons mo (ep_ev (te := tC (.bl true)) ev_c fun _ => odd_bl _) (eps_cons mo (ep_ev (te := tC (.bl false)) ev_c fun _ => odd_bl _) (eps_cons mo (ep_ev (te := tC (.str "1")) ev_c fun _ => odd_str _) (eps_cons mo (ep_ev (te := tC (.str "")) ev_c fun _ => odd_str _)
      (eps_cons mo (ep_lst (tA := tNil) eps_nil (by decide) odd_lst) (eps_cons mo (ep_lst (tA := tCons (tVar 1) tNil) (eps_cons (fun _ _ => True.intro) (ep_any (ev_var rfl)) eps_nil) (by decide) odd_lst)
      (eps_cons mo (ep_tup (te := tTup (tCons (tVar 1) tNil)) (eu_tup (ea_cons (ev_var rfl) ea_nil) (by show 1 ≤ 100000; decide)) fun h => odd_len h (by show 1 ≠ 2; decide)) (eps_cons mo (ep_tup (te := tTup (tCons (tVar 1) (tCons (tC (.int 1)) tNil))) (eu_tup (ea_cons (ev_var rfl) (ea_cons ev_c ea_nil)) (by show 2 ≤ 100000; decide)) fun h => odd_two 200 h hu b1 (by decide) (by decide))
      (eps_cons mo (ep_dict odd_dK) (eps_cons mo (ep_ev (te := tC (.str "a/b")) ev_c fun _ => odd_str _) (eps_cons mo (ep_lst (tA := tCons (tC (.str "1")) tNil) (eps_cons (fun _ _ => True.intro) (ep_any ev_c) eps_nil) (by decide) odd_lst)
      (eps_cons mo (ep_tup (te := tTup tNil) (eu_tup ea_nil (by show 0 ≤ 100000; decide)) fun h => odd_len h (by show 0 ≠ 2; decide)) (eps_cons mo (ep_lst (tA := tCons (tC .non) tNil) (eps_cons (fun _ _ => True.intro) (ep_any ev_c) eps_nil) (by decide) odd_lst) (eps_cons mo ed eps_nil))))))))))))))) (by decide)
    refine q_raw (L1 H (Ex.refl H) _ fun p vs H1 np e1 hp hl hv => ?_)
    refine s_raw (op_raw ?_)
    refine elp_cat (n := 15) (m := 3) (P := Odd K) mo rfl hp hl hv (elp_lst mo (eps_cons mo t12 (eps_cons mo (ep_lst (eps_cons (fun _ _ => True.intro) any12 eps_nil) (by decide) odd_lst) (eps_cons mo (ep_ev ev_c fun _ => odd_str _) eps_nil))) (by decide)) (by decide) H1 (Ex.refl H1) _ fun p2 vs2 H2 np2 e2 hp2 hl2 hv2 => ?_
    have hs2 := (hs.mono e1).mono e2
    obtain ⟨_, _, _, hst1⟩ := id (hs.mono e1)
    have nps : p2 ≠ st := (ne_of_none hst1 np2).symm
    refine take_ev 18 rfl ev_c hs2 (by decide) (by decide +kernel) fun d H3 d0 d18 hs3 x3 => ?_
    have hj : d.toNat < vs2.length := by omega
    refine ⟨p2, vs2, d, vs2[d.toNat], rfl, rfl, SqL.of (x3 _ _ nps hp2), ?_, ?_⟩
    · exact at_of (j := d.toNat) (by omega) (List.getElem?_eq_getElem hj)
    · exact q _ H3 ((hv2 _ (List.getElem_mem hj)).exs x3 hs2 hs3) hs3 ((Exs.of (e1.trans e2)).trans x3)
theorem ok_truths (F : Fun K "_law_truths" "_law_truths" s__law_truths f fd) (n_repr : mg "repr" = none) (C_is_whole : CaG P w K mg base CX0 1 "is_whole" ["thing"] [] (spWhole K)) (C_is_fraction : CaG P w K mg base CX0 2 "is_fraction" ["thing"] [] (spFr K))
    (C__law_whole : CaG P w K mg base CX0 1 "_law_whole" ["_law_thing"] [] (spWhole K)) (C__law_is_fraction : CaG P w K mg base CX0 2 "_law_is_fraction" ["_law_thing"] [] (spFr K)) : FnG P w K mg base CX0 3 f fd ["_law_thing"] (spTruths K) := by
  refine Fun.okG F sc__law_truths (fun vs H Q E h => ?_) (fun cdv A outer s H vs Q E gd hr h => ?_)
  · obtain ⟨_, _, _, rfl, _⟩ := h
    rfl
  · obtain ⟨v, b, r, rfl, hw, hf, q⟩ := h
    refine ⟨_, (pss_cons (ps_set (i := 1) sc__law_truths.nd rfl (.inl rfl) (pe_lst (pa_cons (pe_caG C_is_whole gd hr (by decide) (by rfl) (pa_cons (pv 0) pa_nil)) (pa_cons (pe_caG C_is_fraction gd hr (by decide) (by rfl) (pa_cons (pv 0) pa_nil)) pa_nil))))
      (pss_one (ps_ret (pe_cmpR op_eq (pe_callB (call_rep gd hr.units) (by rfl) n_repr (by decide +kernel) (pa_cons (pv 1) pa_nil)) (pe_callB (call_rep gd hr.units) (by rfl) n_repr (by decide +kernel) (pa_cons (pe_lst (pa_cons (pe_caG C__law_whole gd hr (by decide) (by rfl) (pa_cons (pv 0) pa_nil)) (pa_cons (pe_caG C__law_is_fraction gd hr (by decide) (by rfl) (pa_cons (pv 0) pa_nil)) pa_nil))) pa_nil)) (nomark _))))), ?_⟩
    have fin : Fine (.list [.bool b, .bool r]) := by
      cases b <;> cases r <;> exact ⟨rfl, rfl, by decide, by decide +kernel⟩
    refine q_asgL (el_lst (ea_cons (ev_wh (ev_var rfl) hw) (ea_cons (ev_fr (ev_var rfl) hf) ea_nil)) (by show 2 ≤ 100000; decide)) fun p H1 np e1 hp => ?_
    have r1 : Ev (tCB (rRep K) (tCons (tVar 1) tNil)) [some v, some (.ref p)] H1 (.str (PyData.list [.bool b, .bool r]).shown) := fun H2 e Q q => ⟨_, rfl, _, _, rfl, .lst (SqL.of (e _ _ hp)) (.cons (.bl b) (.cons (.bl r) .nil)), fin, q H2 (Ex.refl H2)⟩
    have l2 : EvL (tLst (tCons (tCall (spWhole K) [] E0 (tCons (tVar 0) tNil)) (tCons (tCall (spFr K) [] E0 (tCons (tVar 0) tNil)) tNil))) [some v, some (.ref p)] H1 [.bl b, .bl r] := el_lst (ea_cons (ev_wh (ev_var rfl) (hw.mono e1)) (ea_cons (ev_fr (ev_var rfl) (hf.mono e1)) ea_nil)) (by show 2 ≤ 100000; decide)
    have r2 := ev_repN (K := K) (ds := [.bool b, .bool r]) l2 (.cons (.bl b) (.cons (.bl r) .nil)) fin
    refine s_ret (ev_is (w := .bl true) (ev_op r1 r2 (rv_eq rfl)) ?_) fun H2 e2 => q H2 (e1.trans e2)
    simp
end
end NF

namespace NF
open PySem PySem.Spec PyProof.Rows L2 Evl
def swap2 {α : Type} : List α → List α
  | [a, b] => [b, a]
  | l => l
abbrev s_law : Stmt := topS 23
theorem sc_law : FnScope ["_law_script", "_law_k", "_law_state", "_law_upper", "_law_base", "_law_due_here", "_law_odd_here", "_law_much", "_law_small", "_law_twice", "_law_forms", "_law_thing"] ["_law_script"] (defScope s_law) := ⟨rfl, rfl, rfl, by decide +kernel, rfl, by decide +kernel, by decide +kernel⟩
section
variable {K : PySem.W.Frag} {H H1 H2 : Hp} {σ : L2.St} {ta tb te tl : TE} {x y z : Rat} {v w u : V} {B : Nat} {E : XK} {D : Ends} {tz t1 t2 tu : TS} {tc : TT} {P : V → Hp → Prop} {n : Nat}
theorem begun_ev {i j : Nat} {a : Addr} {ns : List Int} {k : Nat} {Q : VK} (h1 : σ[i]? = some (some (.ref a))) (h2 : σ[j]? = some (some (.int (k : Int)))) (ha : SqL K H a (ns.map V.int)) (hl : ns.length ≤ 1000) (hk : k ≤ 1000) (q : ∀ st H', H st = none → Ex H H' → StA st H' → Q (.ref st) H') :
    tCall (spBegun K) [] E (tCons (tVar i) (tCons (tVar j) tNil)) σ H Q := ⟨_, h1, _, h2, a, ns, k, rfl, ha, hl, hk, q⟩
theorem num_ev {i : Nat} {st : Addr} {Q : VK} (h1 : σ[i]? = some (some (.ref st))) (hs : StA st H) (q : ∀ (n : Int) H', n ≠ 0 → n.natAbs < 2 ^ 197 → StA st H' → Exs st H H' → Q (.int n) H') : tCall spNum [] E (tCons (tVar i) tNil) σ H Q := ⟨_, h1, st, rfl, hs, q⟩
theorem odd_ev {i j : Nat} {st : Addr} {o : Int} {Q : VK} (h1 : σ[i]? = some (some (.ref st))) (h2 : σ[j]? = some (some (.int o))) (ho : o.natAbs < 2 ^ 200) (hs : StA st H) (q : ∀ v H', Odd K v H' → StA st H' → Exs st H H' → Q v H') : tCall (spOdd K) [] E (tCons (tVar i) (tCons (tVar j) tNil)) σ H Q := ⟨_, h1, _, h2, st, o, rfl, ho, hs, q⟩
theorem mul_raw {Q : VK} {up n1 d : Int} (h : up = n1 * d) (c : CMul n1 d) (q : Q (.int up) H) : rI CMul (fun i j => .int (i * j)) (.int n1) (.int d) H Q := ⟨n1, d, rfl, rfl, c, by rw [h] at q; exact q⟩
theorem c_raw {Q : VK} (h : Q v H) : tC v σ H Q := h
theorem ev_min2 {i j : Int} (ha : Ev ta σ H (.int i)) (hb : Ev tb σ H (.int j)) : Ev (tCB (fun xs H Q => ∃ i j, xs = [V.int i, V.int j] ∧ Q (.int (if j < i then j else i)) H) (tCons ta (tCons tb tNil))) σ H (.int (if j < i then j else i)) := fun H1 e Q q =>
  ha H1 e _ fun H2 e2 => hb H2 (e.trans e2) _ fun H3 e3 => ⟨i, j, rfl, q H3 (e2.trans e3)⟩
theorem ef_frac {a b : Int} {tA : TA} {zs dvs : List V} (h : EvA tA σ H zs) (hz : zs ++ dvs = [.int a, .int b]) (hn : b ≠ 0) (ba : a.natAbs < 2 ^ B) (bb : b.natAbs < 2 ^ B) (h0 : 0 < B) (h4 : B ≤ 9000) : EvF K (tCall (spFrac K) dvs E tA) σ H (Rat.divInt a b) := fun H1 e Q q =>
  h H1 e _ fun H2 e2 => ⟨a, b, B, hz, hn, ba, bb, h0, h4, fun u H' e4 ru => q u H' (e2.trans e4) ru⟩
theorem ef_fracW {a b : Int} {tA : TA} {g : {α : Type} → List α → List α} (h : EvA tA σ H [.int b, .int a]) (hg : g [V.int b, V.int a] = [.int a, .int b]) (hn : b ≠ 0) (ba : a.natAbs < 2 ^ B) (bb : b.natAbs < 2 ^ B) (h0 : 0 < B) (h4 : B ≤ 9000) : EvF K (tCallW 2 (spFrac K) g E tA) σ H (Rat.divInt a b) := fun H1 e Q q =>
  h H1 e _ fun H2 e2 => ⟨rfl, a, b, B, hg, hn, ba, bb, h0, h4, fun u H' e4 ru => q u H' (e2.trans e4) ru⟩
theorem ep_rt (h : EvF K te σ H x) (sx : Sz B x) (h0 : 0 < B) (h9 : B ≤ 9000) : EvP te σ H (Thg K) := fun H1 e Q q => h H1 e _ fun v H2 e2 r => q v H2 e2 (by
  obtain ⟨p, rfl, hp⟩ := r
  exact ⟨false, _, wh_tup hp, .nums B hp sx.num sx.den h0 h9⟩)
theorem ep_two9 {i j : Int} (h : EvU te σ H [.int i, .int j]) (hi : i.natAbs < 2 ^ 300) (hj : j.natAbs < 2 ^ 300) : EvP te σ H (Thg K) := ep_tup h fun h => (odd_two 300 h hi hj (by decide) (by decide)).thg
theorem ep_listOf {xs : List V} {p : Addr} (h : Ev ta σ H (.ref p)) (hp : SqT K H p xs) : EvP (tCB (fun xs H Q => ∃ p ys, xs = [V.ref p] ∧ (SqL K H p ys ∨ SqT K H p ys) ∧ ∀ l, H l = none → Q (.ref l) (upd H l (.lst ys))) (tCons ta tNil)) σ H (Thg K) := fun H1 e Q q =>
  h H1 e _ fun H2 e2 => ⟨p, xs, rfl, .inr (ex_t (e.trans e2) hp), fun l nl => q _ _ (e2.trans (Ex.new nl)) (odd_lst upd_same).thg⟩
theorem ep_catT {p : Addr} {i j : Int} (h : Ev ta σ H (.ref p)) (hp : SqT K H p [.int i, .int j]) (h2 : EvU tb σ H [.int 1]) : EvP (tOp (rCatT K) ta tb) σ H (Thg K) := fun H1 e Q q =>
  h H1 e _ fun H2 e2 => h2 H2 (e.trans e2) _ fun p2 H3 _ e3 hp2 => ⟨p, p2, _, _, rfl, rfl, ex_t ((e.trans e2).trans e3) hp, SqT.of hp2, by simp, by show 3 ≤ sizeLine; decide, by simp, fun _ l nl => q _ _ ((e2.trans e3).trans (Ex.new nl)) (odd_len upd_same (by show 3 ≠ 2; decide)).thg⟩
theorem q_asgLP {i : Nat} (h : EvLP te σ H P n) (k : ∀ p vs H1, H p = none → Ex H H1 → H1 p = some (.lst vs) → vs.length = n → (∀ v ∈ vs, P v H1) → tz D (σ.set i (some (.ref p))) H1) : tSeq (tAsg te (gName i)) tz D σ H := h H (Ex.refl H) _ fun p vs H1 np e hp hl hv => k p vs H1 np e hp hl hv
/-- for x in a new list, whose things are known: nothing is carried but that the heap grows -/
theorem s_forLP {j : Nat} {S : L2.St → Prop} (mo : ∀ {v H1 H2}, P v H1 → Ex H1 H2 → P v H2) (h : EvLP te σ H P n) (hS : S σ) (hs : ∀ H1 v σ' H', Ex H H1 → S σ' → Ex H1 H' → P v H' → tu { D with nx := fun σ2 H2 => S σ2 ∧ Ex H1 H2, ct := fun σ2 H2 => S σ2 ∧ Ex H1 H2, bk := D.nx } (σ'.set j (some v)) H')
    (hd : ∀ σ' H', S σ' → Ex H H' → D.nx σ' H') : tFor (iList K te) (gName j) tu D σ H :=
  h H (Ex.refl H) _ fun p vs H1 np e hp hl hv => ⟨p, rfl, ⟨vs, sq_of hp⟩, for_list (fun i σ' H' => S σ' ∧ Ex H1 H') ⟨hS, Ex.refl H1⟩ (fun i σ' H' _ q => sq_of (q.2 _ _ hp)) (fun i x σ' H' hi q =>
    hs H1 x σ' H' e q.1 q.2 (mo (hv x (List.mem_of_getElem? hi)) q.2)) (fun σ' H' q => hd σ' H' q.1 (e.trans q.2))⟩
end
section
variable {P : Program} {w : World} {K : PySem.W.Frag} {mg : Str → Option Value} {base : Heap} {f : Addr} {fd : FuncData}
theorem bits_n4 {n d : Int} (hn : n.natAbs < 2 ^ 197) (h0 : 0 ≤ d) (h4 : d < 4) : (n * d).natAbs < 2 ^ 200 := by
  have h : d.natAbs < 2 ^ 2 := by omega
  exact bits_up (bits_mul hn h) (by decide)
theorem one_div (u : Int) : (Rat.divInt u 1).num = u ∧ ((Rat.divInt u 1).den : Int) = 1 := (low_iff (by decide)).mpr (Int.gcd_one_right ..)
theorem div_much {s t m : Int} (h : m ≠ 0) : Rat.divInt (s * m) (t * m) = Rat.divInt s t := Rat.divInt_mul_right h
def spLaw (K : PySem.W.Frag) : Sp := fun vs H Q _ => ∃ (a : Addr) (ns : List Int), vs = [.ref a] ∧ SqL K H a (ns.map V.int) ∧ ns.length ≤ 63 ∧ ∀ H', Q (.bl true) H'
theorem ok_law (F : Fun K "law" "law" s_law f fd) (n_range : mg "range" = none) (n_max : mg "max" = none) (n_min : mg "min" = none) (n_len : mg "len" = none) (n_repr : mg "repr" = none) (n_list : mg "list" = none)
    (C__law_begun : CaG P w K mg base CX0 1 "_law_begun" ["_law_script", "_law_k"] [] (spBegun K)) (C__law_take : CaG P w K mg base CX0 1 "_law_take" ["_law_state", "_law_many"] [] spTake) (C__law_number : CaG P w K mg base CX0 2 "_law_number" ["_law_state"] [] spNum)
    (C__law_due : CaG P w K mg base CX0 1 "_law_due" ["_law_upper", "_law_base"] [] (spDue K)) (C_fraction2 : CaG P w K mg base CX0 3 "fraction" ["top", "bottom"] [] (spFrac K)) (C_fraction1 : CaG P w K mg base CX0 3 "fraction" ["top", "bottom"] [.int 1] (spFrac K))
    (C_fraction_bottom_top : CaK P w K mg base 3 "fraction" ["top", "bottom"] ["bottom", "top"] swap2 (spFrac K)) (C__law_refused : CaG P w K mg base CX0 4 "_law_refused" ["_law_upper", "_law_base"] [] (spRef K)) (C__law_odd : CaG P w K mg base CX0 2 "_law_odd" ["_law_state", "_law_upper"] [] (spOdd K))
    (C__law_truths : CaG P w K mg base CX0 3 "_law_truths" ["_law_thing"] [] (spTruths K)) : FnG P w K mg base CX0 5 f fd ["_law_script"] (spLaw K) := by
  refine Fun.okG F sc_law (fun vs H Q E h => ?_) (fun cdv A outer s H vs Q E gd hr h => ?_)
  · obtain ⟨a, ns, rfl, _⟩ := h
    rfl
  · obtain ⟨a, ns, rfl, ha, hlen, q⟩ := h
    refine ⟨_, (pss_cons (ps_for PassesOwn.never rfl (pi_range1 (by rfl) n_range (pa_cons (pe_callB (call_max2 rfl) (by rfl) n_max PyProof.Rows.boot_max (pa_cons pe_int (pa_cons (pe_callB (call_min2 rfl) (by rfl) n_min PyProof.Rows.boot_min (pa_cons pe_int (pa_cons (pe_callB call_len_seq (by rfl) n_len PySem.boot_len (pa_cons (pv 0) pa_nil)) pa_nil))) pa_nil))) pa_nil)) (pg_name (i := 1) sc_law.nd rfl (.inl rfl)) (pss_cons (ps_set (i := 2) sc_law.nd rfl (.inl rfl) (pe_caG C__law_begun gd hr (by decide) (by rfl) (pa_cons (pv 0) (pa_cons (pv 1) pa_nil))))
      (pss_cons (ps_set (i := 3) sc_law.nd rfl (.inl rfl) (pe_op op_mul (pe_caG C__law_number gd hr (by decide) (by rfl) (pa_cons (pv 2) pa_nil)) (pe_caG C__law_take gd hr (by decide) (by rfl) (pa_cons (pv 2) (pa_cons pe_int pa_nil)))))
      (pss_cons (ps_set (i := 4) sc_law.nd rfl (.inl rfl) (pe_caG C__law_number gd hr (by decide) (by rfl) (pa_cons (pv 2) pa_nil)))
      (pss_cons (ps_set (i := 5) sc_law.nd rfl (.inl rfl) (pe_caG C__law_due gd hr (by decide) (by rfl) (pa_cons (pv 3) (pa_cons (pv 4) pa_nil))))
      (pss_cons (ps_if (PW.pt (pw_or (pt_cmpR op_ne (pe_callB (call_rep gd hr.units) (by rfl) n_repr (by decide +kernel) (pa_cons (pe_caG C_fraction2 gd hr (by decide) (by rfl) (pa_cons (pv 3) (pa_cons (pv 4) pa_nil))) pa_nil)) (pe_callB (call_rep gd hr.units) (by rfl) n_repr (by decide +kernel) (pa_cons (pv 5) pa_nil)) (nomark _)) (pw_or1 (pt_cmpR op_ne (pe_callB (call_rep gd hr.units) (by rfl) n_repr (by decide +kernel) (pa_cons (pe_caK C_fraction_bottom_top gd hr (by decide) (by rfl) (pk_cons (pv 4) (pk_cons (pv 3) pk_nil))) pa_nil)) (pe_callB (call_rep gd hr.units) (by rfl) n_repr (by decide +kernel) (pa_cons (pv 5) pa_nil)) (nomark _))))) (pss_one (ps_ret pe_bl)) pss_nil)
      (pss_cons (ps_if (PW.pt (pw_or (pt_cmpR op_ne (pe_callB (call_rep gd hr.units) (by rfl) n_repr (by decide +kernel) (pa_cons (pe_caG C_fraction1 gd hr (by decide) (by rfl) (pa_cons (pv 3) pa_nil)) pa_nil)) (pe_callB (call_rep gd hr.units) (by rfl) n_repr (by decide +kernel) (pa_cons (pe_tup (pa_cons (pv 3) (pa_cons pe_int pa_nil))) pa_nil)) (nomark _)) (pw_or1 (pt_not (pt_val (pe_caG C__law_refused gd hr (by decide) (by rfl) (pa_cons (pv 3) (pa_cons pe_int pa_nil)))))))) (pss_one (ps_ret pe_bl)) pss_nil)
      (pss_cons (ps_set (i := 6) sc_law.nd rfl (.inl rfl) (pe_caG C__law_odd gd hr (by decide) (by rfl) (pa_cons (pv 2) (pa_cons (pv 3) pa_nil))))
      (pss_cons (ps_if (PW.pt (pw_or (pt_not (pt_val (pe_caG C__law_refused gd hr (by decide) (by rfl) (pa_cons (pv 6) (pa_cons (pv 4) pa_nil))))) (pw_or (pt_not (pt_val (pe_caG C__law_refused gd hr (by decide) (by rfl) (pa_cons (pv 3) (pa_cons (pv 6) pa_nil))))) (pw_or1 (pt_not (pt_val (pe_caG C__law_refused gd hr (by decide) (by rfl) (pa_cons (pv 6) (pa_cons pe_int pa_nil))))))))) (pss_one (ps_ret pe_bl)) pss_nil)
      (pss_cons (ps_set (i := 7) sc_law.nd rfl (.inl rfl) (pe_op op_add pe_int (pe_caG C__law_take gd hr (by decide) (by rfl) (pa_cons (pv 2) (pa_cons (pe_op op_pow pe_int pe_int) pa_nil)))))
      (pss_cons (ps_set (i := 8) sc_law.nd rfl (.inl rfl) (pe_lst (pa_cons (pe_caG C__law_take gd hr (by decide) (by rfl) (pa_cons (pv 2) (pa_cons (pe_op op_pow pe_int pe_int) pa_nil))) (pa_cons (pe_op op_add pe_int (pe_caG C__law_take gd hr (by decide) (by rfl) (pa_cons (pv 2) (pa_cons (pe_op op_pow pe_int pe_int) pa_nil)))) pa_nil))))
      (pss_cons (ps_if (pt_cmpR op_ne (pe_callB (call_rep gd hr.units) (by rfl) n_repr (by decide +kernel) (pa_cons (pe_caG C_fraction2 gd hr (by decide) (by rfl) (pa_cons (pe_op op_mul (pe_ix ix_list (pv 8) pe_int (fun _ _ => rfl)) (pv 7)) (pa_cons (pe_op op_mul (pe_ix ix_list (pv 8) pe_int (fun _ _ => rfl)) (pv 7)) pa_nil))) pa_nil)) (pe_callB (call_rep gd hr.units) (by rfl) n_repr (by decide +kernel) (pa_cons (pe_caG C__law_due gd hr (by decide) (by rfl) (pa_cons (pe_ix ix_list (pv 8) pe_int (fun _ _ => rfl)) (pa_cons (pe_ix ix_list (pv 8) pe_int (fun _ _ => rfl)) pa_nil))) pa_nil)) (nomark _)) (pss_one (ps_ret pe_bl)) pss_nil)
      (pss_cons (ps_set (i := 9) sc_law.nd rfl (.inl rfl) (pe_tup (pa_cons (pe_op op_mul (pe_ix ix_tup (pv 5) pe_int (fun _ _ => rfl)) pe_int) (pa_cons (pe_op op_mul (pe_ix ix_tup (pv 5) pe_int (fun _ _ => rfl)) pe_int) pa_nil))))
      (pss_cons (ps_set (i := 10) sc_law.nd rfl (.inl rfl) (pe_lst (pa_cons (pv 5) (pa_cons (pe_callTy call_list_of (by rfl) n_list (by decide +kernel) (pa_cons (pv 5) pa_nil)) (pa_cons (pv 9) (pa_cons (pe_tup (pa_cons (pe_op op_sub pe_int (pe_ix ix_tup (pv 5) pe_int (fun _ _ => rfl))) (pa_cons (pe_op op_sub pe_int (pe_ix ix_tup (pv 5) pe_int (fun _ _ => rfl))) pa_nil))) (pa_cons (pe_tup (pa_cons (pe_ix ix_tup (pv 5) pe_int (fun _ _ => rfl)) (pa_cons pe_bl pa_nil))) (pa_cons (pe_op op_catT (pv 5) (pe_tup (pa_cons pe_int pa_nil))) (pa_cons (pe_tup (pa_cons (pe_ix ix_tup (pv 5) pe_int (fun _ _ => rfl)) (pa_cons pe_int pa_nil))) pa_nil)))))))))
      (pss_cons (ps_set (i := 10) sc_law.nd rfl (.inl rfl) (pe_op op_cat (pv 10) (pe_lst (pa_cons (pe_tup (pa_cons (pv 3) (pa_cons (pv 4) pa_nil))) (pa_cons (pv 6) (pa_cons (pv 3) (pa_cons (pe_ix ix_tup (pv 5) pe_int (fun _ _ => rfl)) (pa_cons (pe_tup (pa_cons (pe_ix ix_tup (pv 5) pe_int (fun _ _ => rfl)) (pa_cons pe_non pa_nil))) (pa_cons (pe_tup (pa_cons (pe_lst (pa_cons (pe_ix ix_tup (pv 5) pe_int (fun _ _ => rfl)) pa_nil)) (pa_cons (pe_ix ix_tup (pv 5) pe_int (fun _ _ => rfl)) pa_nil))) (pa_cons (pe_tup (pa_cons pe_dnewK (pa_cons pe_int pa_nil))) pa_nil))))))))))
      (pss_one (ps_for PassesOwn.never rfl (pi_list (pe_op op_cat (pv 10) (pe_lst (pa_cons (pe_tup (pa_cons pe_str (pa_cons (pe_ix ix_tup (pv 5) pe_int (fun _ _ => rfl)) pa_nil))) (pa_cons (pe_tup (pa_cons pe_bl (pa_cons pe_int pa_nil))) (pa_cons (pe_tup (pa_cons pe_int (pa_cons pe_int pa_nil))) pa_nil)))))) (pg_name (i := 11) sc_law.nd rfl (.inl rfl)) (pss_one (ps_if (pt_not (pt_val (pe_caG C__law_truths gd hr (by decide) (by rfl) (pa_cons (pv 11) pa_nil)))) (pss_one (ps_ret pe_bl)) pss_nil)))))))))))))))))))
      (pss_one (ps_ret pe_bl))), ?_⟩
    refine q_forR1 (ea_cons (ev_max2 ev_c (ev_min2 ev_c (ev_len (ev_var rfl) ha))) ea_nil) (by rw [List.length_map]; split <;> (try split) <;> omega)
      (fun i σ' H' => ∃ y1 y2 y3 y4 y5 y6 y7 y8 y9 y10 y11, σ' = [some (.ref a), y1, y2, y3, y4, y5, y6, y7, y8, y9, y10, y11] ∧ Ex H H') (fun H1 e1 => ⟨none, none, none, none, none, none, none, none, none, none, none, rfl, e1⟩) ?_ ?_
    · rintro i σ' H0 hi ⟨y1, y2, y3, y4, y5, y6, y7, y8, y9, y10, y11, rfl, ex0⟩
      have hi63 : i ≤ 1000 := by
        rw [List.length_map] at hi
        have : (i : Int) < 1000 := Int.lt_of_lt_of_le hi (by split <;> (try split) <;> omega)
        omega
      refine q_raw ?_
      refine begun_ev (k := i) rfl rfl (ex_l ex0 ha) (by omega) hi63 fun st H1 nst e1 hs1 => ?_
      refine q_raw (op_raw ?_)
      refine num_ev rfl hs1 fun n1 H2 n10 n1b hs2 x2 => ?_
      refine take_ev 4 rfl ev_c hs2 (by decide) (by decide +kernel) fun d H3 d0 d4 hs3 x3 => ?_
      have hub0 := bits_n4 n1b d0 d4
      obtain ⟨up, hup⟩ : ∃ up : Int, up = n1 * d := ⟨_, rfl⟩
      have hub : up.natAbs < 2 ^ 200 := by
        rw [hup]
        exact hub0
      refine mul_raw hup (.inr ⟨by omega, by omega⟩) ?_
      refine q_raw ?_
      refine num_ev rfl hs3 fun b H4 b0 bb197 hs4 x4 => ?_
      have hbb : b.natAbs < 2 ^ 200 := bits_up bb197 (by decide)
      refine q_asgF (K := K) (ef_due (B := 200) (ev_var rfl) (ev_var rfl) b0 hub hbb (by decide) (by decide)) fun u5 H5 e5 r5 => ?_
      have hs5 := hs4.mono e5
      have sd : Sz 200 (Rat.divInt up b) := sz_div hub hbb b0
      have vd : ∀ {y6 y7 y8 y9 y10 y11 H'}, Rt K H' u5 (Rat.divInt up b) → EvF K (tVar 5) [some (.ref a), some (.int (i : Int)), some (.ref st), some (.int up), some (.int b), some u5, y6, y7, y8, y9, y10, y11] H' (Rat.divInt up b) := fun r => ef_var rfl r
      refine q_when (b := false) (et_is (et_or (et_test (ev_op (ev_repF (B := 200) (ef_frac (K := K) (B := 200) (dvs := []) (ea_cons (ev_var rfl) (ea_cons (ev_var rfl) ea_nil)) rfl b0 hub hbb (by decide) (by decide)) sd (by decide) (by decide)) (ev_repF (vd r5) sd (by decide) (by decide)) (rv_ne rfl))) fun _ => et_test (ev_op (ev_repF (B := 200) (ef_fracW (K := K) (B := 200) (g := swap2) (ea_cons (ev_var rfl) (ea_cons (ev_var rfl) ea_nil)) rfl b0 hub hbb (by decide) (by decide)) sd (by decide) (by decide)) (ev_repF (vd r5) sd (by decide) (by decide)) (rv_ne rfl))) ?_) nofun fun _ H6 e6 => ?_
      · simp
      have s1 : Sz 200 (Rat.divInt up 1) := sz_div hub (by decide) (by decide)
      refine q_when (b := false) (et_is (et_or (et_test (ev_op (ev_repF (B := 200) (ef_frac (K := K) (B := 200) (dvs := [.int 1]) (ea_cons (ev_var rfl) ea_nil) rfl (by decide) hub (by decide) (by decide) (by decide)) s1 (by decide) (by decide)) (ev_repF (x := Rat.divInt up 1) (ef_tup (K := K) (eu_tup (ea_cons (ev_var rfl) (ea_cons ev_c ea_nil)) (by show 2 ≤ 100000; decide)) (one_div up).1.symm (one_div up).2.symm) s1 (by decide) (by decide)) (rv_ne rfl))) fun _ => et_not (et_B (ev_ref (ev_var rfl) ev_c (wh_int up) (wh_int 0) (.inr rfl)))) ?_) nofun fun _ H7 e7 => ?_
      · simp
      have r7 := (r5.mono e6).mono e7
      have hs7 := (hs5.mono e6).mono e7
      refine q_raw ?_
      refine odd_ev rfl rfl hub hs7 fun v8 H8 o8 hs8 x8 => ?_
      have r8 := r7.exs x8 hs7
      refine q_when (b := false) (et_is (et_or (et_not (et_B (ev_ref (ev_var rfl) (ev_var rfl) o8.1 (wh_int b) (.inl rfl)))) fun _ => et_or (et_not (et_B (ev_ref (ev_var rfl) (ev_var rfl) (wh_int up) o8.1 (.inl rfl)))) fun _ => et_not (et_B (ev_ref (ev_var rfl) ev_c o8.1 (wh_int 0) (.inr rfl)))) rfl) nofun fun _ H9 e9 => ?_
      have hs9 := hs8.mono e9
      refine q_raw (op_raw (c_raw ?_))
      refine take_ev (10 ^ 30) rfl (ev_op ev_c ev_c (rv_I (i := 10) (j := 30) (C := CPow) (g := fun i j => .int (i ^ j.toNat)) ⟨by decide, by decide, by decide⟩)) hs9 (by decide) (by decide +kernel) fun m10 H10 m0 m1 hs10 x10 => ?_
      refine ⟨1, m10, rfl, rfl, ?_⟩
      refine q_raw (lst_raw (cons_raw ?_))
      refine take_ev (10 ^ 9) rfl (ev_op ev_c ev_c (rv_I (i := 10) (j := 9) (C := CPow) (g := fun i j => .int (i ^ j.toNat)) ⟨by decide, by decide, by decide⟩)) hs10 (by decide) (by decide +kernel) fun c11 H11 c0 c1 hs11 x11 => ?_
      refine cons_raw (op_raw (c_raw ?_))
      refine take_ev (10 ^ 9) rfl (ev_op ev_c ev_c (rv_I (i := 10) (j := 9) (C := CPow) (g := fun i j => .int (i ^ j.toNat)) ⟨by decide, by decide, by decide⟩)) hs11 (by decide) (by decide +kernel) fun c12 H12 f0 f1 hs12 x12 => ?_
      refine ⟨1, c12, rfl, rfl, by show 2 ≤ sizeLine; decide, fun p8 np8 => ?_⟩
      have r12 : Rt K H12 u5 (Rat.divInt up b) := (((r8.mono e9).exs x10 hs9).exs x11 hs10).exs x12 hs11
      have o12 : Odd K v8 H12 := (((o8.mono e9).exs x10 hs9 hs10).exs x11 hs10 hs11).exs x12 hs11 hs12
      have X12 : Ex H0 H12 := ((((((((Exs.of e1).trans x2).trans x3).trans x4).trans (Exs.of ((e5.trans e6).trans e7))).trans x8).trans (Exs.of e9)).trans ((x10.trans x11).trans x12)).ex nst
      have e13 : Ex H12 (upd H12 p8 (.lst [.int c11, .int (1 + c12)])) := Ex.new np8
      have h13 : (upd H12 p8 (.lst [.int c11, .int (1 + c12)])) p8 = some (.lst [.int c11, .int (1 + c12)]) := upd_same
      generalize upd H12 p8 (.lst [.int c11, .int (1 + c12)]) = H13 at e13 h13
      have r13 := r12.mono e13
      have o13 := o12.mono e13
      have p30 : (10 : Int) ^ 30 = 1000000000000000000000000000000 := by decide
      have p9 : (10 : Int) ^ 9 = 1000000000 := by decide
      have q300 : (2 : Nat) ^ 300 = 2037035976334486086268445688409378161051468393665936250636140449354381299763336706183397376 := by decide
      have bs1 : c11.natAbs < 2 ^ 40 := by have : (2 : Nat) ^ 40 = 1099511627776 := by decide
                                           omega
      have bs2 : (1 + c12).natAbs < 2 ^ 40 := by have : (2 : Nat) ^ 40 = 1099511627776 := by decide
                                                 omega
      have bm : (1 + m10).natAbs < 2 ^ 110 := by have : (2 : Nat) ^ 110 = 1298074214633706907132624082305024 := by decide
                                                 omega
      have i0 : ∀ {y9 y10 y11}, Ev (tOp (rIxL K) (tVar 8) (tC (.int 0))) [some (.ref a), some (.int (i : Int)), some (.ref st), some (.int up), some (.int b), some u5, some v8, some (.int (1 + m10)), some (.ref p8), y9, y10, y11] H13 (.int c11) := ev_op (ev_var rfl) ev_c (rv_ixL (SqL.of h13) (atI_nat (j := 0) rfl))
      have i1 : ∀ {y9 y10 y11}, Ev (tOp (rIxL K) (tVar 8) (tC (.int 1))) [some (.ref a), some (.int (i : Int)), some (.ref st), some (.int up), some (.int b), some u5, some v8, some (.int (1 + m10)), some (.ref p8), y9, y10, y11] H13 (.int (1 + c12)) := ev_op (ev_var rfl) ev_c (rv_ixL (SqL.of h13) (atI_nat (j := 1) rfl))
      have n1m : 1 + m10 ≠ 0 := by omega
      have n1c : 1 + c12 ≠ 0 := by omega
      have sq := sz_div (B := 40) bs1 bs2 n1c
      have sq2 : Sz 40 (Rat.divInt (c11 * (1 + m10)) ((1 + c12) * (1 + m10))) := by
        rw [div_much n1m]
        exact sq
      refine q_when (b := false) (et_is (et_test (ev_op (ev_repF (B := 40) (ef_frac (K := K) (B := 150) (dvs := []) (ea_cons (ev_op i0 (ev_var rfl) (rv_I (.inl ⟨by omega, by omega⟩))) (ea_cons (ev_op i1 (ev_var rfl) (rv_I (.inl ⟨by omega, by omega⟩))) ea_nil)) rfl (Int.mul_ne_zero n1c n1m) (bits_up (bits_mul bs1 bm) (by decide)) (bits_up (bits_mul bs2 bm) (by decide)) (by decide) (by decide)) sq2 (by decide) (by decide)) (ev_repF (B := 40) (ef_due (K := K) (B := 40) i0 i1 n1c bs1 bs2 (by decide) (by decide)) sq (by decide) (by decide)) (rv_ne rfl))) ?_) nofun fun _ H14 e14 => ?_
      · rw [div_much n1m]
        simp
      have r14 := r13.mono e14
      have o14 := o13.mono e14
      generalize hxx : Rat.divInt up b = xx at sd r14 vd
      have k0 : ∀ {y9 y10 y11 H'}, Ex H14 H' → Ev (tOp (rIxT K) (tVar 5) (tC (.int 0))) [some (.ref a), some (.int (i : Int)), some (.ref st), some (.int up), some (.int b), some u5, some v8, some (.int (1 + m10)), some (.ref p8), y9, y10, y11] H' (.int xx.num) := fun e => ev_ix0 (ef_var rfl (r14.mono e))
      have k1 : ∀ {y9 y10 y11 H'}, Ex H14 H' → Ev (tOp (rIxT K) (tVar 5) (tC (.int 1))) [some (.ref a), some (.int (i : Int)), some (.ref st), some (.int up), some (.int b), some u5, some v8, some (.int (1 + m10)), some (.ref p8), y9, y10, y11] H' (.int xx.den) := fun e => ev_ix1 (ef_var rfl (r14.mono e))
      have z1 : xx.num.natAbs < 2 ^ 200 := sd.num
      have z2 : (xx.den : Int).natAbs < 2 ^ 200 := sd.den
      have t2 : (2 : Int).natAbs < 2 ^ 3 := by decide
      have w1 : (xx.num * 2).natAbs < 2 ^ 300 := bits_up (bits_mul z1 t2) (by decide)
      have w2 : ((xx.den : Int) * 2).natAbs < 2 ^ 300 := bits_up (bits_mul z2 t2) (by decide)
      have w3 : (0 - xx.num).natAbs < 2 ^ 300 := bits_up (a := 200) (by omega) (by decide)
      have w4 : (0 - (xx.den : Int)).natAbs < 2 ^ 300 := bits_up (a := 200) (by omega) (by decide)
      have w5 : xx.num.natAbs < 2 ^ 300 := bits_up z1 (by decide)
      have w6 : up.natAbs < 2 ^ 300 := bits_up hub (by decide)
      have w7 : b.natAbs < 2 ^ 300 := bits_up hbb (by decide)
      refine q_asgU (eu_tup (ea_cons (ev_op (k0 (Ex.refl _)) ev_c (rv_I (.inr ⟨by decide, by decide⟩))) (ea_cons (ev_op (k1 (Ex.refl _)) ev_c (rv_I (.inr ⟨by decide, by decide⟩))) ea_nil)) (by show 2 ≤ 100000; decide)) fun p15 H15 _ e15 h15 => ?_
      have mo : ∀ {v : V} {H1 H2 : Hp}, Thg K v H1 → Ex H1 H2 → Thg K v H2 := fun h e => h.mono e
      obtain ⟨pd, ed, hd⟩ := id r14
      have two : ∀ {te : TE} {σ : L2.St} {H : Hp} {i j : Int}, EvU te σ H [.int i, .int j] → i.natAbs < 2 ^ 300 → j.natAbs < 2 ^ 300 → EvP te σ H (Thg K) := fun h hi hj => ep_two9 h hi hj
      refine q_asgLP (P := Thg K) (n := 7) (elp_lst mo (eps_cons mo (ep_rt (ef_var rfl (r14.mono e15)) sd (by decide) (by decide)) (eps_cons mo (ep_listOf (xs := [.int xx.num, .int xx.den]) (p := pd) (ev_var (by rw [ed]; rfl)) (ex_t e15 hd)) (eps_cons mo (ep_ev (ev_var rfl) fun e => (odd_two 300 (e _ _ h15) w1 w2 (by decide) (by decide)).thg)
        (eps_cons mo (two (eu_tup (ea_cons (ev_op ev_c (k0 e15) rv_I0) (ea_cons (ev_op ev_c (k1 e15) rv_I0) ea_nil)) (by show 2 ≤ 100000; decide)) w3 w4) (eps_cons mo (ep_two (b := true) (c := false) (ep_ev (k0 e15) fun _ => wh_int _) (ep_ev ev_c fun _ => wh_bl _) rfl) (eps_cons mo (ep_catT (p := pd) (i := xx.num) (j := xx.den) (ev_var (by rw [ed]; rfl)) (ex_t e15 hd) (eu_tup (ea_cons ev_c ea_nil) (by show 1 ≤ 100000; decide)))
        (eps_cons mo (two (eu_tup (ea_cons (k0 e15) (ea_cons ev_c ea_nil)) (by show 2 ≤ 100000; decide)) w5 (by decide)) eps_nil))))))) (by decide)) fun p16 vs16 H16 _ e16 h16 l16 t16 => ?_
      have E16 := e15.trans e16
      refine q_asgLP (P := Thg K) (n := 7 + 7) (elp_cat mo rfl h16 l16 t16 (elp_lst mo (eps_cons mo (two (eu_tup (ea_cons (ev_var rfl) (ea_cons (ev_var rfl) ea_nil)) (by show 2 ≤ 100000; decide)) w6 w7) (eps_cons mo (ep_ev (ev_var rfl) fun e => ((o14.mono E16).mono e).thg) (eps_cons mo (ep_ev (ev_var rfl) fun _ => ⟨true, false, wh_int _, fr_int _⟩) (eps_cons mo (ep_ev (k0 E16) fun _ => ⟨true, false, wh_int _, fr_int _⟩)
        (eps_cons mo (ep_two (b := true) (c := false) (ep_ev (k0 E16) fun _ => wh_int _) (ep_ev ev_c fun _ => wh_non) rfl) (eps_cons mo (ep_two (b := false) (c := true) (ep_lst (eps_cons (fun _ _ => True.intro) (ep_any (k0 E16)) eps_nil) (by decide) wh_lst) (ep_ev (k1 E16) fun _ => wh_int _) rfl) (eps_cons mo (ep_two (b := false) (c := true) (ep_dict wh_dK) (ep_ev ev_c fun _ => wh_int _) rfl) eps_nil))))))) (by decide)) (by decide)) fun p17 vs17 H17 _ e17 h17 l17 t17 => ?_
      have E17 := E16.trans e17
      refine s_forLP (P := Thg K) (n := 7 + 7 + 3) (S := fun σ2 => ∃ y11, σ2 = [some (.ref a), some (.int (i : Int)), some (.ref st), some (.int up), some (.int b), some u5, some v8, some (.int (1 + m10)), some (.ref p8), some (.ref p15), some (.ref p17), y11]) mo
        (elp_cat mo rfl h17 l17 t17 (elp_lst mo (eps_cons mo (ep_two (b := false) (c := true) (ep_ev ev_c fun _ => wh_str _) (ep_ev (k1 E17) fun _ => wh_int _) rfl) (eps_cons mo (ep_two (b := false) (c := true) (ep_ev ev_c fun _ => wh_bl _) (ep_ev ev_c fun _ => wh_int _) rfl) (eps_cons mo (two (eu_tup (ea_cons ev_c (ea_cons ev_c ea_nil)) (by show 2 ≤ 100000; decide)) (by decide) (by decide)) eps_nil))) (by decide)) (by decide)) ⟨y11, rfl⟩ ?_ ?_
      · rintro H18 v9 σ9 H19 e18 ⟨y, rfl⟩ e19 hv9
        exact s_when (b := false) (et_is (et_not (et_B (ev_truths (ev_var rfl) hv9))) rfl) nofun fun _ H20 e20 => ⟨⟨_, rfl⟩, e19.trans e20⟩
      · rintro σ9 H20 ⟨y, rfl⟩ e20
        exact ⟨_, _, _, _, _, _, _, _, _, _, _, rfl, ((((ex0.trans X12).trans e13).trans e14).trans E17).trans e20⟩
    · rintro σ' H' ⟨y1, y2, y3, y4, y5, y6, y7, y8, y9, y10, y11, rfl, ex0⟩
      exact s_ret ev_c fun H2 _ => q H2
end
end NF

namespace NF
open PySem PySem.Spec PyProof.Rows L2 Evl
theorem cal_mk {P : Program} {w : World} {K : PySem.W.Frag} {mg : Str → Option Value} {base : Heap} {k : Nat} {x : Str} {ps : List Str} {dvs : List V} {sp : Sp} {f : Addr} {fd : FuncData} {ds : List Value} (h : FnOk P w K mg base CX0 k f fd ps sp) (m : mg x = some (.ref f)) (kp : PySem.W.keepIn K (.ref f) = true) (b : Binds K fd ps ds) (d : Vals dvs ds) : Cal P w K mg base k x ps dvs sp := ⟨⟨f, fd, ds, h, m, kp, b, d⟩⟩
theorem all_mk {l : PySem.W.OpenLaw} {w : World} {K : PySem.W.Frag} {h : Heap} {mg : Str → Option Value} {fa : Addr} (X : K.In h) (G : h.Ns mainGlobals mg) (hfa : mg "law" = some (.ref fa))
    {f_is_whole : Addr} {od0 an0 : Option Addr} {sl0 : Array (Option Value)} {oc0 kV0 dc0 pm0 cd0 ct0 : Value}
    (a_is_whole : PySem.W.nsIn K mainGlobals "is_whole" = some (some (.ref f_is_whole))) (l_is_whole : K.lookup f_is_whole = some ⟨oc0, od0, .func (PySem.W.fnOf "is_whole" "is_whole" (defArgs s_is_whole) (defBody s_is_whole) (defScope s_is_whole) .none kV0 dc0 pm0 an0 cd0 ct0), sl0⟩) (d_is_whole : PySem.W.codeIn K cd0 "is_whole" = true) (k_is_whole : PySem.W.keepIn K (.ref f_is_whole) = true)
    {f_greatest_divisor : Addr} {od1 an1 : Option Addr} {sl1 : Array (Option Value)} {oc1 kV1 dc1 pm1 cd1 ct1 : Value}
    (a_greatest_divisor : PySem.W.nsIn K mainGlobals "greatest_divisor" = some (some (.ref f_greatest_divisor))) (l_greatest_divisor : K.lookup f_greatest_divisor = some ⟨oc1, od1, .func (PySem.W.fnOf "greatest_divisor" "greatest_divisor" (defArgs s_greatest_divisor) (defBody s_greatest_divisor) (defScope s_greatest_divisor) .none kV1 dc1 pm1 an1 cd1 ct1), sl1⟩) (d_greatest_divisor : PySem.W.codeIn K cd1 "greatest_divisor" = true) (k_greatest_divisor : PySem.W.keepIn K (.ref f_greatest_divisor) = true)
    {f_is_fraction : Addr} {od2 an2 : Option Addr} {sl2 : Array (Option Value)} {oc2 kV2 dc2 pm2 cd2 ct2 : Value}
    (a_is_fraction : PySem.W.nsIn K mainGlobals "is_fraction" = some (some (.ref f_is_fraction))) (l_is_fraction : K.lookup f_is_fraction = some ⟨oc2, od2, .func (PySem.W.fnOf "is_fraction" "is_fraction" (defArgs s_is_fraction) (defBody s_is_fraction) (defScope s_is_fraction) .none kV2 dc2 pm2 an2 cd2 ct2), sl2⟩) (d_is_fraction : PySem.W.codeIn K cd2 "is_fraction" = true) (k_is_fraction : PySem.W.keepIn K (.ref f_is_fraction) = true)
    {f_reduced : Addr} {od3 an3 : Option Addr} {sl3 : Array (Option Value)} {oc3 kV3 dc3 pm3 cd3 ct3 : Value}
    (a_reduced : PySem.W.nsIn K mainGlobals "reduced" = some (some (.ref f_reduced))) (l_reduced : K.lookup f_reduced = some ⟨oc3, od3, .func (PySem.W.fnOf "reduced" "reduced" (defArgs s_reduced) (defBody s_reduced) (defScope s_reduced) .none kV3 dc3 pm3 an3 cd3 ct3), sl3⟩) (d_reduced : PySem.W.codeIn K cd3 "reduced" = true) (k_reduced : PySem.W.keepIn K (.ref f_reduced) = true)
    {f__law_begun : Addr} {od4 an4 : Option Addr} {sl4 : Array (Option Value)} {oc4 kV4 dc4 pm4 cd4 ct4 : Value}
    (a__law_begun : PySem.W.nsIn K mainGlobals "_law_begun" = some (some (.ref f__law_begun))) (l__law_begun : K.lookup f__law_begun = some ⟨oc4, od4, .func (PySem.W.fnOf "_law_begun" "_law_begun" (defArgs s__law_begun) (defBody s__law_begun) (defScope s__law_begun) .none kV4 dc4 pm4 an4 cd4 ct4), sl4⟩) (d__law_begun : PySem.W.codeIn K cd4 "_law_begun" = true) (k__law_begun : PySem.W.keepIn K (.ref f__law_begun) = true)
    {f__law_take : Addr} {od5 an5 : Option Addr} {sl5 : Array (Option Value)} {oc5 kV5 dc5 pm5 cd5 ct5 : Value}
    (a__law_take : PySem.W.nsIn K mainGlobals "_law_take" = some (some (.ref f__law_take))) (l__law_take : K.lookup f__law_take = some ⟨oc5, od5, .func (PySem.W.fnOf "_law_take" "_law_take" (defArgs s__law_take) (defBody s__law_take) (defScope s__law_take) .none kV5 dc5 pm5 an5 cd5 ct5), sl5⟩) (d__law_take : PySem.W.codeIn K cd5 "_law_take" = true) (k__law_take : PySem.W.keepIn K (.ref f__law_take) = true)
    {f__law_number : Addr} {od6 an6 : Option Addr} {sl6 : Array (Option Value)} {oc6 kV6 dc6 pm6 cd6 ct6 : Value}
    (a__law_number : PySem.W.nsIn K mainGlobals "_law_number" = some (some (.ref f__law_number))) (l__law_number : K.lookup f__law_number = some ⟨oc6, od6, .func (PySem.W.fnOf "_law_number" "_law_number" (defArgs s__law_number) (defBody s__law_number) (defScope s__law_number) .none kV6 dc6 pm6 an6 cd6 ct6), sl6⟩) (d__law_number : PySem.W.codeIn K cd6 "_law_number" = true) (k__law_number : PySem.W.keepIn K (.ref f__law_number) = true)
    {f__law_due : Addr} {od7 an7 : Option Addr} {sl7 : Array (Option Value)} {oc7 kV7 dc7 pm7 cd7 ct7 : Value}
    (a__law_due : PySem.W.nsIn K mainGlobals "_law_due" = some (some (.ref f__law_due))) (l__law_due : K.lookup f__law_due = some ⟨oc7, od7, .func (PySem.W.fnOf "_law_due" "_law_due" (defArgs s__law_due) (defBody s__law_due) (defScope s__law_due) .none kV7 dc7 pm7 an7 cd7 ct7), sl7⟩) (d__law_due : PySem.W.codeIn K cd7 "_law_due" = true) (k__law_due : PySem.W.keepIn K (.ref f__law_due) = true)
    {f__law_whole : Addr} {od8 an8 : Option Addr} {sl8 : Array (Option Value)} {oc8 kV8 dc8 pm8 cd8 ct8 : Value}
    (a__law_whole : PySem.W.nsIn K mainGlobals "_law_whole" = some (some (.ref f__law_whole))) (l__law_whole : K.lookup f__law_whole = some ⟨oc8, od8, .func (PySem.W.fnOf "_law_whole" "_law_whole" (defArgs s__law_whole) (defBody s__law_whole) (defScope s__law_whole) .none kV8 dc8 pm8 an8 cd8 ct8), sl8⟩) (d__law_whole : PySem.W.codeIn K cd8 "_law_whole" = true) (k__law_whole : PySem.W.keepIn K (.ref f__law_whole) = true)
    {f__law_is_fraction : Addr} {od9 an9 : Option Addr} {sl9 : Array (Option Value)} {oc9 kV9 dc9 pm9 cd9 ct9 : Value}
    (a__law_is_fraction : PySem.W.nsIn K mainGlobals "_law_is_fraction" = some (some (.ref f__law_is_fraction))) (l__law_is_fraction : K.lookup f__law_is_fraction = some ⟨oc9, od9, .func (PySem.W.fnOf "_law_is_fraction" "_law_is_fraction" (defArgs s__law_is_fraction) (defBody s__law_is_fraction) (defScope s__law_is_fraction) .none kV9 dc9 pm9 an9 cd9 ct9), sl9⟩) (d__law_is_fraction : PySem.W.codeIn K cd9 "_law_is_fraction" = true) (k__law_is_fraction : PySem.W.keepIn K (.ref f__law_is_fraction) = true)
    {f__law_odd : Addr} {od10 an10 : Option Addr} {sl10 : Array (Option Value)} {oc10 kV10 dc10 pm10 cd10 ct10 : Value}
    (a__law_odd : PySem.W.nsIn K mainGlobals "_law_odd" = some (some (.ref f__law_odd))) (l__law_odd : K.lookup f__law_odd = some ⟨oc10, od10, .func (PySem.W.fnOf "_law_odd" "_law_odd" (defArgs s__law_odd) (defBody s__law_odd) (defScope s__law_odd) .none kV10 dc10 pm10 an10 cd10 ct10), sl10⟩) (d__law_odd : PySem.W.codeIn K cd10 "_law_odd" = true) (k__law_odd : PySem.W.keepIn K (.ref f__law_odd) = true)
    {f__law_refused : Addr} {od11 an11 : Option Addr} {sl11 : Array (Option Value)} {oc11 kV11 dc11 pm11 cd11 ct11 : Value}
    (a__law_refused : PySem.W.nsIn K mainGlobals "_law_refused" = some (some (.ref f__law_refused))) (l__law_refused : K.lookup f__law_refused = some ⟨oc11, od11, .func (PySem.W.fnOf "_law_refused" "_law_refused" (defArgs s__law_refused) (defBody s__law_refused) (defScope s__law_refused) .none kV11 dc11 pm11 an11 cd11 ct11), sl11⟩) (d__law_refused : PySem.W.codeIn K cd11 "_law_refused" = true) (k__law_refused : PySem.W.keepIn K (.ref f__law_refused) = true)
    {f__law_truths : Addr} {od12 an12 : Option Addr} {sl12 : Array (Option Value)} {oc12 kV12 dc12 pm12 cd12 ct12 : Value}
    (a__law_truths : PySem.W.nsIn K mainGlobals "_law_truths" = some (some (.ref f__law_truths))) (l__law_truths : K.lookup f__law_truths = some ⟨oc12, od12, .func (PySem.W.fnOf "_law_truths" "_law_truths" (defArgs s__law_truths) (defBody s__law_truths) (defScope s__law_truths) .none kV12 dc12 pm12 an12 cd12 ct12), sl12⟩) (d__law_truths : PySem.W.codeIn K cd12 "_law_truths" = true) (k__law_truths : PySem.W.keepIn K (.ref f__law_truths) = true)
    {f_law : Addr} {od13 an13 : Option Addr} {sl13 : Array (Option Value)} {oc13 kV13 dc13 pm13 cd13 ct13 : Value}
    (a_law : PySem.W.nsIn K mainGlobals "law" = some (some (.ref f_law))) (l_law : K.lookup f_law = some ⟨oc13, od13, .func (PySem.W.fnOf "law" "law" (defArgs s_law) (defBody s_law) (defScope s_law) .none kV13 dc13 pm13 an13 cd13 ct13), sl13⟩) (d_law : PySem.W.codeIn K cd13 "law" = true) (k_law : PySem.W.keepIn K (.ref f_law) = true)
    {f_fraction : Addr} {od14 an14 : Option Addr} {sl14 : Array (Option Value)} {oc14 kV14 dc14 pm14 cd14 ct14 : Value}
    {T14 : Addr} {odT14 : Option Addr} {slT14 : Array (Option Value)} {ocT14 : Value} {nT14 : Nat} {tk14 : Tok}
    (a_fraction : PySem.W.nsIn K mainGlobals "fraction" = some (some (.ref f_fraction))) (l_fraction : K.lookup f_fraction = some ⟨oc14, od14, .func (PySem.W.fnOf "fraction" "fraction" (defArgs s_fraction) (defBody s_fraction) (defScope s_fraction) (.ref T14) kV14 dc14 pm14 an14 cd14 ct14), sl14⟩) (d_fraction : PySem.W.codeIn K cd14 "fraction" = true) (k_fraction : PySem.W.keepIn K (.ref f_fraction) = true)
    (t_fraction : K.lookup T14 = some ⟨ocT14, odT14, .seq #[.int 1 tk14] nT14, slT14⟩)
    (z_abs : PySem.W.nsIn K mainGlobals "abs" = some none)
    (z_isinstance : PySem.W.nsIn K mainGlobals "isinstance" = some none)
    (z_ValueError : PySem.W.nsIn K mainGlobals "ValueError" = some none)
    (z_len : PySem.W.nsIn K mainGlobals "len" = some none)
    (z_max : PySem.W.nsIn K mainGlobals "max" = some none)
    (z_min : PySem.W.nsIn K mainGlobals "min" = some none)
    (z_range : PySem.W.nsIn K mainGlobals "range" = some none)
    (z_repr : PySem.W.nsIn K mainGlobals "repr" = some none)
    (z_int : PySem.W.nsIn K mainGlobals "int" = some none)
    (z_bool : PySem.W.nsIn K mainGlobals "bool" = some none)
    (z_tuple : PySem.W.nsIn K mainGlobals "tuple" = some none)
    (z_list : PySem.W.nsIn K mainGlobals "list" = some none)
    {c_TwinError : Addr} (g_TwinError : PySem.W.nsIn K mainGlobals "TwinError" = some (some (.ref c_TwinError)))
    {c_NoNumber : Addr} (g_NoNumber : PySem.W.nsIn K mainGlobals "NoNumber" = some (some (.ref c_NoNumber)))
    {c_NoFade : Addr} (g_NoFade : PySem.W.nsIn K mainGlobals "NoFade" = some (some (.ref c_NoFade)))
    {c_TooMany : Addr} (g_TooMany : PySem.W.nsIn K mainGlobals "TooMany" = some (some (.ref c_TooMany)))
    {c_NoDeed : Addr} (g_NoDeed : PySem.W.nsIn K mainGlobals "NoDeed" = some (some (.ref c_NoDeed)))
    {c_NoDivisor : Addr} (g_NoDivisor : PySem.W.nsIn K mainGlobals "NoDivisor" = some (some (.ref c_NoDivisor)))
    (x_NN : PySem.W.excIn K c_NoNumber [.type "ValueError", .type "Exception", .type "BaseException", .type "object"] "ValueError.__new__" = true)
    (kp_NN : PySem.W.keepIn K (.ref c_NoNumber) = true)
    (b_NN : PySem.W.subIn K (.ref c_NoNumber) (.type "BaseException") = some true)
    (t_NN : PySem.W.typeIn K (.ref c_NoNumber) = some (.type "type"))
    (hd_NN : PySem.W.hasDictIn K c_NoNumber = true)
    (b_TE : PySem.W.subIn K (.ref c_TwinError) (.type "BaseException") = some true)
    (t_TE : PySem.W.typeIn K (.ref c_TwinError) = some (.type "type"))
    (hd_TE : PySem.W.hasDictIn K c_TwinError = true)
    (s_TE : PySem.W.subIn K (.ref c_NoNumber) (.ref c_TwinError) = some true)
    (e1 : PySem.W.findIn K (.ref c_NoNumber) "__getattribute__" = some (some (.builtin "BaseException.__getattribute__")))
    (e2 : PySem.W.findIn K (.ref c_NoNumber) "__getattr__" = some none)
    (e3 : PySem.W.findIn K (.ref c_NoNumber) "__class__" = some (some (.builtin "object.__class__")))
    (e4 : PySem.W.specialIn K (.builtin "object.__class__") "__get__" = some (some (.builtin "getset_descriptor.__get__")))
    (e5 : PySem.W.takesIn K (.builtin "object.__class__") = some true)
    (e6 : PySem.W.mroIn K c_NoNumber (.type "object") = some true)
    (i1 : PySem.W.kitOne K (.ref c_NoNumber) (.ref c_NoNumber) = some true)
    (i2 : PySem.W.kitOne K (.ref c_NoNumber) (.type "ValueError") = some true)
    (i3 : PySem.W.kitAny K (.ref c_NoNumber) [.ref c_NoFade, .ref c_TooMany, .ref c_NoDeed, .ref c_NoDivisor] = some false) :
    ∃ fd : FuncData, (∀ (s : Shared) (v : Value), BindsTo s fd ⟨[v], []⟩ [("_law_script", v)]) ∧ ∀ base : Heap, K.In base → base.Ns mainGlobals mg → FnG l.prog w K mg base CX0 5 fa fd ["_law_script"] (spLaw K) := by
  have e := hfa.symm.trans (PySem.W.mg_of X G a_law)
  cases e
  have F_is_whole := fun_mk (st := s_is_whole) l_is_whole d_is_whole k_is_whole
  have b_is_whole := F_is_whole.binds (ps := ["thing"]) fun _ _ _ _ _ _ us hl => match us, hl with | [_], _ => rfl
  have F_greatest_divisor := fun_mk (st := s_greatest_divisor) l_greatest_divisor d_greatest_divisor k_greatest_divisor
  have b_greatest_divisor := F_greatest_divisor.binds (ps := ["one", "other"]) fun _ _ _ _ _ _ us hl => match us, hl with | [_, _], _ => rfl
  have F_is_fraction := fun_mk (st := s_is_fraction) l_is_fraction d_is_fraction k_is_fraction
  have b_is_fraction := F_is_fraction.binds (ps := ["thing"]) fun _ _ _ _ _ _ us hl => match us, hl with | [_], _ => rfl
  have F_reduced := fun_mk (st := s_reduced) l_reduced d_reduced k_reduced
  have b_reduced := F_reduced.binds (ps := ["top", "bottom"]) fun _ _ _ _ _ _ us hl => match us, hl with | [_, _], _ => rfl
  have F__law_begun := fun_mk (st := s__law_begun) l__law_begun d__law_begun k__law_begun
  have b__law_begun := F__law_begun.binds (ps := ["_law_script", "_law_k"]) fun _ _ _ _ _ _ us hl => match us, hl with | [_, _], _ => rfl
  have F__law_take := fun_mk (st := s__law_take) l__law_take d__law_take k__law_take
  have b__law_take := F__law_take.binds (ps := ["_law_state", "_law_many"]) fun _ _ _ _ _ _ us hl => match us, hl with | [_, _], _ => rfl
  have F__law_number := fun_mk (st := s__law_number) l__law_number d__law_number k__law_number
  have b__law_number := F__law_number.binds (ps := ["_law_state"]) fun _ _ _ _ _ _ us hl => match us, hl with | [_], _ => rfl
  have F__law_due := fun_mk (st := s__law_due) l__law_due d__law_due k__law_due
  have b__law_due := F__law_due.binds (ps := ["_law_upper", "_law_base"]) fun _ _ _ _ _ _ us hl => match us, hl with | [_, _], _ => rfl
  have F__law_whole := fun_mk (st := s__law_whole) l__law_whole d__law_whole k__law_whole
  have b__law_whole := F__law_whole.binds (ps := ["_law_thing"]) fun _ _ _ _ _ _ us hl => match us, hl with | [_], _ => rfl
  have F__law_is_fraction := fun_mk (st := s__law_is_fraction) l__law_is_fraction d__law_is_fraction k__law_is_fraction
  have b__law_is_fraction := F__law_is_fraction.binds (ps := ["_law_thing"]) fun _ _ _ _ _ _ us hl => match us, hl with | [_], _ => rfl
  have F__law_odd := fun_mk (st := s__law_odd) l__law_odd d__law_odd k__law_odd
  have b__law_odd := F__law_odd.binds (ps := ["_law_state", "_law_upper"]) fun _ _ _ _ _ _ us hl => match us, hl with | [_, _], _ => rfl
  have F__law_refused := fun_mk (st := s__law_refused) l__law_refused d__law_refused k__law_refused
  have b__law_refused := F__law_refused.binds (ps := ["_law_upper", "_law_base"]) fun _ _ _ _ _ _ us hl => match us, hl with | [_, _], _ => rfl
  have F__law_truths := fun_mk (st := s__law_truths) l__law_truths d__law_truths k__law_truths
  have b__law_truths := F__law_truths.binds (ps := ["_law_thing"]) fun _ _ _ _ _ _ us hl => match us, hl with | [_], _ => rfl
  have F_law := fun_mk (st := s_law) l_law d_law k_law
  have F_fr : FunD K "fraction" "fraction" (defArgs s_fraction) (defBody s_fraction) (defScope s_fraction) [.int 1] [] f_fraction _ := ⟨⟨_, _, _, _, _, _, _, _, _, _, rfl, l_fraction, d_fraction, .inr ⟨by simp, _, _, _, _, rfl, t_fraction, rfl, .cons ⟨_, rfl⟩ .nil⟩, .inl rfl⟩, k_fraction⟩
  obtain ⟨dt1, vt1, bt1⟩ := F_fr.binds1 (ps := ["top", "bottom"]) 1 0 (by simp) rfl fun _ _ _ _ _ _ _ us its hl hi => match us, its, hl, hi with | [_], [_], _, _ => ⟨_, rfl, rfl⟩
  obtain ⟨dt2, vt2, bt2⟩ := F_fr.binds1 (ps := ["top", "bottom"]) 2 1 (by simp) rfl fun _ _ _ _ _ _ _ us its hl hi => match us, its, hl, hi with | [_, _], [_], _, _ => ⟨_, rfl, rfl⟩
  have bt3 : ∀ (s : Shared) (ws : List Value), K.In s.heap → ws.length = (["bottom", "top"] : List Str).length → BindsTo s (PySem.W.fnOf "fraction" "fraction" (defArgs s_fraction) (defBody s_fraction) (defScope s_fraction) (.ref T14) kV14 dc14 pm14 an14 cd14 ct14) ⟨[], (["bottom", "top"] : List Str).zip ws⟩ ((["top", "bottom"] : List Str).zip (swap2 ws)) := fun s ws KX hl => match ws, hl with
    | [_, _], _ => BindsTo.of_defaults rfl (KX _ _ t_fraction) rfl (by rfl) (by rfl)
  cases vt2
  have EC : ExcC K c_NoNumber := ⟨e1, e2, b_NN, hd_NN, e3, e4, e5, e6⟩
  refine ⟨(PySem.W.fnOf "law" "law" (defArgs s_law) (defBody s_law) (defScope s_law) .none kV13 dc13 pm13 an13 cd13 ct13), fun s v => .of_eq rfl, fun base _ _ => ?_⟩
  have M := fun {x : Str} {u : Value} (a : PySem.W.nsIn K mainGlobals x = some (some u)) => PySem.W.mg_of X G a
  have Z := fun {x : Str} (a : PySem.W.nsIn K mainGlobals x = some none) => PySem.W.mg_none_of X G a
  have C0 := cal_mk (ok_whole (P := l.prog) (w := w) (base := base) F_is_whole (Z z_isinstance) (Z z_int) (Z z_bool)) (M a_is_whole) k_is_whole b_is_whole .nil
  have C1 := cal_mk (ok_gcd (P := l.prog) (w := w) (base := base) F_greatest_divisor (Z z_abs)) (M a_greatest_divisor) k_greatest_divisor b_greatest_divisor .nil
  have C2 := cal_mk (ok_red F_reduced C1) (M a_reduced) k_reduced b_reduced .nil
  have C3 := cal_mk (ok_fr F_is_fraction (Z z_isinstance) (Z z_tuple) (Z z_len) C0 C1) (M a_is_fraction) k_is_fraction b_is_fraction .nil
  have OF := ok_frac F_fr C0 C2
  have CF1 := cal_mk OF (M a_fraction) k_fraction bt1 vt1
  have CF2 := cal_mk (dvs := []) OF (M a_fraction) k_fraction bt2 .nil
  have CF3 : CaK l.prog w K mg base 3 "fraction" ["top", "bottom"] ["bottom", "top"] swap2 (spFrac K) := ⟨⟨_, _, .of OF, M a_fraction, k_fraction, bt3⟩, fun r => match r with
    | .nil => .nil
    | .cons a .nil => .cons a .nil
    | .cons a (.cons b .nil) => .cons b (.cons a .nil)
    | .cons a (.cons b (.cons c t)) => .cons a (.cons b (.cons c t))⟩
  have CFX : CalX l.prog w K mg base 3 "fraction" ["top", "bottom"] (spFrX K c_NoNumber) := ⟨⟨_, _, ok_fracX F_fr C0 C2 (M g_NoNumber) x_NN kp_NN b_NN t_NN, M a_fraction, k_fraction, bt2⟩⟩
  have C13 := cal_mk (ok_begun (P := l.prog) (w := w) (base := base) F__law_begun (Z z_max)) (M a__law_begun) k__law_begun b__law_begun .nil
  have C14 := cal_mk (ok_take (P := l.prog) (w := w) (base := base) F__law_take (Z z_int) (Z z_range)) (M a__law_take) k__law_take b__law_take .nil
  have CN := cal_mk (ok_number F__law_number C14) (M a__law_number) k__law_number b__law_number .nil
  have CD := cal_mk (ok_due (P := l.prog) (w := w) (base := base) F__law_due (Z z_abs)) (M a__law_due) k__law_due b__law_due .nil
  have CW := cal_mk (ok_lwhole (P := l.prog) (w := w) (base := base) F__law_whole (Z z_isinstance) (Z z_int) (Z z_bool)) (M a__law_whole) k__law_whole b__law_whole .nil
  have CI := cal_mk (ok_lfr F__law_is_fraction (Z z_isinstance) (Z z_tuple) (Z z_len) CW CD) (M a__law_is_fraction) k__law_is_fraction b__law_is_fraction .nil
  have CO := cal_mk (ok_odd F__law_odd C14) (M a__law_odd) k__law_odd b__law_odd .nil
  have CR := cal_mk (ok_refused F__law_refused CFX (M g_TwinError) (M g_NoNumber) (M g_NoFade) (M g_TooMany) (M g_NoDeed) (M g_NoDivisor) (PySem.W.exm_ref b_TE hd_TE t_TE s_TE) (Z z_isinstance) (Z z_ValueError) EC i1 i2 i3) (M a__law_refused) k__law_refused b__law_refused .nil
  have CT := caG_mk (ok_truths F__law_truths (Z z_repr) C0.g C3.g CW.g CI.g) (M a__law_truths) k__law_truths b__law_truths .nil
  exact ok_law F_law (Z z_range) (Z z_max) (Z z_min) (Z z_len) (Z z_repr) (Z z_list) C13.g C14.g CN.g CD.g CF2.g CF1.g CF3 CR.g CO.g CT
end NF
open PySem PySem.W PyProof.Rows
set_option maxHeartbeats 0 in
theorem PySem.Challenge.cw_neartwins_k01_fractions_made_holds : PySem.Challenge.rw_neartwins_k01_fractions_made.Holds := by
  w_on; o_law; k_head; (case hw => w_witness2)
  k_fill
  refine NF.walk_g (l := PySem.Challenge.rw_neartwins_k01_fractions_made) (n := 63) (k := 5) (x := "_law_script") (sp := fun w => NF.spLaw _) rfl (by decide) rfl ⟨rfl, by decide, by decide⟩ (fun w h Y => PySem.W.kIn_of Y) ?F (fun _ _ a ns hl _ hS => ⟨a, ns, rfl, hS, hl, fun _ => rfl⟩)
  case F =>
    intro w mg fa h KX G hmg
    refine' NF.all_mk KX G hmg ?a_is_whole ?l_is_whole ?d_is_whole ?k_is_whole ?a_greatest_divisor ?l_greatest_divisor ?d_greatest_divisor ?k_greatest_divisor ?a_is_fraction ?l_is_fraction ?d_is_fraction ?k_is_fraction ?a_reduced ?l_reduced ?d_reduced ?k_reduced ?a__law_begun ?l__law_begun ?d__law_begun ?k__law_begun ?a__law_take ?l__law_take ?d__law_take ?k__law_take ?a__law_number ?l__law_number ?d__law_number ?k__law_number ?a__law_due ?l__law_due ?d__law_due ?k__law_due ?a__law_whole ?l__law_whole ?d__law_whole ?k__law_whole ?a__law_is_fraction ?l__law_is_fraction ?d__law_is_fraction ?k__law_is_fraction ?a__law_odd ?l__law_odd ?d__law_odd ?k__law_odd ?a__law_refused ?l__law_refused ?d__law_refused ?k__law_refused ?a__law_truths ?l__law_truths ?d__law_truths ?k__law_truths ?a_law ?l_law ?d_law ?k_law ?a_fraction ?l_fraction ?d_fraction ?k_fraction ?t_fraction ?z_abs ?z_isinstance ?z_ValueError ?z_len ?z_max ?z_min ?z_range ?z_repr ?z_int ?z_bool ?z_tuple ?z_list ?g_TwinError ?g_NoNumber ?g_NoFade ?g_TooMany ?g_NoDeed ?g_NoDivisor ?x_NN ?kp_NN ?b_NN ?t_NN ?hd_NN ?b_TE ?t_TE ?hd_TE ?s_TE ?e1 ?e2 ?e3 ?e4 ?e5 ?e6 ?i1 ?i2 ?i3
    (case a_is_whole => k_is); (case l_is_whole => k_is); (case d_is_whole => k_is); (case k_is_whole => k_is); (case a_greatest_divisor => k_is); (case l_greatest_divisor => k_is); (case d_greatest_divisor => k_is); (case k_greatest_divisor => k_is); (case a_is_fraction => k_is); (case l_is_fraction => k_is); (case d_is_fraction => k_is); (case k_is_fraction => k_is); (case a_reduced => k_is); (case l_reduced => k_is); (case d_reduced => k_is); (case k_reduced => k_is); (case a__law_begun => k_is); (case l__law_begun => k_is); (case d__law_begun => k_is); (case k__law_begun => k_is); (case a__law_take => k_is); (case l__law_take => k_is); (case d__law_take => k_is); (case k__law_take => k_is); (case a__law_number => k_is); (case l__law_number => k_is); (case d__law_number => k_is); (case k__law_number => k_is); (case a__law_due => k_is); (case l__law_due => k_is); (case d__law_due => k_is); (case k__law_due => k_is); (case a__law_whole => k_is); (case l__law_whole => k_is); (case d__law_whole => k_is); (case k__law_whole => k_is); (case a__law_is_fraction => k_is); (case l__law_is_fraction => k_is); (case d__law_is_fraction => k_is); (case k__law_is_fraction => k_is); (case a__law_odd => k_is); (case l__law_odd => k_is); (case d__law_odd => k_is); (case k__law_odd => k_is); (case a__law_refused => k_is); (case l__law_refused => k_is); (case d__law_refused => k_is); (case k__law_refused => k_is); (case a__law_truths => k_is); (case l__law_truths => k_is); (case d__law_truths => k_is); (case k__law_truths => k_is); (case a_law => k_is); (case l_law => k_is); (case d_law => k_is); (case k_law => k_is); (case a_fraction => k_is); (case l_fraction => k_is); (case d_fraction => k_is); (case k_fraction => k_is); (case t_fraction => k_is); (case z_abs => k_is); (case z_isinstance => k_is); (case z_ValueError => k_is); (case z_len => k_is); (case z_max => k_is); (case z_min => k_is); (case z_range => k_is); (case z_repr => k_is); (case z_int => k_is); (case z_bool => k_is); (case z_tuple => k_is); (case z_list => k_is); (case g_TwinError => k_is); (case g_NoNumber => k_is); (case g_NoFade => k_is); (case g_TooMany => k_is); (case g_NoDeed => k_is); (case g_NoDivisor => k_is); (case x_NN => k_exc); (case kp_NN => k_is); (case b_NN => k_is); (case t_NN => k_is); (case hd_NN => k_is); (case b_TE => k_is); (case t_TE => k_is); (case hd_TE => k_is); (case s_TE => (first | rfl | k_is)); (case e1 => k_is); (case e2 => k_is); (case e3 => k_is); (case e4 => k_is); (case e5 => k_is); (case e6 => k_is); (case i1 => kit_is); (case i2 => kit_is); (case i3 => kit_is)

