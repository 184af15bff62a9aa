import PyProof.Rows.All
import Wide.All
import OpenK.AllK
import Wide.FinOn
import PySem.Challenge.RW_neartwins_k02_fractions_reckoned
import HandS.ForMost
import HandS.Evl
import HandS.Defaults
import HandS.Wide
import HandS.IsInst
import HandS.Flow
import HandS.Exc
import HandS.ExcOwn
import HandS.ExcIs
import HandS.WordsExc
set_option Elab.async false
set_option linter.all false
set_option maxRecDepth 100000
namespace NF

theorem gcd_step {a b : Int} (h : b ≠ 0) : Int.gcd b (a.fmod b) = Int.gcd a b ∧ (a.fmod b).natAbs < b.natAbs := by
  constructor
  · rw [Int.fmod_def, Int.gcd_sub_mul_left_right, Int.gcd_comm]
  · rcases Int.lt_or_gt_of_ne h with hb | hb
    · have e := Int.neg_fmod_neg a b
      have h1 := Int.fmod_nonneg_of_pos (-a) (show 0 < -b by omega)
      have h2 := Int.fmod_lt_of_pos (-a) (show 0 < -b by omega)
      omega
    · have h1 := Int.fmod_nonneg_of_pos a hb
      have h2 := Int.fmod_lt_of_pos a hb
      omega

/-- what reduced does -/
theorem red_pos {a b : Int} (h : 0 < b) : a.fdiv (Int.gcd a b) = (Rat.divInt a b).num ∧ b.fdiv (Int.gcd a b) = (Rat.divInt a b).den := by
  have hg : (0 : Int) < Int.gcd a b := by
    have : 0 < Int.gcd a b := Int.gcd_pos_of_ne_zero_right _ (by omega)
    omega
  constructor
  · rw [Rat.num_divInt, Int.gcd_comm b a, Int.sign_eq_one_of_pos h, Int.one_mul, Int.fdiv_eq_ediv_of_nonneg _ (by omega)]
  · rw [Rat.den_divInt, if_neg (by omega), Int.gcd_comm b a, Int.fdiv_eq_ediv_of_nonneg _ (by omega)]
    rw [Int.natCast_ediv]
    congr 1
    omega
theorem red_neg {a b : Int} (h : b < 0) : a.fdiv (-(Int.gcd a b : Int)) = (Rat.divInt a b).num ∧ b.fdiv (-(Int.gcd a b : Int)) = (Rat.divInt a b).den := by
  have d1 : (Int.gcd a b : Int) ∣ a := Int.gcd_dvd_left ..
  have d2 : (Int.gcd a b : Int) ∣ b := Int.gcd_dvd_right ..
  constructor
  · rw [Rat.num_divInt, Int.gcd_comm b a, Int.sign_eq_neg_one_of_neg h, Int.fdiv_eq_ediv_of_dvd (by rwa [Int.neg_dvd]), Int.ediv_neg, Int.neg_mul, Int.one_mul, Int.neg_ediv_of_dvd d1]
  · rw [Rat.den_divInt, if_neg (by omega), Int.gcd_comm b a, Int.fdiv_eq_ediv_of_dvd (by rwa [Int.neg_dvd]), Int.ediv_neg, ← Int.neg_ediv_of_dvd d2]
    rw [Int.natCast_ediv]
    congr 1
    omega

/-- how many bits a fraction has -/
def Sz (B : Nat) (x : Rat) : Prop := x.num.natAbs < 2 ^ B ∧ x.den < 2 ^ B
theorem Sz.mono {A B : Nat} {x : Rat} (h : Sz A x) (e : A ≤ B) : Sz B x :=
  ⟨Nat.lt_of_lt_of_le h.1 (Nat.pow_le_pow_right (by decide) e), Nat.lt_of_lt_of_le h.2 (Nat.pow_le_pow_right (by decide) e)⟩
theorem sz_div {B : Nat} {a b : Int} (ha : a.natAbs < 2 ^ B) (hb : b.natAbs < 2 ^ B) (h : b ≠ 0) : Sz B (Rat.divInt a b) := by
  constructor
  · rw [Rat.num_divInt]
    have d1 : (Int.gcd b a : Int) ∣ a := Int.gcd_dvd_right ..
    refine Nat.lt_of_le_of_lt ?_ ha
    have : (b.sign * a / ↑(b.gcd a)).natAbs ≤ (b.sign * a).natAbs := by
      exact Int.natAbs_ediv_le_natAbs ..
    refine Nat.le_trans this ?_
    rw [Int.natAbs_mul]
    have : b.sign.natAbs = 1 := Int.natAbs_sign_of_ne_zero h
    rw [this]; omega
  · rw [Rat.den_divInt, if_neg h]
    exact Nat.lt_of_le_of_lt (Nat.div_le_self ..) hb

theorem den0 (x : Rat) : (x.den : Int) ≠ 0 := by have := x.den_nz; omega
theorem denp (x : Rat) : (0 : Int) < (x.den : Int) := by have := x.den_nz; omega
theorem add_rt (x y : Rat) : x + y = Rat.divInt (x.num * y.den + y.num * x.den) (x.den * y.den) := by
  rw [← Rat.divInt_add_divInt _ _ (den0 x) (den0 y), Rat.num_divInt_den, Rat.num_divInt_den]
theorem sub_rt (x y : Rat) : x - y = Rat.divInt (x.num * y.den - y.num * x.den) (x.den * y.den) := by
  rw [← Rat.divInt_sub_divInt _ _ (den0 x) (den0 y), Rat.num_divInt_den, Rat.num_divInt_den]
theorem mul_rt (x y : Rat) : x * y = Rat.divInt (x.num * y.num) (x.den * y.den) := by
  rw [← Rat.divInt_mul_divInt, Rat.num_divInt_den, Rat.num_divInt_den]
theorem div_rt (x y : Rat) : x / y = Rat.divInt (x.num * y.den) (x.den * y.num) := by
  rw [Rat.div_def, Rat.inv_def, ← Rat.divInt_mul_divInt, Rat.num_divInt_den]
theorem nz_num {x : Rat} (h : x.num ≠ 0) : x ≠ 0 := fun e => h (by rw [e]; rfl)
theorem num_nz {x : Rat} (h : x ≠ 0) : x.num ≠ 0 := fun e => h (Rat.num_eq_zero.mp e)

theorem bits_mul {i j : Int} {a b : Nat} (ha : i.natAbs < 2 ^ a) (hb : j.natAbs < 2 ^ b) : (i * j).natAbs < 2 ^ (a + b) := by
  rw [Int.natAbs_mul, Nat.pow_add]
  exact Nat.mul_lt_mul'' ha hb
theorem bits_add {i j : Int} {a : Nat} (ha : i.natAbs < 2 ^ a) (hb : j.natAbs < 2 ^ a) : (i + j).natAbs < 2 ^ (a + 1) := by
  rw [Nat.pow_succ]; omega
theorem bits_sub {i j : Int} {a : Nat} (ha : i.natAbs < 2 ^ a) (hb : j.natAbs < 2 ^ a) : (i - j).natAbs < 2 ^ (a + 1) := by
  rw [Nat.pow_succ]; omega
theorem bits_up {i : Int} {a b : Nat} (h : i.natAbs < 2 ^ a) (e : a ≤ b) : i.natAbs < 2 ^ b := Nat.lt_of_lt_of_le h (Nat.pow_le_pow_right (by decide) e)
theorem Sz.num {B : Nat} {x : Rat} (h : Sz B x) : x.num.natAbs < 2 ^ B := h.1
theorem Sz.den {B : Nat} {x : Rat} (h : Sz B x) : (x.den : Int).natAbs < 2 ^ B := by have := h.2; omega
theorem den_mul0 (x y : Rat) : (x.den : Int) * y.den ≠ 0 := Int.mul_ne_zero (den0 x) (den0 y)
theorem Sz.add {B : Nat} {x y : Rat} (hx : Sz B x) (hy : Sz B y) : Sz (2 * B + 1) (x + y) := by
  rw [add_rt]
  exact sz_div (bits_up (bits_add (bits_mul hx.num hy.den) (bits_mul hy.num hx.den)) (by omega)) (bits_up (bits_mul hx.den hy.den) (by omega)) (den_mul0 x y)
theorem Sz.sub {B : Nat} {x y : Rat} (hx : Sz B x) (hy : Sz B y) : Sz (2 * B + 1) (x - y) := by
  rw [sub_rt]
  exact sz_div (bits_up (bits_sub (bits_mul hx.num hy.den) (bits_mul hy.num hx.den)) (by omega)) (bits_up (bits_mul hx.den hy.den) (by omega)) (den_mul0 x y)
theorem Sz.mul {B : Nat} {x y : Rat} (hx : Sz B x) (hy : Sz B y) : Sz (2 * B + 1) (x * y) := by
  rw [mul_rt]
  exact sz_div (bits_up (bits_mul hx.num hy.num) (by omega)) (bits_up (bits_mul hx.den hy.den) (by omega)) (den_mul0 x y)
theorem Sz.div {B : Nat} {x y : Rat} (hx : Sz B x) (hy : Sz B y) (h : y ≠ 0) : Sz (2 * B + 1) (x / y) := by
  rw [div_rt]
  exact sz_div (bits_up (bits_mul hx.num hy.den) (by omega)) (bits_up (bits_mul hx.den hy.num) (by omega)) (Int.mul_ne_zero (den0 x) (num_nz h))

/-- how far two are apart -/
def ap (x y : Rat) : Rat := if x < y then y - x else x - y
theorem Sz.ap {B : Nat} {x y : Rat} (hx : Sz B x) (hy : Sz B y) : Sz (2 * B + 1) (ap x y) := by
  unfold NF.ap
  split
  · exact hy.sub hx
  · exact hx.sub hy
theorem ap_comm (x y : Rat) : ap x y = ap y x := by
  unfold NF.ap; grind
theorem ap_tri (x y z : Rat) : ¬ (ap x z + ap z y < ap x y) := by
  unfold NF.ap; grind
theorem ap_zero (x y : Rat) : ap x y = 0 ↔ x = y := by
  unfold NF.ap; grind
theorem ap_pos (x y : Rat) : ¬ (ap x y < 0) := by
  unfold NF.ap; grind
theorem lt3 (x y : Rat) : (if x < y then 1 else 0) + (if x = y then 1 else 0) + (if y < x then 1 else 0) = 1 := by grind
theorem lt_rt (x y : Rat) : x < y ↔ x.num * y.den < y.num * x.den := Rat.lt_iff x y
theorem t1 (x y : Rat) : x + y - y = x := by grind
theorem t2 (x y : Rat) : y + x = x + y := by grind
theorem t3 (x y z : Rat) : 0 + x + y + z = x + y + z := by grind
theorem t4 (x y z : Rat) : x + (y + z) = x + y + z := by grind
theorem t5 (x y z : Rat) : x * y * z = x * (z * y) := by grind
theorem t6 (x y z : Rat) : (x + y) * z = x * z + y * z := by grind
theorem t7 (x z : Rat) (h : z ≠ 0) : x * z / z = x := by grind
theorem cop (x : Rat) : Int.gcd x.num x.den = 1 := x.reduced
end NF

namespace NF
open PySem PySem.Spec PyProof.Rows L2 Evl

/-! ### a fraction as a value -/
section
variable {K : PySem.W.Frag} {H H1 H2 : Hp} {σ : L2.St} {ta tb te : TE} {x y z : Rat} {v w : V} {b : Bool}
def Rt (K : PySem.W.Frag) (H : Hp) (v : V) (x : Rat) : Prop := ∃ p, v = .ref p ∧ SqT K H p [.int x.num, .int x.den]
theorem Rt.mono (h : Rt K H v x) (e : Ex H H1) : Rt K H1 v x := by
  obtain ⟨p, e1, h⟩ := h
  exact ⟨p, e1, ex_t e h⟩
theorem Rt.of {p : Addr} {n d : Int} (h : H p = some (.tup [.int n, .int d])) (en : n = x.num) (ed : d = x.den) : Rt K H (.ref p) x := by
  subst en ed
  exact ⟨p, rfl, SqT.of h⟩
def EvF (K : PySem.W.Frag) (te : TE) (σ : L2.St) (H : Hp) (x : Rat) : Prop := ∀ H1, Ex H H1 → ∀ Q : VK, (∀ v H2, Ex H1 H2 → Rt K H2 v x → Q v H2) → te σ H1 Q
theorem EvF.mono (h : EvF K te σ H x) (e : Ex H H1) : EvF K te σ H1 x := fun H2 a Q q => h H2 (e.trans a) Q q
theorem EvF.to (h : EvF K te σ H x) (e : x = y) : EvF K te σ H y := e ▸ h
theorem ef_var {i : Nat} (h : σ[i]? = some (some v)) (r : Rt K H v x) : EvF K (tVar i) σ H x := fun H1 e _ q => ⟨v, h, q v H1 (Ex.refl H1) (r.mono e)⟩
theorem ev_ix0 (ha : EvF K ta σ H x) : Ev (tOp (rIxT K) ta (tC (.int 0))) σ H (.int x.num) := fun H1 e Q q => ha H1 e _ fun v H2 e2 r => by
  obtain ⟨p, rfl, hs⟩ := r
  exact ⟨p, _, 0, _, rfl, rfl, hs, atI_nat (j := 0) rfl, q H2 e2⟩
theorem ev_ix1 (ha : EvF K ta σ H x) : Ev (tOp (rIxT K) ta (tC (.int 1))) σ H (.int x.den) := fun H1 e Q q => ha H1 e _ fun v H2 e2 r => by
  obtain ⟨p, rfl, hs⟩ := r
  exact ⟨p, _, 1, _, rfl, rfl, hs, atI_nat (j := 1) rfl, q H2 e2⟩
theorem eqv_rt : PyData.eqv (.tuple [.int x.num, .int x.den]) (.tuple [.int y.num, .int y.den]) = decide (x = y) := by
  have e : PyData.eqv (.tuple [.int x.num, .int x.den]) (.tuple [.int y.num, .int y.den]) = (x.num == y.num && ((x.den : Int) == (y.den : Int))) := by
    simp [PyData.eqv, PyData.eqvAll]
  rw [e]
  by_cases h : x = y
  · subst h; simp
  · rw [decide_eq_false h]
    by_cases h1 : x.num = y.num
    · have h2 : (x.den : Int) ≠ y.den := fun e => h (Rat.ext h1 (by omega))
      simp [h2]
    · simp [h1]
theorem dp_rt (h : Rt K H v x) : Dp K H v (.tuple [.int x.num, .int x.den]) := by
  obtain ⟨p, rfl, hs⟩ := h
  exact .tup hs (.cons (.int _) (.cons (.int _) .nil))
theorem ev_eqF (ha : EvF K ta σ H x) (hb : EvF K tb σ H y) : Ev (tOp (rEqD K) ta tb) σ H (.bl (decide (x = y))) := fun H1 e Q q =>
  ha H1 e _ fun v H2 e2 r => hb H2 (e.trans e2) _ fun w H3 e3 r' => ⟨_, _, dp_rt (r.mono e3), dp_rt r', rfl, rfl, by rw [eqv_rt]; exact q H3 (e2.trans e3)⟩
theorem ev_neF (ha : EvF K ta σ H x) (hb : EvF K tb σ H y) : Ev (tOp (rNeD K) ta tb) σ H (.bl (!decide (x = y))) := fun H1 e Q q =>
  ha H1 e _ fun v H2 e2 r => hb H2 (e.trans e2) _ fun w H3 e3 r' => ⟨_, _, dp_rt (r.mono e3), dp_rt r', rfl, rfl, by rw [eqv_rt]; exact q H3 (e2.trans e3)⟩
/-- a written pair -/
theorem ef_tup {n d : Int} (h : EvU te σ H [.int n, .int d]) (en : n = x.num) (ed : d = x.den) : EvF K te σ H x := fun H1 e Q q =>
  h H1 e _ fun p H2 _ e2 hp => q _ H2 e2 (Rt.of hp en ed)
theorem ef_if {t : TT} (h : EvT t σ H b) (h1 : b = true → EvF K ta σ H x) (h2 : b = false → EvF K tb σ H x) : EvF K (tIf t ta tb) σ H x := fun H1 e Q q => h H1 e _ fun H2 e2 => by
  cases b with
  | true =>
    show ta σ H2 Q
    exact h1 rfl H2 (e.trans e2) Q fun v H3 e3 r => q v H3 (e2.trans e3) r
  | false =>
    show tb σ H2 Q
    exact h2 rfl H2 (e.trans e2) Q fun v H3 e3 r => q v H3 (e2.trans e3) r
variable {D : Ends} {tu tw tz : TS}
theorem s_retF (h : EvF K te σ H x) (k : ∀ u H1, Ex H H1 → Rt K H1 u x → D.rt u H1) : tRet te D σ H := h H (Ex.refl H) _ k
theorem q_asgF {i : Nat} (h : EvF K te σ H x) (k : ∀ u H1, Ex H H1 → Rt K H1 u x → tz D (σ.set i (some u)) H1) : tSeq (tAsg te (gName i)) tz D σ H := h H (Ex.refl H) _ fun u H1 e r => k u H1 e r
theorem s_asgF {i : Nat} (h : EvF K te σ H x) (k : ∀ u H1, Ex H H1 → Rt K H1 u x → D.nx (σ.set i (some u)) H1) : tAsg te (gName i) D σ H := h H (Ex.refl H) _ fun u H1 e r => k u H1 e r
theorem s_par {i j : Nat} {ta : TA} (h : EvA ta σ H [v, w]) (k : ∀ H1, Ex H H1 → D.nx ((σ.set i (some v)).set j (some w)) H1) : tPar i j ta D σ H := h H (Ex.refl H) _ fun H1 e => ⟨v, w, rfl, k H1 e⟩
end

/-! ### // by any divisor but 0 -/
def CDivX (_ j : Int) : Prop := j ≠ 0 ∧ j.natAbs.log2 < 9000
theorem op_fdivX {X : Cx} : OpR X (binaryOp .FloorDiv) (rI CDivX fun i j => .int (i.fdiv j)) := opI fun _ _ _ _ _ _ _ hc q => floordiv_int hc.1 q (.inl (PyProof.noPylong_of_log2 hc.2))
theorem divX {i j : Int} {b : Nat} (h : j ≠ 0) (hb : j.natAbs < 2 ^ b) (h0 : 0 < b) (h9 : b ≤ 9000) : CDivX i j := ⟨h, Nat.lt_of_lt_of_le (PySem.Flt.log2_lt_of h0 hb) h9⟩

/-! ### a def that is called -/
structure Cal (P : Program) (w : World) (K : PySem.W.Frag) (mg : Str → Option Value) (base : Heap) (k : Nat) (x : Str) (ps : List Str) (dvs : List V) (sp : Sp) : Prop where
  ex : ∃ (f : Addr) (fd : FuncData) (ds : List Value), FnOk P w K mg base CX0 k f fd ps sp ∧ mg x = some (.ref f) ∧ PySem.W.keepIn K (.ref f) = true ∧ Binds K fd ps ds ∧ Vals dvs ds
theorem pe_cal {X : Cx} {j k : Nat} {x : Str} {ps : List Str} {dvs : List V} {sp : Sp} {e : Expr} {es : List Expr} {t : TA} {p pos : Pos} (C : Cal X.prog X.w X.K X.mg X.base k x ps dvs sp) (hr : Room j X.A) (hk : k ≤ j) (hg : Gl X x)
    (ha : PA X (e :: es) t) (hdb : (x == ("__debug__" : Str)) = false := by decide) (he : starEach (e :: es) X.env = (false, eval e X.env) :: starEach es X.env := by rfl) (hpl : (backTo pos (starEach es X.env)).any (·.1) = false := by rfl) :
    PE X (.Call (.Name x p) (e :: es) [] pos) (tCall sp dvs E0 t) := by
  obtain ⟨f, fd, ds, F, hm, kp, b, d⟩ := C.ex
  exact pe_call F (hr.mono hk) hg hm kp b d pass0 ha hdb he hpl

/-! ### promises -/
def spGcd : Sp := fun vs H Q _ => ∃ a b : Int, vs = [.int a, .int b] ∧ ∀ H', Ex H H' → Q (.int (Int.gcd a b)) H'
def spRed (K : PySem.W.Frag) : Sp := fun vs H Q _ => ∃ (a b : Int) (B : Nat), vs = [.int a, .int b] ∧ b ≠ 0 ∧ a.natAbs < 2 ^ B ∧ b.natAbs < 2 ^ B ∧ 0 < B ∧ B ≤ 9000 ∧ ∀ v H', Ex H H' → Rt K H' v (Rat.divInt a b) → Q v H'
def sp2 (K : PySem.W.Frag) (C : Rat → Rat → Prop) (f : Rat → Rat → Rat) : Sp := fun vs H Q _ => ∃ (v w : V) (x y : Rat) (B : Nat), vs = [v, w] ∧ Rt K H v x ∧ Rt K H w y ∧ C x y ∧ Sz B x ∧ Sz B y ∧ 0 < B ∧ B ≤ 4000 ∧ ∀ u H', Ex H H' → Rt K H' u (f x y) → Q u H'
def spLt (K : PySem.W.Frag) : Sp := fun vs H Q _ => ∃ (v w : V) (x y : Rat) (B : Nat), vs = [v, w] ∧ Rt K H v x ∧ Rt K H w y ∧ Sz B x ∧ Sz B y ∧ 0 < B ∧ B ≤ 400000 ∧ ∀ H', Ex H H' → Q (.bl (decide (x < y))) H'
section
variable {K : PySem.W.Frag} {H H1 H2 : Hp} {σ : L2.St} {ta tb te : TE} {x y z : Rat} {v w : V} {B : Nat} {C : Rat → Rat → Prop} {f : Rat → Rat → Rat} {E : XK}
theorem ef_2 (ha : EvF K ta σ H x) (hb : EvF K tb σ H y) (hc : C x y) (sx : Sz B x) (sy : Sz B y) (h0 : 0 < B) (h4 : B ≤ 4000) : EvF K (tCall (sp2 K C f) [] E (tCons ta (tCons tb tNil))) σ H (f x y) := fun H1 e Q q =>
  ha H1 e _ fun v H2 e2 r => hb H2 (e.trans e2) _ fun w H3 e3 r' => ⟨v, w, x, y, B, rfl, r.mono e3, r', hc, sx, sy, h0, h4, fun u H' e4 ru => q u H' ((e2.trans e3).trans e4) ru⟩
theorem ev_lt (ha : EvF K ta σ H x) (hb : EvF K tb σ H y) (sx : Sz B x) (sy : Sz B y) (h0 : 0 < B) (h4 : B ≤ 400000) : Ev (tCall (spLt K) [] E (tCons ta (tCons tb tNil))) σ H (.bl (decide (x < y))) := fun H1 e Q q =>
  ha H1 e _ fun v H2 e2 r => hb H2 (e.trans e2) _ fun w H3 e3 r' => ⟨v, w, x, y, B, rfl, r.mono e3, r', sx, sy, h0, h4, fun H' e4 => q H' ((e2.trans e3).trans e4)⟩
theorem ef_red {a b : Int} (ha : Ev ta σ H (.int a)) (hb : Ev tb σ H (.int b)) (hn : b ≠ 0) (ba : a.natAbs < 2 ^ B) (bb : b.natAbs < 2 ^ B) (h0 : 0 < B) (h4 : B ≤ 9000) : EvF K (tCall (spRed K) [] E (tCons ta (tCons tb tNil))) σ H (Rat.divInt a b) := fun H1 e Q q =>
  ha H1 e _ fun H2 e2 => hb H2 (e.trans e2) _ fun H3 e3 => ⟨a, b, B, rfl, hn, ba, bb, h0, h4, fun u H' e4 ru => q u H' ((e2.trans e3).trans e4) ru⟩
theorem ev_gcd {a b : Int} (ha : Ev ta σ H (.int a)) (hb : Ev tb σ H (.int b)) : Ev (tCall spGcd [] E (tCons ta (tCons tb tNil))) σ H (.int (Int.gcd a b)) := fun H1 e Q q =>
  ha H1 e _ fun H2 e2 => hb H2 (e.trans e2) _ fun H3 e3 => ⟨a, b, rfl, fun H' e4 => q H' ((e2.trans e3).trans e4)⟩
end
end NF

namespace NF
open PySem PySem.Spec PyProof.Rows L2 Evl
/-! ### isinstance -/
theorem c_ty {X : Cx} {x : Str} {n : String} {pos : Pos} (hm : X.mg x = none) (hg : Gl X x) (hv : bootBuiltins x = some (.type n)) (hn : x ≠ "__name__") (hd : (x == ("__debug__" : Str)) = false := by decide) : PE X (.Name x pos) (tC (.ty n)) := pe_bltn hg hm hv rfl hn hd
section
variable {K : PySem.W.Frag} {H H1 H2 : Hp} {σ : L2.St} {ta tb te : TE} {v w : V} {t c : String} {b : Bool} {E : XK}
theorem tyx_mono {t : Value} (h : TyX K H v t) (e : Ex H H1) : TyX K H1 v t := by
  cases h with
  | base b =>
    refine .base ?_
    cases b with
    | non => exact .non
    | bl y => exact .bl y
    | int i => exact .int i
    | str y => exact .str y
    | flt y => exact .flt y
    | lst ea => exact .lst (e _ _ ea)
    | frz ea => exact .frz (e _ _ ea)
    | tup ea => exact .tup (e _ _ ea)
    | dK ea => exact .dK (e _ _ ea)
    | dT ea => exact .dT (e _ _ ea)
    | ins ea cl ha hn htk hm => exact .ins (e _ _ ea) cl ha hn htk hm
  | byt y => exact .byt y
  | set ea => exact .set (e _ _ ea)
  | kList ea c => exact .kList ea c
  | kTuple ea c => exact .kTuple ea c
  | kDict ea c => exact .kDict ea c
  | fTuple ea => exact .fTuple (e _ _ ea)
  | fDict ea => exact .fDict (e _ _ ea)
theorem ev_isi (h : Ev ta σ H v) (ty : TyX K H v (.type t)) (kb : kitB t c = some b) : Ev (tCB (rIsi K) (tCons ta (tCons (tC (.ty c)) tNil))) σ H (.bl b) := fun H1 e Q q =>
  h H1 e _ fun H2 e2 => ⟨v, .ty c, _, _, b, rfl, .ty c, tyx_mono ty (e.trans e2), kit_ty kb, q H2 e2⟩
def spWhole (K : PySem.W.Frag) : Sp := fun vs H Q _ => ∃ (v : V) (t : String) (b1 b2 : Bool), vs = [v] ∧ TyX K H v (.type t) ∧ kitB t "int" = some b1 ∧ kitB t "bool" = some b2 ∧ ∀ H', Ex H H' → Q (.bl (b1 && !b2)) H'
theorem ev_whole {b1 b2 : Bool} (h : Ev ta σ H v) (ty : TyX K H v (.type t)) (k1 : kitB t "int" = some b1) (k2 : kitB t "bool" = some b2) : Ev (tCall (spWhole K) [] E (tCons ta tNil)) σ H (.bl (b1 && !b2)) := fun H1 e Q q =>
  h H1 e _ fun H2 e2 => ⟨v, t, b1, b2, rfl, tyx_mono ty (e.trans e2), k1, k2, fun H' e3 => q H' (e2.trans e3)⟩
theorem kit_ii : kitB "int" "int" = some true := by decide +kernel
theorem kit_ib : kitB "int" "bool" = some false := by decide +kernel
theorem kit_tt : kitB "tuple" "tuple" = some true := by decide +kernel
theorem ty_int (i : Int) : TyX K H (.int i) (.type "int") := .base (.int i)
theorem ev_wholeI {i : Int} (h : Ev ta σ H (.int i)) : Ev (tCall (spWhole K) [] E (tCons ta tNil)) σ H (.bl true) := ev_whole h (ty_int i) kit_ii kit_ib
theorem ty_tup {p : Addr} {xs : List V} (h : SqT K H p xs) : TyX K H (.ref p) (.type "tuple") := by
  rcases h with (h | ⟨o, h⟩) | ⟨o, its, n, e, c, _⟩
  · exact .base (.tup h)
  · exact .fTuple h
  · exact .kTuple e c
end
def spFrac (K : PySem.W.Frag) : Sp := fun vs H Q _ => ∃ (a b : Int) (B : Nat), vs = [.int a, .int b] ∧ b ≠ 0 ∧ a.natAbs < 2 ^ B ∧ b.natAbs < 2 ^ B ∧ 0 < B ∧ B ≤ 9000 ∧ ∀ v H', Ex H H' → Rt K H' v (Rat.divInt a b) → Q v H'
def spIsF (K : PySem.W.Frag) : Sp := fun vs H Q _ => ∃ (v : V) (x : Rat), vs = [v] ∧ Rt K H v x ∧ ∀ H', Ex H H' → Q (.bl true) H'
/-- fractions in a list -/
inductive RtAll (K : PySem.W.Frag) (H : Hp) : List V → List Rat → Prop
  | nil : RtAll K H [] []
  | cons {v : V} {vs : List V} {x : Rat} {xs : List Rat} : Rt K H v x → RtAll K H vs xs → RtAll K H (v :: vs) (x :: xs)
theorem RtAll.mono {K : PySem.W.Frag} {H H1 : Hp} (e : Ex H H1) : ∀ {vs : List V} {xs : List Rat}, RtAll K H vs xs → RtAll K H1 vs xs
  | _, _, .nil => .nil
  | _, _, .cons h t => .cons (h.mono e) (RtAll.mono e t)
theorem RtAll.get {K : PySem.W.Frag} {H : Hp} : ∀ {vs : List V} {xs : List Rat} {i : Nat} {v : V}, RtAll K H vs xs → vs[i]? = some v → ∃ x, xs[i]? = some x ∧ Rt K H v x
  | _, _, _, _, .nil, e => by simp at e
  | _, _, 0, _, .cons h _, e => by
    have e' := Option.some.inj e
    subst e'
    exact ⟨_, rfl, h⟩
  | _, _, i + 1, _, .cons _ t, e => RtAll.get (i := i) t e
theorem RtAll.length {K : PySem.W.Frag} {H : Hp} : ∀ {vs : List V} {xs : List Rat}, RtAll K H vs xs → vs.length = xs.length
  | _, _, .nil => rfl
  | _, _, .cons _ t => congrArg Nat.succ (RtAll.length t)
def sumF (x0 : Rat) (xs : List Rat) : Rat := xs.foldl (· + ·) x0
theorem sumF_take {x0 x : Rat} {xs : List Rat} {i : Nat} (h : xs[i]? = some x) : sumF x0 (xs.take (i + 1)) = sumF x0 (xs.take i) + x := by
  unfold sumF
  rw [List.take_add_one, h, List.foldl_append]
  rfl
/-- one summand after another -/
theorem Sz.addAB {A B : Nat} {x y : Rat} (hx : Sz A x) (hy : Sz B y) : Sz (A + B + 1) (x + y) := by
  rw [add_rt]
  exact sz_div (bits_add (bits_mul hx.num hy.den) (bits_up (bits_mul hy.num hx.den) (by omega))) (bits_up (bits_mul hx.den hy.den) (by omega)) (den_mul0 x y)
theorem sz_sum {B : Nat} {x0 : Rat} {xs : List Rat} (h0 : Sz B x0) (hs : ∀ x ∈ xs, Sz B x) : ∀ i, i ≤ xs.length → Sz ((i + 1) * (B + 1)) (sumF x0 (xs.take i))
  | 0, _ => by
    refine Sz.mono (A := B) ?_ (by omega)
    exact h0
  | i + 1, h => by
    have hi : i < xs.length := by omega
    rw [sumF_take (List.getElem?_eq_getElem hi)]
    refine Sz.mono ((sz_sum h0 hs i (by omega)).addAB (hs _ (List.getElem_mem hi))) ?_
    rw [Nat.succ_mul (i + 1)]
    omega
def spTot (K : PySem.W.Frag) : Sp := fun vs H Q _ => ∃ (a : Addr) (us : List V) (xs : List Rat) (w : V) (x0 : Rat) (B : Nat), vs = [.ref a, w] ∧ SqL K H a us ∧ RtAll K H us xs ∧ ((w = .non ∧ x0 = 0) ∨ Rt K H w x0) ∧ Sz B x0 ∧ (∀ x ∈ xs, Sz B x) ∧
  (xs.length + 2) * (B + 1) ≤ 4000 ∧ ∀ u H', Ex H H' → Rt K H' u (sumF x0 xs) → Q u H'
end NF

namespace NF
open PySem PySem.Spec PyProof.Rows L2 Evl
/-! ### [..].count(True) -/
theorem vals_bl : ∀ {bs : List Bool} {its : List Value}, Vals (bs.map V.bl) its → its = bs.map Value.bool
  | [], _, .nil => rfl
  | b :: bs, _, .cons r t => by
    have e : _ = Value.bool b := r
    rw [e, vals_bl t]
    rfl
def rCntB (K : PySem.W.Frag) : V → List V → Hp → VK → Prop := fun x xs H Q => ∃ (p : Addr) (bs : List Bool) (k : Bool), x = .ref p ∧ xs = [.bl k] ∧ SqL K H p (bs.map V.bl) ∧ Q (.int (bs.count k : Nat)) H
theorem mt_countB {X : Cx} : MtR X "list.count" (rCntB X.K) := by
  intro pins s σ H x xs v us Q I rx rxs h
  obtain ⟨p, bs, k, rfl, rfl, hs, q⟩ := h
  cases rx
  obtain ⟨u, rfl, ru⟩ := rxs.one
  cases (show u = Value.bool k from ru)
  obtain ⟨its, rv, ⟨⟨cls, dd, data, sl⟩, n, ho, hc, hdn, hd⟩, hlen⟩ := I.list hs
  simp only at hc hd
  subst hc hd
  have hi := vals_bl rv
  subst hi
  refine call_meets PySem.F.slot_list_count ⟨_, ho, rfl⟩ PySem.F.entry_list_count (PySem.F.args_list_count_2 _ _)
    (SeqAt.list_countAt p (bs.map Value.bool).toArray n dd sl (.bool k) (isBoolOf k)) ⟨ho, fun y hy => ?_, ?_⟩
  · have hy' : y ∈ bs.map Value.bool := by simpa using hy
    obtain ⟨b, _, rfl⟩ := List.mem_map.mp hy'
    exact SeqAt.EqAt.bool_bool b k
  · have ec : (bs.map Value.bool).toArray.toList.countP (isBoolOf k) = bs.count k := by
      show (bs.map Value.bool).countP (isBoolOf k) = bs.count k
      rw [List.countP_map, List.count]
      rfl
    refine ⟨.int (bs.count k : Nat), H, I.tok _, ⟨s.toks, ?_⟩, q⟩
    rw [ec]
/-! ### the law's state: a list of two ints and a truth -/
def Exs (st : Addr) (H H' : Hp) : Prop := ∀ b o, b ≠ st → H b = some o → H' b = some o
theorem Exs.refl (st : Addr) (H : Hp) : Exs st H H := fun _ _ _ h => h
theorem Exs.trans {st : Addr} {H H1 H2 : Hp} (a : Exs st H H1) (b : Exs st H1 H2) : Exs st H H2 := fun c o n h => b c o n (a c o n h)
theorem Exs.of {st : Addr} {H H1 : Hp} (e : Ex H H1) : Exs st H H1 := fun c o _ h => e c o h
theorem Exs.upd {st : Addr} {H : Hp} {o : HO} : Exs st H (upd H st o) := fun c u n h => by rw [upd_ne n]; exact h
def StA (st : Addr) (H : Hp) : Prop := ∃ (n m : Int) (c : Bool), H st = some (.lst [.int n, .int m, .bl c])
theorem StA.mono {st : Addr} {H H1 : Hp} (e : Ex H H1) (h : StA st H) : StA st H1 := by
  obtain ⟨n, m, c, h⟩ := h
  exact ⟨n, m, c, e _ _ h⟩
/-- what is no list of the state's stays -/
theorem Exs.lst {K : PySem.W.Frag} {st a : Addr} {H H1 : Hp} {xs : List V} (e : Exs st H H1) (n : a ≠ st) (h : SqL K H a xs) : SqL K H1 a xs := by
  rcases h with (h | ⟨o, h⟩) | h
  · exact .inl (.inl (e _ _ n h))
  · exact .inl (.inr ⟨o, e _ _ n h⟩)
  · exact .inr h
theorem Exs.tup {K : PySem.W.Frag} {st a : Addr} {H H1 : Hp} {xs : List V} (e : Exs st H H1) (hs : StA st H) (h : SqT K H a xs) : SqT K H1 a xs := by
  obtain ⟨n, m, c, hs⟩ := hs
  rcases h with (h | ⟨o, h⟩) | h
  · exact .inl (.inl (e _ _ (ne_of h hs (fun z => by cases z)) h))
  · exact .inl (.inr ⟨o, e _ _ (ne_of h hs (fun z => by cases z)) h⟩)
  · exact .inr h
theorem Rt.exs {K : PySem.W.Frag} {st : Addr} {H H1 : Hp} {v : V} {x : Rat} (r : Rt K H v x) (e : Exs st H H1) (hs : StA st H) : Rt K H1 v x := by
  obtain ⟨p, e1, h⟩ := r
  exact ⟨p, e1, e.tup hs h⟩
def spBegun (K : PySem.W.Frag) : Sp := fun vs H Q _ => ∃ (a : Addr) (ns : List Int) (k : Nat), vs = [.ref a, .int (k : Int)] ∧ SqL K H a (ns.map V.int) ∧ ns.length ≤ 1000 ∧ k ≤ 1000 ∧ ∀ st H', H st = none → Ex H H' → StA st H' → Q (.ref st) H'
def spTake : Sp := fun vs H Q _ => ∃ (st : Addr) (many : Int), vs = [.ref st, .int many] ∧ StA st H ∧ 0 < many ∧ many.natAbs < 2 ^ 8000 ∧ ∀ d H', 0 ≤ d → d < many → StA st H' → Exs st H H' → Q (.int d) H'
theorem take_call {st : Addr} {many : Int} {H : Hp} {Q : VK} {E : XK} (hs : StA st H) (h0 : 0 < many) (hm : many.natAbs < 2 ^ 8000) (q : ∀ d H', 0 ≤ d → d < many → StA st H' → Exs st H H' → Q (.int d) H') : spTake [.ref st, .int many] H Q E := ⟨st, many, rfl, hs, h0, hm, q⟩
theorem small_bits {i : Int} (h0 : 0 ≤ i) (h : i ≤ 10 ^ 2000) : i.natAbs < 2 ^ 8000 := by
  have e : (10 : Int) ^ 2000 < 2 ^ 8000 := by decide +kernel
  have e2 : ((2 ^ 8000 : Nat) : Int) = (2 : Int) ^ 8000 := by decide +kernel
  omega
end NF

namespace NF
open PySem PySem.Spec PyProof.Rows L2 Evl
/-! ### promises that also know that no repr is under way (the layer's FnOk says nothing of guards, so repr of a tuple has no rule over it) -/
structure FnG (P : Program) (w : World) (K : PySem.W.Frag) (mg : Str → Option Value) (base : Heap) (CX : CXT) (k : Nat) (f : Addr) (fd : FuncData) (ps : List Str) (sp : Sp) : Prop where
  many : ∀ vs H Q E, sp vs H Q E → vs.length = ps.length
  goes : ∀ (A : Around) (out : List Env) (s : Shared) (H : Hp) (args : Args) (us : List Value) (vs : List V) (Q : VK) (E : XK), A.guards = some [] → Room k A → Env0 P w K mg base A out s H →
    BindsTo s fd args (ps.zip us) → Vals vs us → sp vs H Q E → codeAny (model P w) A (.call (.ref f) args) (CR CX out P w H s Q E) s
section
variable {P : Program} {w : World} {K : PySem.W.Frag} {mg : Str → Option Value} {base : Heap} {CX : CXT} {k j : Nat} {f : Addr} {fd : FuncData} {ps N : List Str} {sp : Sp}
theorem FnG.of (F : FnOk P w K mg base CX k f fd ps sp) : FnG P w K mg base CX k f fd ps sp :=
  ⟨F.len, fun A out s H args us vs Q E _ hr he hb hv hs => F.run A out s H args us vs Q E hr he hb hv hs⟩
theorem FnG.more (F : FnG P w K mg base CX k f fd ps sp) (h : k ≤ j) : FnG P w K mg base CX j f fd ps sp :=
  ⟨F.many, fun A out s H args us vs Q E g hr => F.goes A out s H args us vs Q E g (hr.mono h)⟩
/-- a def by its body, where no repr is under way -/
theorem fn_g {name qual : Str} {params : Arguments} {body : List Stmt} {scope : Scope} {dV kV doc pm cdv ct oc : Value} {an od : Option Addr} {osl : Array (Option Value)}
    (at_f : K.lookup f = some ⟨oc, od, .func (PySem.W.fnOf name qual params body scope dV kV doc pm an cdv ct), osl⟩) (code_f : PySem.W.codeIn K cdv qual = true) (S : FnScope N ps scope) (many : ∀ vs H Q E, sp vs H Q E → vs.length = ps.length)
    (walk : ∀ (A : Around) (out : List Env) (s : Shared) (H : Hp) (vs : List V) (Q : VK) (E : XK), A.guards = some [] → Room k (A.deeper (envOfC qual scope s.heap.objs.size f cdv)) → sp vs H Q E →
      ∃ t, PSs (cxOf CX P w K mg base N qual scope f cdv A out s H E) body t ∧ t { nx := fun _ G => Q .non G, rt := Q } (start N vs) H) : FnG P w K mg base CX (k + 1) f (PySem.W.fnOf name qual params body scope dV kV doc pm an cdv ct) ps sp := by
  constructor
  · exact many
  · intro A out s H args us vs Q E g hr he hb hv hs
    have kin := he.mod.kin.keeps fun b o e => (he.bs b o e).1
    have nol := he.mod.nolimit.keeps fun b o e => (he.bs b o e).1
    refine codeAny_call_function hr.depth (kin _ _ at_f) rfl S.co S.gen rfl (PySem.W.codeRec_of kin code_f) (hb _ _ _ _ ?_)
    refine wpAny_newFunctionEnv_cells S.kind ?_ ?_
    · rintro ⟨n, u⟩ hn
      exact (S.par n (List.of_mem_zip hn).1).imp id fun c => ⟨c, PySem.W.cellsFrom_some _ _ _ (.inl c)⟩
    · intro env e1 s1 x
      subst e1
      obtain ⟨t, d, q⟩ := walk A out s H vs Q E g (hr.deeper _) hs
      have I1 := inv_start (CX := CX) (E := E) S hr.hd he (many _ _ _ _ hs) hv x
      refine ⟨nol.keeps x.toInCall.keep, codeAny_func (wpAny_mono (d.run [] s1 (start N vs) H _ I1 q) ?_ fun _ _ z => z)⟩
      intro fl s2 z
      cases fl with
      | next =>
        obtain ⟨_, G, J, y⟩ := z
        exact ⟨.non, G, J.os, J.bare, J.base, J.hok, rfl, y⟩
      | ret u =>
        obtain ⟨v, _, G, J, rv, y⟩ := z
        exact ⟨v, G, J.os, J.bare, J.base, J.hok, rv, y⟩
      | brk => exact z.elim fun _ z => z.elim fun _ z => z.2.elim
      | cont => exact z.elim fun _ z => z.elim fun _ z => z.2.elim
end
/-- a def that is called, no repr under way -/
structure CaG (P : Program) (w : World) (K : PySem.W.Frag) (mg : Str → Option Value) (base : Heap) (CX : CXT) (k : Nat) (x : Str) (ps : List Str) (dvs : List V) (sp : Sp) : Prop where
  ex : ∃ (f : Addr) (fd : FuncData) (ds : List Value), FnG P w K mg base CX k f fd ps sp ∧ mg x = some (.ref f) ∧ PySem.W.keepIn K (.ref f) = true ∧ Binds K fd ps ds ∧ Vals dvs ds
theorem Cal.g {P : Program} {w : World} {K : PySem.W.Frag} {mg : Str → Option Value} {base : Heap} {k : Nat} {x : Str} {ps : List Str} {dvs : List V} {sp : Sp} (C : Cal P w K mg base k x ps dvs sp) : CaG P w K mg base CX0 k x ps dvs sp := by
  obtain ⟨f, fd, ds, F, r⟩ := C.ex
  exact ⟨f, fd, ds, .of F, r⟩
theorem caG_mk {P : Program} {w : World} {K : PySem.W.Frag} {mg : Str → Option Value} {base : Heap} {CX : CXT} {k : Nat} {x : Str} {ps : List Str} {dvs : List V} {sp : Sp} {f : Addr} {fd : FuncData} {ds : List Value} (h : FnG P w K mg base CX k f fd ps sp) (m : mg x = some (.ref f)) (kp : PySem.W.keepIn K (.ref f) = true)
    (b : Binds K fd ps ds) (d : Vals dvs ds) : CaG P w K mg base CX k x ps dvs sp := ⟨⟨f, fd, ds, h, m, kp, b, d⟩⟩
section
variable {X : Cx} {CX : CXT} {j k : Nat} {f : Addr} {fd : FuncData} {ps : List Str} {sp : Sp} {dvs : List V} {ds : List Value} {E : XK} {x : Str} {p pos : Pos} {e : Expr} {es : List Expr} {t : TA}
theorem run_g {pins : List (Addr × Obj)} {σ : L2.St} {H : Hp} {s : Shared} {Q : VK} {us : List Value} {vs : List V} (F : FnG X.prog X.w X.K X.mg X.base CX k f fd ps sp) (g : X.A.guards = some []) (hr : Room k X.A) (b : Binds X.K fd ps ds) (d : Vals dvs ds) (out : Passes CX X E)
    (I : Inv X pins σ H s) (v : Vals vs us) (h : sp (vs ++ dvs) H Q E) : wpAny (model X.prog X.w) X.A (call (.ref f) us) (EP X pins σ Q) X.xe s := by
  have va := v.append d
  have le : (us ++ ds).length = ps.length := va.length.symm.trans (F.many _ _ _ _ h)
  refine wpAny_call (codeAny_mono (F.goes X.A X.stack s H ⟨us, []⟩ _ _ Q E g hr I.env0 (b s us I.kIn le) va h) ?_)
  intro r s2 z
  match r, z with
  | .error y, z => exact out pins σ H s y s2 I z
  | .ok (.ret u), z => exact I.after z
theorem pe_caX (C : CaG X.prog X.w X.K X.mg X.base CX k x ps dvs sp) (g : X.A.guards = some []) (hr : Room j X.A) (hk : k ≤ j) (gl : Gl X x) (out : Passes CX X E) (ha : PA X (e :: es) t) (db : (x == ("__debug__" : Str)) = false := by decide)
    (he : starEach (e :: es) X.env = (false, eval e X.env) :: starEach es X.env := by rfl) (pl : (backTo pos (starEach es X.env)).any (·.1) = false := by rfl) : PE X (.Call (.Name x p) (e :: es) [] pos) (tCall sp dvs E t) := by
  obtain ⟨f, fd, ds, F, hm, kp, b, d⟩ := C.ex
  constructor
  intro pins s σ H Q I h
  refine wpAny_Call_Name_kw (ld_glob I gl hm (PySem.W.callWith_K (h₀ := X.base) I.ok.mod.kin kp (thn (ha.run pos pins s σ H _ I h) ?_) he pl) db)
  rintro us s1 ⟨vs, G, J, r, q⟩
  exact ⟨J.kIn, run_g F g (hr.mono hk) b d out J r q⟩
theorem pe_caG (C : CaG X.prog X.w X.K X.mg X.base CX0 k x ps dvs sp) (g : X.A.guards = some []) (hr : Room j X.A) (hk : k ≤ j) (gl : Gl X x) (ha : PA X (e :: es) t) (db : (x == ("__debug__" : Str)) = false := by decide)
    (he : starEach (e :: es) X.env = (false, eval e X.env) :: starEach es X.env := by rfl) (pl : (backTo pos (starEach es X.env)).any (·.1) = false := by rfl) : PE X (.Call (.Name x p) (e :: es) [] pos) (tCall sp dvs E0 t) := pe_caX C g hr hk gl pass0 ha db he pl
end
theorem Fun.okG {P : Program} {w : World} {K : PySem.W.Frag} {mg : Str → Option Value} {base : Heap} {x qual : Str} {st : Stmt} {f : Addr} {fd : FuncData} {N ps : List Str} {k : Nat} {sp : Sp} (F : L2.Fun K x qual st f fd) (S : FnScope N ps (defScope st)) (many : ∀ vs H Q E, sp vs H Q E → vs.length = ps.length)
    (walk : ∀ (cdv : Value) (A : Around) (out : List Env) (s : Shared) (H : Hp) (vs : List V) (Q : VK) (E : XK), A.guards = some [] → Room k (A.deeper (envOfC qual (defScope st) s.heap.objs.size f cdv)) → sp vs H Q E →
      ∃ t, PSs (cxOf CX0 P w K mg base N qual (defScope st) f cdv A out s H E).nox (defBody st) t ∧ t { nx := fun _ G => Q .non G, rt := Q } (start N vs) H) : FnG P w K mg base CX0 (k + 1) f fd ps sp := by
  obtain ⟨_, _, _, _, _, _, cdv, _, _, rfl, lk, hcd⟩ := F.ex
  exact fn_g lk hcd S many fun A out s H vs Q E g hr hs => (walk cdv A out s H vs Q E g hr hs).elim fun t z => ⟨t, z.1.nox, z.2⟩
end NF

namespace NF
open PySem PySem.Spec PyProof.Rows L2 Evl
/-! ### the end of a law row, from a promise that knows of guards -/
section
variable {P : Program} {w : World} {K : PySem.W.Frag} {mg mb : Str → Option Value} {CX : CXT} {k : Nat} {fa a : Addr} {fd : FuncData} {x : Str} {sp : Sp} {s₁ : Shared} {vs : List Value} {ns : List Int}
/-- the call, where the script alone may be tracked -/
theorem goes_from {H : Hp} (g : Heap) (KX : K.In g) (NX : g.Ns mainGlobals mg) (F : FnG P w K mg g CX k fa fd [x] sp) (hr : Room k callerA) (e0 : Env0 P w K mg g callerA [] s₁ H) (bd : ∀ (s : Shared) (u : Value), BindsTo s fd ⟨[u], []⟩ [(x, u)])
    (hO : Only H) (hsp : sp [.ref a] H (fun v _ => v = .bl true) fun _ _ _ => False) (hCX : ∀ H e s', CX [] H s₁ (fun _ _ _ => False) e s' → False) :
    codeAny (model P w) callerA (.call (.ref fa) ⟨[.ref a], []⟩) (fun r s' => r = .ok (.ret (.bool true)) ∧ OldK s₁.heap s'.heap ∧ s'.os = s₁.os ∧ AllBare s'.gens) s₁ := by
  refine codeAny_mono (F.goes callerA [] s₁ H ⟨[.ref a], []⟩ [.ref a] [.ref a] _ _ rfl hr e0 (bd s₁ _) (.cons rfl .nil) hsp) ?_
  intro r s2 z
  match r, z with
  | .error e, z => exact (hCX H e s2 z).elim
  | .ok (.ret u), z =>
    obtain ⟨v, G, h1, h2, un, ok2, rv, q⟩ := z
    cases (show v = .bl true from q)
    cases (show u = Value.bool true from rv)
    refine ⟨rfl, OldK.of_keep ?_, h1, h2⟩
    intro b o eb
    rcases hO b with n | ⟨ob, xs, y⟩
    · exact un.keep b o eb n (List.not_mem_nil) (List.not_mem_nil)
    · have y1 := (e0.hok b _ y).1
      have y2 := (ok2 b _ (un.frzs b ob _ y)).1
      rw [eb] at y1
      rw [y2, y1]
theorem law_goes (KX : K.In s₁.heap) (NX : s₁.heap.Ns mainGlobals mg) (BX : s₁.heap.Ns builtinsNs mb) (bb : ∀ x : Str, x ≠ "__name__" → mb x = bootBuiltins x) (nol : s₁.heap.NoLimit) (gn : s₁.gens = #[])
    (ea : s₁.heap.get? a = some { cls := .type "list", data := .seq vs.toArray }) (hi : IntsAre vs ns) (hl : ns.length ≤ sizeLine) (hr : Room k callerA)
    (F : ∀ base : Heap, K.In base → base.Ns mainGlobals mg → FnG P w K mg base CX k fa fd [x] sp) (bd : ∀ (s : Shared) (u : Value), BindsTo s fd ⟨[u], []⟩ [(x, u)])
    (hsp : ∀ H : Hp, Only H → SqL K H a (ns.map V.int) → sp [.ref a] H (fun v _ => v = .bl true) fun _ _ _ => False) (hCX : ∀ H e s', CX [] H s₁ (fun _ _ _ => False) e s' → False) :
    codeAny (model P w) callerA (.call (.ref fa) ⟨[.ref a], []⟩) (fun r s' => r = .ok (.ret (.bool true)) ∧ OldK s₁.heap s'.heap ∧ s'.os = s₁.os ∧ AllBare s'.gens) s₁ := by
  have rv := vals_ints hi
  by_cases inK : ∃ o, K.lookup a = some o
  · obtain ⟨o, lo⟩ := inK
    have eo := (KX a o lo).symm.trans ea
    cases eo
    have ok0 : HOk P w (fun _ => none) s₁.heap := fun _ _ z => nomatch (show (none : Option HO) = some _ from z)
    have m0 : Mod K mg s₁.heap := ⟨KX, NX, ⟨mb, BX, bb⟩, nol⟩
    exact goes_from s₁.heap KX NX (F _ KX NX) hr ⟨rfl, m0, fun b o e => ⟨e, rfl⟩, Nat.le_refl _, trivial, fun b z => absurd z List.not_mem_nil, ok0, .of_eq gn⟩ bd (fun _ => .inl rfl)
      (hsp _ (fun _ => .inl rfl) (.inr ⟨_, vs.toArray, _, lo, rfl, rfl, rfl, by rw [List.size_toArray, hi.length]; exact hl, rv⟩)) hCX
  · -- the script is tracked, known to the object
    have noK : K.lookup a = none := by
      cases c : K.lookup a with
      | none => rfl
      | some o => exact absurd ⟨o, c⟩ inK
    let H : Hp := fun b => if b = a then some (.frz { cls := .type "list", data := .seq vs.toArray } (.lst (ns.map V.int))) else none
    have Ha : H a = some (.frz { cls := .type "list", data := .seq vs.toArray } (.lst (ns.map V.int))) := if_pos rfl
    have Hn : ∀ {b}, b ≠ a → H b = none := fun n => if_neg n
    have hO : Only H := fun b => by
      by_cases c : b = a
      · exact .inr ⟨_, _, c ▸ Ha⟩
      · exact .inl (Hn c)
    have ok1 : HOk P w H s₁.heap := fun b u z => by
      by_cases c : b = a
      · subst c
        rw [Ha] at z
        cases z
        exact ⟨ea, by rw [List.length_map]; exact hl, vs, _, rv, ea⟩
      · rw [Hn c] at z
        cases z
    have up : ∀ {b o}, s₁.heap.get? b = some o → b ≠ a → (hidT s₁.heap H).get? b = some o := fun e n => hidT_get e (Hn n)
    have na : ∀ {b o es ep}, s₁.heap.get? b = some o → o.data = .dict es ep → b ≠ a := fun {b o es ep} e d c => by
      subst c
      rw [ea] at e
      cases e
      cases (show Data.seq vs.toArray _ = Data.dict es ep from d)
    have upN : ∀ {b m}, s₁.heap.Ns b m → (hidT s₁.heap H).Ns b m := fun ⟨o, es, ep, e, d, r⟩ => ⟨o, es, ep, up e (na e d), d, r⟩
    have KB : K.In (hidT s₁.heap H) := fun b o e => up (KX b o e) fun c => by
      rw [c, noK] at e
      cases e
    obtain ⟨mc, c1, c2⟩ := nol
    have m1 : Mod K mg (hidT s₁.heap H) := ⟨KB, upN NX, ⟨mb, upN BX, bb⟩, ⟨mc, upN c1, c2⟩⟩
    exact goes_from _ KB (upN NX) (F _ KB (upN NX)) hr ⟨rfl, m1, fun b o e => of_hidT e, Nat.le_of_eq (hidT_size _ _), trivial, fun b z => absurd z List.not_mem_nil, ok1, .of_eq gn⟩ bd hO (hsp H hO (.inl (.inr ⟨_, Ha⟩))) hCX
end
theorem walk_g {l : PySem.W.OpenLaw} {n k : Nat} {q : Program} {loose : List Str} {XP : (Str → Option Value) → Heap → Prop} {YP : World → Heap → Prop} {d : DefRec} {K : Params → PySem.W.Frag} {sp : World → Sp} {x : Str}
    (hn : l.most = some n) (hn2 : n ≤ sizeLine) (df : d.params.defaults = []) (hr : Room k callerA) (hY : ∀ (w : World) (h : Heap), YP w h → (K w.params).In h)
    (F : ∀ (w : World) (mg : Str → Option Value) (fa : Addr) (h : Heap), (K w.params).In h → h.Ns mainGlobals mg → mg d.name = some (.ref fa) →
      ∃ fd : FuncData, (∀ (s : Shared) (u : Value), BindsTo s fd ⟨[u], []⟩ [(x, u)]) ∧ ∀ base : Heap, (K w.params).In base → base.Ns mainGlobals mg → FnG l.prog w (K w.params) mg base CX0 k fa fd [x] (sp w))
    (hsp : ∀ (w : World) (H : Hp) (a : Addr) (ns : List Int), ns.length ≤ n → Only H → SqL (K w.params) H a (ns.map V.int) → sp w [.ref a] H (fun v _ => v = .bl true) fun _ _ _ => False) :
    PySem.W.WalkO q loose XP YP l.row.toRowW d [] (fun f vs => PySem.call f vs) := by
  refine Att.attach_call hn df ?_
  intro w s₀ s₁ mg mb fa o pm cd doc a vs ns G Y ho hd hcd hmg hobj hints hlen hg
  obtain ⟨fd, bd, hF⟩ := F w mg fa _ (hY w _ Y) G.T.g hmg
  exact law_goes (hY w _ Y) G.T.g G.T.b G.T.builtins G.T.nolimit hg hobj hints (Nat.le_trans hlen hn2) hr hF bd (fun H hO hS => hsp w H a ns hlen hO hS) fun _ _ _ z => z
end NF

namespace NF
open PySem PySem.Spec PyProof.Rows L2 Evl
/-! ### a caught exception that a local keeps beyond the suite -/
/-- an exception object of the class cls, raised and caught -/
def ExT (cls : Value) (d : Option Addr) (a : Addr) : HO := .ext fun h => ∃ (oe : Obj) (vs : Array Value), h.get? a = some oe ∧ Zc cls d oe ∧ oe.data = .fields vs
theorem exT_ok {P : Program} {w : World} {H : Hp} {h : Heap} {a : Addr} {cls : Value} {d : Option Addr} {oe : Obj} {vs : Array Value} (e : h.get? a = some oe) (z : Zc cls d oe) (dt : oe.data = .fields vs) : ObjOk P w H h a (ExT cls d a) :=
  ⟨⟨oe, vs, e, z, dt⟩, ⟨oe, e⟩, fun _ _ ⟨o1, v1, e1, z1, d1⟩ k => ⟨o1, v1, k _ e1, z1, d1⟩⟩
section
variable {X : Cx} {pins : List (Addr × Obj)} {σ : L2.St} {H : Hp} {s : Shared}
theorem Inv.track {a : Addr} {cls : Value} {d : Option Addr} {oe : Obj} {vs : Array Value} (I : Inv X pins σ H s) (na : H a = none) (ea : s.heap.get? a = some oe) (z : Zc cls d oe) (dt : oe.data = .fields vs)
    (fr : X.s_0.heap.get? a = none) (np : ∀ p ∈ X.pn ++ pins, p.1 ≠ a) (nL : a ≠ X.env.locals) : Inv X pins σ (upd H a (ExT cls d a)) s where
  ok := I.ok
  os := I.os
  bare := I.bare
  base := {
    keep := I.base.keep
    slot := I.base.slot
    free := fun b o e n x => by
      have nb : b ≠ a := fun c => by
        rw [c, fr] at e
        cases e
      rw [upd_ne nb]
      exact I.base.free b o e n x
    there := I.base.there
    tups := fun b xs e => by
      have e2 := I.base.tups b xs e
      rw [upd_ne (ne_of_none e2 na)]
      exact e2
    frzs := fun b o u e => by
      have e2 := I.base.frzs b o u e
      rw [upd_ne (ne_of_none e2 na)]
      exact e2
    tbls := fun b ps e => by
      obtain ⟨m, e2⟩ := I.base.tbls b ps e
      refine ⟨m, ?_⟩
      rw [upd_ne (ne_of_none e2 na)]
      exact e2 }
  loc := I.loc
  cell := I.cell
  free := by
    rw [upd_ne nL.symm]
    exact I.free
  freeC := fun x c e => by
    have nc : c ≠ a := fun q => by
      subst q
      obtain ⟨v, o, e1, e2⟩ := I.cell x c e
      rw [ea] at e1
      cases e1
      rw [dt] at e2
      cases e2
    rw [upd_ne nc]
    exact I.freeC x c e
  pin := fun p hp => by
    obtain ⟨p1, p2, p3⟩ := I.pin p hp
    refine ⟨p1, ?_, p3⟩
    rw [upd_ne (np p hp)]
    exact p2
  hok := fun b u e => by
    by_cases c : b = a
    · subst c
      rw [upd_same] at e
      cases e
      exact exT_ok ea z dt
    · rw [upd_ne c] at e
      refine (I.hok b u e).stay (fun _ _ _ q => q) (fun c q => ?_) (fun c xs q => ?_)
      · rw [upd_ne (ne_of_none q na)]
        exact q
      · rw [upd_ne (ne_of_none q na)]
        exact q
  len := I.len
end
/-- what 'except x as n' wishes of an exception of the body: it is caught; behind the suite it is tracked -/
def wKeep (K : PySem.W.Frag) (c : Value) (i : Nat) (ts : Addr → TS) (D : Ends) : WX := fun cls d σ H =>
  PySem.W.exmOne K cls c = some true ∧ ∀ a, H a = none → ts a { nx := fun σ' G => D.nx (σ'.set i none) (upd G a (ExT cls d a)), rt := fun _ _ => False, bk := fun _ _ => False, ct := fun _ _ => False } (σ.set i (some (.ref a))) H
section
variable {X : Cx} {x n : Str} {c : Value} {i : Nat} {body suite : List Stmt} {b₀ : Stmt} {np pos pos' : Pos} {tb : WX → TS} {ts : Addr → TS}
theorem ps_try_keep (stk : X.stack = X.env :: X.outer) (frm : X.env.frame = some X.env.locals) (nex : X.ex = []) (nd : X.N.Nodup) (hi : X.N[i]? = some n) (kn : X.env.kindOf n = some .local) (nm : Names X x c)
    (hb : ∀ (W : WX) (pn : List (Addr × Obj)) (xe : Value → Shared → Prop), Takes (X.tr pn xe) W → PassesOwn (model X.prog X.w) X.A X.env xe → PSs (X.tr pn xe) body (tb W))
    (hs : ∀ (a : Addr) (oe : Obj) (pn : List (Addr × Obj)), PSs (X.suite a ((a, oe) :: pn)) (b₀ :: suite) (ts a)) :
    PS X (.Try body [.ExceptHandler (some (.Name x np)) (some n) (b₀ :: suite) pos'] [] [] pos) (fun D σ H => tb (wKeep X.K c i ts D) D σ H) := by
  constructor
  intro pins s σ H D I h
  have ok := I.ok
  have frs0 : X.A.frames = some (X.env :: X.outer) := by rw [ok.frames, stk]
  refine wpAny_Try_except (wpAny_mono ((hb (wKeep X.K c i ts D) (X.pn ++ pins) _ ?caught PassesOwn.looking).run [] s σ H D (I.toTry _) h) ?_ fun _ _ z => z)
  case caught =>
    rintro u s2 ⟨a, B, sI, pins', σ', G, cls, d, rfl, J0, nb, up, sky, na, os2, bare2, hm, go⟩
    have J := J0.ofTry (pins := pins) ok
    rw [stk] at sky
    show wpAny (model X.prog X.w) X.A (noteFrame (.ref a) X.env) _ _ _
    refine Sky.land Zc.steady frs0 frm sky ?_
    intro h3 fl3 up3
    have J3 : Inv X pins σ' G { s2 with heap := h3 } := J.landed nb fl3.1 (up.trans up3) os2 bare2
    obtain ⟨o3, v3, e3, z3, d3⟩ := fl3.there
    have apart_ : a ∉ frs (X.env :: X.outer) := fun m => by
      obtain ⟨_, o', e', nf⟩ := fl3.2.2.1.mem m
      rw [e3] at e'
      cases e'
      exact nf _ d3
    have nL : a ≠ X.env.locals := fun q => apart_ (List.mem_filterMap.mpr ⟨X.env, List.mem_cons_self, by rw [frm, q]⟩)
    have nF : a ∉ X.fs := fun m => (List.mem_filterMap.mp m).elim fun e z => apart_ (List.mem_filterMap.mpr ⟨e, List.mem_cons_of_mem _ z.1, z.2⟩)
    have aB : B.get? a = none := fl3.2.1
    have toB : ∀ b o, sI.heap.get? b = some o → b ≠ X.env.locals → b ∉ X.fs → b ≠ a := fun b o e l f q => by
      have := nb b o e (fun m => by
        rw [stk] at m
        rcases List.mem_filterMap.mp m with ⟨ev, hv, q2⟩
        rcases List.mem_cons.mp hv with r | r
        · rw [r, frm] at q2
          exact l (Option.some.inj q2).symm
        · exact f (List.mem_filterMap.mpr ⟨ev, r, q2⟩))
      rw [q, aB] at this
      cases this
    have npn : ∀ p ∈ X.pn ++ pins, p.1 ≠ a := fun p hp => by
      obtain ⟨p1, _, p3, p4, _⟩ := J.pin p hp
      exact toB p.1 p.2 p1 p3 p4
    have fr0 : X.s_0.heap.get? a = none := by
      cases q : X.s_0.heap.get? a with
      | none => rfl
      | some o =>
        obtain ⟨o', e'⟩ := J.base.there a o q (by rw [nex]; exact List.not_mem_nil)
        exact absurd rfl (toB a o' e' nL nF)
    have S3 := J3.suite e3 d3 na nL nF
    refine wpAny_handleBy_cons (codeAny_handlers_test ?_) nofun
    have lt : PySem.W.Looks (model X.prog X.w) h3 (typeOf (.ref a)) cls := fun A Q E s k q => wpAny_typeOf_ref (k _ _ e3) (by rw [z3.1]; exact q)
    have ask : ∀ {Q E : Value → Shared → Prop}, Q c { s2 with heap := h3 } → wpAny (model X.prog X.w) (X.A.mark (some (.ref a))) (eval (.Name x np) X.env) Q E { s2 with heap := h3 } := fun q => by
      obtain ⟨g1, g2, g3⟩ := nm
      rcases g3 with g3 | ⟨g3, g4, g5⟩
      · exact ld_glob (X := X.suite a ((a, o3) :: (X.pn ++ pins))) S3 g1 g3 q g2
      · exact ld_blt (X := X.suite a ((a, o3) :: (X.pn ++ pins))) S3 g1 g3 g4 q g5 g2
    refine ask ((PySem.W.exm_one (M := model X.prog X.w) J3.kIn lt hm).here (codeAny_handlers_suite_as (HandSPX.lands_againZ fl3 ?_)))
    intro h4 fl4 up4
    have J4 : Inv X pins σ' G { s2 with heap := h4 } := J.landed nb fl4.1 ((up.trans up3).trans up4) os2 bare2
    obtain ⟨o4, v4, e4, z4, d4⟩ := fl4.there
    refine store_ok (X := X.suite a ((a, o4) :: (X.pn ++ pins))) (v := .ref a) (J4.suite e4 d4 na nL nF) nd hi (.inl kn) rfl ?_ (.inr kn)
    intro s5 S5
    refine wpAny_mono ((hs a o4 (X.pn ++ pins)).run [] s5 _ G _ S5 (go a na)) ?_ fun _ _ q => q.elim
    intro f s6 w6
    match f, w6 with
    | .next, ⟨σ6, G6, S6, q6⟩ =>
      obtain ⟨a1, a2, _⟩ := S6.pin (a, o4) (List.mem_append_left _ List.mem_cons_self)
      exact gone_ok (Inv.track (S6.unsuite ok) a2 a1 z4 d4 fr0 npn nL) nd hi kn fun s7 J7 => ⟨_, _, J7, q6⟩
    | .brk, ⟨_, _, _, q6⟩ => exact q6.elim
    | .cont, ⟨_, _, _, q6⟩ => exact q6.elim
    | .ret u, ⟨_, _, _, _, _, q6⟩ => exact q6.elim
  · intro f s1 w1
    match f, w1 with
    | .next, ⟨σ1, H1, J1, q1⟩ => exact wpAny_execs_nil ⟨σ1, H1, J1.ofTry ok, q1⟩
    | .brk, ⟨σ1, H1, J1, q1⟩ => exact ⟨σ1, H1, J1.ofTry ok, q1⟩
    | .cont, ⟨σ1, H1, J1, q1⟩ => exact ⟨σ1, H1, J1.ofTry ok, q1⟩
    | .ret u, ⟨v1, σ1, H1, J1, r1, q1⟩ => exact ⟨v1, σ1, H1, J1.ofTry ok, r1, q1⟩
end
/-- isinstance(e, c) of an exception that is kept -/
def rIsX (K : PySem.W.Frag) : List V → Hp → VK → Prop := fun xs H Q => ∃ (a D : Addr) (c : V) (cv : Value) (b : Bool), xs = [.ref a, c] ∧ H a = some (ExT (.ref D) none a) ∧ ExcC K D ∧ (∀ u, RelV c u → u = cv) ∧ PySem.W.kitOne K (.ref D) cv = some b ∧ Q (.bl b) H
theorem call_isX {X : Cx} : CallR X (.builtin "isinstance") (rIsX X.K) := by
  intro pins s σ H xs us Q I r h
  obtain ⟨a, D, c, cv, b, rfl, hH, C, hcv, e, q⟩ := h
  obtain ⟨u1, u2, rfl, r1, r2⟩ := vals2 r
  cases (show u1 = Value.ref a from r1)
  cases hcv _ r2
  obtain ⟨⟨⟨oc, od, oda, osl⟩, vs, e1, ⟨z1, z2⟩, d1⟩, _⟩ := (show ObjOk X.prog X.w H s.heap a (ExT (.ref D) none a) from I.hok a _ hH)
  dsimp only at z1 z2 d1
  subst z1 z2 d1
  exact PySem.W.kia_one (PySem.W.handS_kitx_exc C.hg C.hk C.hs C.hd C.ha C.hn C.ht C.hm) I.kIn ⟨e1, rfl, rfl, trivial⟩ e (fun z => nomatch z) fun tk => ⟨.bl b, H, I.kept (t' := tk) fun _ _ z => z, rfl, q⟩
end NF

namespace NF
open PySem PySem.Spec PyProof.Rows L2 Evl
/-! ### repr of data -/
def Fine (d : PyData) : Prop := d.showable = true ∧ d.hasDict = false ∧ d.depth ≤ 20 ∧ d.shown.length ≤ sizeLine
def rRep (K : PySem.W.Frag) : List V → Hp → VK → Prop := fun xs H Q => ∃ (x : V) (d : PyData), xs = [x] ∧ Dp K H x d ∧ Fine d ∧ Q (.str d.shown) H
theorem call_rep {X : Cx} (gd : X.A.guards = some []) (hu : X.A.units + 64 < cLine) : CallR X (.builtin "repr") (rRep X.K) := by
  intro pins s σ H xs us Q I r h
  obtain ⟨x, d, rfl, hd, ⟨f1, f2, f3, f4⟩, q⟩ := h
  obtain ⟨u, rfl, ru⟩ := vals1 r
  obtain ⟨as, rd⟩ := Dp.reads I d x u hd ru
  cases rd with
  | none => exact PySem.P.repr_of_none ⟨.str _, H, I.tok _, ⟨_, rfl⟩, q⟩
  | bool b => exact PySem.P.repr_of_bool ⟨.str _, H, I.tok _, ⟨_, rfl⟩, q⟩
  | int i t => exact PySem.P.repr_of_int (by simpa only [PyData.showable, decide_eq_true_eq] using f1) ⟨.str _, H, I.tok _, ⟨_, rfl⟩, q⟩
  | str y t => exact PySem.P.repr_of_str ⟨.str _, H, I.tok _, ⟨_, rfl⟩, q⟩ f4
  | list a1 a2 a3 a4 => exact repr_of_reads' (.list a1 a2 a3 a4) f1 (fun z => by rw [f2] at z; cases z) gd (by omega) (fun _ _ z => z) (fun h' t tk hk => ⟨.str _, H, I.kept hk, ⟨t, rfl⟩, q⟩) f4
  | tuple a1 a2 a3 a4 => exact repr_of_reads' (.tuple a1 a2 a3 a4) f1 (fun z => by rw [f2] at z; cases z) gd (by omega) (fun _ _ z => z) (fun h' t tk hk => ⟨.str _, H, I.kept hk, ⟨t, rfl⟩, q⟩) f4
  | dict a1 a2 a3 a4 a5 => cases hd
/-! ### data that is fine to show -/
def FineN (n : Nat) (d : PyData) : Prop := d.showable = true ∧ d.hasDict = false ∧ d.leavesShort 2000 = true ∧ d.weight ≤ n
theorem fine_of {n : Nat} {d : PyData} (h : FineN n d) (hn : n ≤ 4000) (hd : d.depth ≤ 20) : Fine d := by
  obtain ⟨h1, h2, h3, h4⟩ := h
  refine ⟨h1, h2, hd, ?_⟩
  have h5 := PyData.shown_le 2000 (by decide) d h3
  have h6 : (2000 + 2) * d.weight ≤ 2002 * 4000 := Nat.mul_le_mul_left _ (by omega)
  have h7 : 2002 * 4000 + 2000 ≤ sizeLine := by decide
  omega
theorem fineI {i : Int} (h : i.natAbs < 2 ^ 1900) : FineN 1900 (.int i) := by
  have hl : i.natAbs.log2 < 1900 := PySem.Flt.log2_lt_of (by decide) h
  refine ⟨?_, rfl, ?_, ?_⟩
  · simp only [PyData.showable, decide_eq_true_eq]
    omega
  · simp only [PyData.leavesShort, decide_eq_true_eq]
    show (Str.ofString (toString i)).length ≤ 2000
    have h1 := int_text_length_le (a := i) (k := 1900) (by decide) hl
    rw [PySem.ofString_length]
    omega
  · simp only [PyData.weight]
    split <;> omega
def fd (x : Rat) : PyData := .tuple [.int x.num, .int x.den]
/-- the bits of a fraction as shown -/
theorem weightI {i : Int} {B : Nat} (h : i.natAbs < 2 ^ B) (h0 : 0 < B) : PyData.weight (.int i) ≤ B := by
  have hl : i.natAbs.log2 < B := PySem.Flt.log2_lt_of h0 h
  simp only [PyData.weight]
  split <;> omega
theorem fineF {B : Nat} {x : Rat} (h : Sz B x) (h0 : 0 < B) (hB : B ≤ 1900) : FineN (2 * B + 2) (fd x) := by
  obtain ⟨a1, a2, a3, _⟩ := fineI (bits_up h.num hB)
  obtain ⟨b1, b2, b3, _⟩ := fineI (bits_up h.den hB)
  have a4 := weightI h.num h0
  have b4 := weightI h.den h0
  refine ⟨?_, ?_, ?_, ?_⟩
  · simp only [fd, PyData.showable, PyData.showableAll] at *
    simp only [a1, b1]
    rfl
  · rfl
  · simp only [fd, PyData.leavesShort, PyData.leavesShortAll] at *
    simp only [a3, b3]
    rfl
  · simp only [fd, PyData.weight, PyData.weightAll] at *
    omega
theorem fineL {B : Nat} (h0 : 0 < B) (hB : B ≤ 1900) : ∀ {xs : List Rat}, (∀ x ∈ xs, Sz B x) → FineN (xs.length * (2 * B + 3)) (.list (xs.map fd)) ∧ (PyData.list (xs.map fd)).depth ≤ 2
  | [], _ => ⟨⟨rfl, rfl, rfl, Nat.zero_le _⟩, by show 1 ≤ 2; decide⟩
  | x :: xs, h => by
    obtain ⟨⟨a1, a2, a3, a4⟩, a5⟩ := fineL h0 hB (xs := xs) fun y hy => h y (List.mem_cons_of_mem _ hy)
    obtain ⟨b1, b2, b3, b4⟩ := fineF (h x (List.mem_cons_self ..)) h0 hB
    simp only [PyData.showable, PyData.hasDict, PyData.leavesShort, PyData.weight, PyData.depth, List.map_cons, PyData.showableAll, PyData.hasDictAll, PyData.leavesShortAll, PyData.weightAll, PyData.depthAll, FineN] at *
    refine ⟨⟨by rw [a1, b1]; rfl, by rw [a2, b2]; rfl, by rw [a3, b3]; rfl, ?_⟩, ?_⟩
    · rw [List.length_cons, Nat.succ_mul]
      omega
    · have : (fd x).depth ≤ 1 := by show 1 ≤ 1; decide
      omega
theorem fine_rt {B : Nat} {x : Rat} (h : Sz B x) (h0 : 0 < B) (hB : B ≤ 1900) : Fine (fd x) := fine_of (fineF h h0 hB) (by omega) (by show 1 ≤ 20; decide)
theorem fine_rts {B : Nat} {xs : List Rat} (h : ∀ x ∈ xs, Sz B x) (h0 : 0 < B) (hB : B ≤ 1900) (hn : xs.length * (2 * B + 3) ≤ 4000) : Fine (.list (xs.map fd)) := by
  obtain ⟨a, b⟩ := fineL h0 hB h
  exact fine_of a hn (by omega)
theorem fine_bl (b : Bool) : Fine (.bool b) := by cases b <;> exact ⟨rfl, rfl, by decide, by decide +kernel⟩
/-! ### what repr evaluates to -/
section
variable {K : PySem.W.Frag} {H H1 H2 : Hp} {σ : L2.St} {ta tb te tl : TE} {x y z : Rat} {v w u : V} {B : Nat} {E : XK}
theorem dp_rts : ∀ {us : List V} {xs : List Rat}, RtAll K H us xs → DpAll K H us (xs.map fd)
  | _, _, .nil => .nil
  | _, _, .cons h t => .cons (dp_rt h) (dp_rts t)
theorem ev_repF (h : EvF K ta σ H x) (sx : Sz B x) (h0 : 0 < B) (hB : B ≤ 1900) : Ev (tCB (rRep K) (tCons ta tNil)) σ H (.str (fd x).shown) := fun H1 e Q q =>
  h H1 e _ fun v H2 e2 r => ⟨v, fd x, rfl, dp_rt r, fine_rt sx h0 hB, q H2 e2⟩
theorem ev_repL {a : Addr} {us : List V} {xs : List Rat} (h : Ev ta σ H (.ref a)) (ha : SqL K H a us) (hx : RtAll K H us xs) (hf : Fine (.list (xs.map fd))) : Ev (tCB (rRep K) (tCons ta tNil)) σ H (.str (PyData.list (xs.map fd)).shown) := fun H1 e Q q =>
  h H1 e _ fun H2 e2 => ⟨_, _, rfl, .lst (ex_l (e.trans e2) ha) (dp_rts (hx.mono (e.trans e2))), hf, q H2 e2⟩
theorem ev_repB {b : Bool} (h : Ev ta σ H (.bl b)) : Ev (tCB (rRep K) (tCons ta tNil)) σ H (.str (PyData.bool b).shown) := fun H1 e Q q =>
  h H1 e _ fun H2 e2 => ⟨_, .bool b, rfl, .bl b, fine_bl b, q H2 e2⟩
/-- fractions made one after another, then a list of them -/
def EvFs (K : PySem.W.Frag) (tA : TA) (σ : L2.St) (H : Hp) (xs : List Rat) : Prop := ∀ H1, Ex H H1 → ∀ Q : List V → Hp → Prop, (∀ vs H2, Ex H1 H2 → RtAll K H2 vs xs → Q vs H2) → tA σ H1 Q
theorem efs_nil : EvFs K tNil σ H [] := fun H1 _ Q q => q [] H1 (Ex.refl H1) .nil
theorem efs_cons {tA : TA} {xs : List Rat} (h : EvF K ta σ H x) (hr : EvFs K tA σ H xs) : EvFs K (tCons ta tA) σ H (x :: xs) := fun H1 e Q q =>
  h H1 e _ fun v H2 e2 r => hr H2 (e.trans e2) _ fun vs H3 e3 rs => q (v :: vs) H3 (e2.trans e3) (.cons (r.mono e3) rs)
/-- such a list -/
def EvR (K : PySem.W.Frag) (te : TE) (σ : L2.St) (H : Hp) (xs : List Rat) : Prop := ∀ H1, Ex H H1 → ∀ Q : VK, (∀ p us H2, H1 p = none → Ex H1 H2 → H2 p = some (.lst us) → RtAll K H2 us xs → Q (.ref p) H2) → te σ H1 Q
theorem er_lst {tA : TA} {xs : List Rat} (h : EvFs K tA σ H xs) (hl : xs.length ≤ 100000) : EvR K (tLst tA) σ H xs := fun H1 e Q q =>
  h H1 e _ fun vs H2 e2 r => ⟨sz_of (by rw [r.length]; exact hl), fun p hp => q p vs _ (fresh_back e2 hp) (e2.trans (Ex.new hp)) upd_same (r.mono (Ex.new hp))⟩
end
/-! ### f(k = v, ..) -/
structure CaK (P : Program) (w : World) (K : PySem.W.Frag) (mg : Str → Option Value) (base : Heap) (k : Nat) (x : Str) (ps ks : List Str) (g : {α : Type} → List α → List α) (sp : Sp) : Prop where
  ex : ∃ (f : Addr) (fd : FuncData), FnG P w K mg base CX0 k f fd ps sp ∧ mg x = some (.ref f) ∧ PySem.W.keepIn K (.ref f) = true ∧ (∀ (s : Shared) (ws : List Value), K.In s.heap → ws.length = ks.length → BindsTo s fd ⟨[], ks.zip ws⟩ (ps.zip (g ws)))
  rel : ∀ {vs : List V} {us : List Value}, Vals vs us → Vals (g vs) (g us)
def tCallW (n : Nat) (sp : Sp) (g : {α : Type} → List α → List α) (E : XK) (tk : TA) : TE := fun σ H Q => tk σ H fun zs H2 => zs.length = n ∧ sp (g zs) H2 Q E
theorem pe_caK {X : Cx} {j k : Nat} {x : Str} {ps ks : List Str} {g : {α : Type} → List α → List α} {sp : Sp} {p pos : Pos} {kws : List Keyword} {tk : TA} (C : CaK X.prog X.w X.K X.mg X.base k x ps ks g sp) (gd : X.A.guards = some []) (hr : Room j X.A) (hk : k ≤ j) (gl : Gl X x) (hkw : PK X kws tk)
    (hall : (backToKw pos (keywordEach kws X.env)).all (·.1.isSome) = true := by rfl) (hks : (backToKw pos (keywordEach kws X.env)).filterMap (·.1) = ks := by rfl) (db : (x == ("__debug__" : Str)) = false := by decide)
    (pl : ((backTo pos (starEach [] X.env)).any (·.1) || (backToKw pos (keywordEach kws X.env)).any (·.1.isNone)) = false := by rfl) : PE X (.Call (.Name x p) [] kws pos) (tCallW ks.length sp g E0 tk) := by
  obtain ⟨f, fd, F, hm, kp, b⟩ := C.ex
  constructor
  intro pins s σ H Q I h
  refine wpAny_Call_Name_kw (ld_glob I gl hm (PySem.W.callWith_KW0 (h₀ := X.base) I.ok.mod.kin kp hall (thn (hkw.run pos pins s σ H _ I h) ?_) pl) db)
  rintro ws s1 ⟨zs, G, J, r, hl, q⟩
  refine ⟨J.kIn, ?_⟩
  rw [hks]
  refine wpAny_call (codeAny_mono (F.goes X.A X.stack s1 G ⟨[], ks.zip ws⟩ _ _ Q E0 gd (hr.mono hk) J.env0 (b s1 ws J.kIn (r.length.symm.trans hl)) (C.rel r) q) ?_)
  intro r2 s2 z
  match r2, z with
  | .error y, z => exact z.elim
  | .ok (.ret u), z => exact J.after z
end NF

namespace NF
open PySem PySem.Spec PyProof.Rows L2 Evl
def topS (i : Nat) : Stmt := PySem.Challenge.pw_neartwins_k02_fractions_reckoned.main.body.getD i (.Pass ⟨0, 0, 0, 0⟩)
abbrev s_greatest_divisor : Stmt := topS 5
theorem sc_greatest_divisor : FnScope ["one", "other"] ["one", "other"] (defScope s_greatest_divisor) := ⟨rfl, rfl, rfl, by decide +kernel, rfl, by decide +kernel, by decide +kernel⟩
abbrev s_reduced : Stmt := topS 6
theorem sc_reduced : FnScope ["top", "bottom", "divisor"] ["top", "bottom"] (defScope s_reduced) := ⟨rfl, rfl, rfl, by decide +kernel, rfl, by decide +kernel, by decide +kernel⟩
abbrev s_plus : Stmt := topS 7
theorem sc_plus : FnScope ["one", "other"] ["one", "other"] (defScope s_plus) := ⟨rfl, rfl, rfl, by decide +kernel, rfl, by decide +kernel, by decide +kernel⟩
abbrev s_minus : Stmt := topS 8
theorem sc_minus : FnScope ["one", "other"] ["one", "other"] (defScope s_minus) := ⟨rfl, rfl, rfl, by decide +kernel, rfl, by decide +kernel, by decide +kernel⟩
abbrev s_times : Stmt := topS 9
theorem sc_times : FnScope ["one", "other"] ["one", "other"] (defScope s_times) := ⟨rfl, rfl, rfl, by decide +kernel, rfl, by decide +kernel, by decide +kernel⟩
abbrev s_over : Stmt := topS 10
theorem sc_over : FnScope ["one", "other"] ["one", "other"] (defScope s_over) := ⟨rfl, rfl, rfl, by decide +kernel, rfl, by decide +kernel, by decide +kernel⟩
abbrev s_under : Stmt := topS 11
theorem sc_under : FnScope ["one", "other"] ["one", "other"] (defScope s_under) := ⟨rfl, rfl, rfl, by decide +kernel, rfl, by decide +kernel, by decide +kernel⟩
abbrev s_apart : Stmt := topS 12
theorem sc_apart : FnScope ["one", "other"] ["one", "other"] (defScope s_apart) := ⟨rfl, rfl, rfl, by decide +kernel, rfl, by decide +kernel, by decide +kernel⟩
section
variable {P : Program} {w : World} {K : PySem.W.Frag} {mg : Str → Option Value} {base : Heap} {f : Addr} {fd : FuncData}
theorem ok_gcd (F : Fun K "greatest_divisor" "greatest_divisor" s_greatest_divisor f fd) (n_abs : mg "abs" = none) : FnOk P w K mg base CX0 1 f fd ["one", "other"] spGcd := by
  refine F.ok sc_greatest_divisor (fun vs H Q E h => ?_) (fun cdv A outer s H vs Q E hr h => ?_)
  · obtain ⟨a, b, rfl, _⟩ := h
    rfl
  · obtain ⟨a, b, rfl, q⟩ := h
    refine ⟨_, (pss_cons (ps_while PassesOwn.never (pt_cmpR op_ne (pv 1) pe_int (nomark _)) (pss_one (ps_par (i := 0) (j := 1) (by rfl) sc_greatest_divisor.nd rfl rfl (by decide) rfl rfl (pa_cons (pv 1) (pa_cons (pe_op op_modN (pv 0) (pv 1)) pa_nil)) (by rfl))))
      (pss_one (ps_ret (pe_callB call_abs (by rfl) n_abs PyProof.Rows.boot_abs (pa_cons (pv 0) pa_nil))))), ?_⟩
    refine q_while (fun m σ' H' => ∃ c d : Int, σ' = [some (.int c), some (.int d)] ∧ d.natAbs = m ∧ Int.gcd c d = Int.gcd a b ∧ Ex H H') b.natAbs ⟨a, b, rfl, rfl, rfl, Ex.refl H⟩ ?_
    rintro m σ' H' ⟨c, d, rfl, rfl, eg, ex⟩
    refine ⟨_, et_test (ev_op (ev_var rfl) ev_c (rv_ne rfl)), fun hb H1 e1 => ?_, fun hb H1 e1 => ?_⟩
    · have hd : d ≠ 0 := by
        intro z
        subst z
        simp at hb
      obtain ⟨g1, g2⟩ := gcd_step (a := c) hd
      refine ⟨fun σ2 H2 => ∃ c' d' : Int, σ2 = [some (.int c'), some (.int d')] ∧ d'.natAbs < d.natAbs ∧ Int.gcd c' d' = Int.gcd a b ∧ Ex H H2, ?_, ?_⟩
      · rintro σ2 H2 ⟨c', d', e, l, g, x⟩
        exact ⟨_, l, c', d', e, rfl, g, x⟩
      · exact s_par (ea_cons (ev_var rfl) (ea_cons (ev_op (ev_var rfl) (ev_var rfl) (rv_I hd)) ea_nil)) fun H2 e2 => ⟨d, c.fmod d, rfl, g2, by rw [g1, eg], (ex.trans e1).trans e2⟩
    · have hd : d = 0 := by
        by_cases z : d = 0
        · exact z
        · simp [z] at hb
      subst hd
      have ea : RC (fun xs H Q => ∃ i, xs = [V.int i] ∧ Q (V.int (if i < 0 then -i else i)) H) [V.int c] H1 (V.int (if c < 0 then -c else c)) := fun H1 _ Q' q' => ⟨c, rfl, q' H1 (Ex.refl H1)⟩
      refine s_ret (v := .int (Int.gcd a b)) (ev_is (ev_cb (ea_cons (ev_var rfl) ea_nil) ea) ?_) fun H2 e2 => q H2 ((ex.trans e1).trans e2)
      rw [← eg, Int.gcd_zero_right]
      congr 1
      split <;> omega
theorem ok_red (F : Fun K "reduced" "reduced" s_reduced f fd) (C_greatest_divisor : Cal P w K mg base 1 "greatest_divisor" ["one", "other"] [] spGcd) : FnOk P w K mg base CX0 2 f fd ["top", "bottom"] (spRed K) := by
  refine F.ok sc_reduced (fun vs H Q E h => ?_) (fun cdv A outer s H vs Q E hr h => ?_)
  · obtain ⟨a, b, _, rfl, _⟩ := h
    rfl
  · obtain ⟨a, b, B, rfl, hb0, ha, hb, hB0, hB, q⟩ := h
    refine ⟨_, (pss_cons (ps_set (i := 2) sc_reduced.nd rfl (.inl rfl) (pe_cal C_greatest_divisor hr (by decide) (by rfl) (pa_cons (pv 0) (pa_cons (pv 1) pa_nil))))
      (pss_cons (ps_if (pt_cmpR op_lt (pv 1) pe_int (nomark _)) (pss_one (ps_set (i := 2) sc_reduced.nd rfl (.inl rfl) (pe_un un_neg (pv 2)))) pss_nil)
      (pss_one (ps_ret (pe_tup (pa_cons (pe_op op_fdivX (pv 0) (pv 2)) (pa_cons (pe_op op_fdivX (pv 1) (pv 2)) pa_nil))))))), ?_⟩
    have hg : 0 < Int.gcd a b := Int.gcd_pos_of_ne_zero_right _ hb0
    have hgb : ((Int.gcd a b : Nat) : Int).natAbs < 2 ^ B := by
      have h1 : Int.gcd a b ≤ b.natAbs := Nat.le_of_dvd (by omega) (Int.gcd_dvd_natAbs_right a b)
      omega
    refine q_asg (ev_gcd (ev_var rfl) (ev_var rfl)) fun H1 e1 => ?_
    refine q_ifAsg (v := .int (if b < 0 then -(Int.gcd a b : Int) else Int.gcd a b)) (et_test (ev_op (ev_var rfl) ev_c rv_I0)) (fun hb => ?_) (fun hb => ?_) fun H2 e2 => ?_
    · have hl : b < 0 := of_decide_eq_true hb
      rw [if_pos hl]
      exact ev_un (ev_var rfl) ru_neg
    · have hl : ¬ b < 0 := of_decide_eq_false hb
      rw [if_neg hl]
      rfl
    · have hd0 : (if b < 0 then -(Int.gcd a b : Int) else Int.gcd a b) ≠ 0 := by split <;> omega
      have hdb : (if b < 0 then -(Int.gcd a b : Int) else Int.gcd a b).natAbs < 2 ^ B := by split <;> omega
      refine s_retU (eu_tup (ea_cons (ev_op (ev_var rfl) (ev_var rfl) (rv_I (divX hd0 hdb hB0 hB))) (ea_cons (ev_op (ev_var rfl) (ev_var rfl) (rv_I (divX hd0 hdb hB0 hB))) ea_nil)) (by show 2 ≤ 100000; decide)) fun p H3 _ e3 hp => ?_
      refine q _ _ ((e1.trans e2).trans e3) (Rt.of hp ?_ ?_)
      · by_cases hl : b < 0
        · rw [if_pos hl]
          exact (red_neg hl).1
        · rw [if_neg hl]
          exact (red_pos (by omega)).1
      · by_cases hl : b < 0
        · rw [if_pos hl]
          exact (red_neg hl).2
        · rw [if_neg hl]
          exact (red_pos (by omega)).2
theorem ok_plus (F : Fun K "plus" "plus" s_plus f fd) (C_reduced : Cal P w K mg base 2 "reduced" ["top", "bottom"] [] (spRed K)) : FnOk P w K mg base CX0 3 f fd ["one", "other"] (sp2 K (fun _ _ => True) (· + ·)) := by
  refine F.ok sc_plus (fun vs H Q E h => ?_) (fun cdv A outer s H vs Q E hr h => ?_)
  · obtain ⟨_, _, _, _, _, rfl, _⟩ := h
    rfl
  · obtain ⟨v, w, x, y, B, rfl, rx, ry, _, sx, sy, h0, hB, q⟩ := h
    refine ⟨_, (pss_one (ps_ret (pe_cal C_reduced hr (by decide) (by rfl) (pa_cons (pe_op op_add (pe_op op_mulW (pe_ix ix_tup (pv 0) pe_int (fun _ _ => rfl)) (pe_ix ix_tup (pv 1) pe_int (fun _ _ => rfl))) (pe_op op_mulW (pe_ix ix_tup (pv 1) pe_int (fun _ _ => rfl)) (pe_ix ix_tup (pv 0) pe_int (fun _ _ => rfl)))) (pa_cons (pe_op op_mulW (pe_ix ix_tup (pv 0) pe_int (fun _ _ => rfl)) (pe_ix ix_tup (pv 1) pe_int (fun _ _ => rfl))) pa_nil))))), ?_⟩
    have m1 := rv_I (H := H) (g := fun i j => V.int (i * j)) (wide_mul sx.num sy.den h0 h0 (by omega))
    have m2 := rv_I (H := H) (g := fun i j => V.int (i * j)) (wide_mul sy.num sx.den h0 h0 (by omega))
    have m3 := rv_I (H := H) (g := fun i j => V.int (i * j)) (wide_mul sx.den sy.den h0 h0 (by omega))
    have a1 : EvF K (tVar 0) (start ["one", "other"] [v, w]) H x := ef_var rfl rx
    have a2 : EvF K (tVar 1) (start ["one", "other"] [v, w]) H y := ef_var rfl ry
    refine s_retF (EvF.to (ef_red (B := 2 * B + 1) (ev_op (ev_op (ev_ix0 a1) (ev_ix1 a2) m1) (ev_op (ev_ix0 a2) (ev_ix1 a1) m2) rv_I0) (ev_op (ev_ix1 a1) (ev_ix1 a2) m3) (den_mul0 x y)
      (bits_up (bits_add (bits_mul sx.num sy.den) (bits_mul sy.num sx.den)) (by omega)) (bits_up (bits_mul sx.den sy.den) (by omega)) (by omega) (by omega)) (add_rt x y).symm) fun u H1 e1 r => q u H1 e1 r
theorem ok_minus (F : Fun K "minus" "minus" s_minus f fd) (C_reduced : Cal P w K mg base 2 "reduced" ["top", "bottom"] [] (spRed K)) : FnOk P w K mg base CX0 3 f fd ["one", "other"] (sp2 K (fun _ _ => True) (· - ·)) := by
  refine F.ok sc_minus (fun vs H Q E h => ?_) (fun cdv A outer s H vs Q E hr h => ?_)
  · obtain ⟨_, _, _, _, _, rfl, _⟩ := h
    rfl
  · obtain ⟨v, w, x, y, B, rfl, rx, ry, _, sx, sy, h0, hB, q⟩ := h
    refine ⟨_, (pss_one (ps_ret (pe_cal C_reduced hr (by decide) (by rfl) (pa_cons (pe_op op_sub (pe_op op_mulW (pe_ix ix_tup (pv 0) pe_int (fun _ _ => rfl)) (pe_ix ix_tup (pv 1) pe_int (fun _ _ => rfl))) (pe_op op_mulW (pe_ix ix_tup (pv 1) pe_int (fun _ _ => rfl)) (pe_ix ix_tup (pv 0) pe_int (fun _ _ => rfl)))) (pa_cons (pe_op op_mulW (pe_ix ix_tup (pv 0) pe_int (fun _ _ => rfl)) (pe_ix ix_tup (pv 1) pe_int (fun _ _ => rfl))) pa_nil))))), ?_⟩
    have m1 := rv_I (H := H) (g := fun i j => V.int (i * j)) (wide_mul sx.num sy.den h0 h0 (by omega))
    have m2 := rv_I (H := H) (g := fun i j => V.int (i * j)) (wide_mul sy.num sx.den h0 h0 (by omega))
    have m3 := rv_I (H := H) (g := fun i j => V.int (i * j)) (wide_mul sx.den sy.den h0 h0 (by omega))
    have a1 : EvF K (tVar 0) (start ["one", "other"] [v, w]) H x := ef_var rfl rx
    have a2 : EvF K (tVar 1) (start ["one", "other"] [v, w]) H y := ef_var rfl ry
    refine s_retF (EvF.to (ef_red (B := 2 * B + 1) (ev_op (ev_op (ev_ix0 a1) (ev_ix1 a2) m1) (ev_op (ev_ix0 a2) (ev_ix1 a1) m2) rv_I0) (ev_op (ev_ix1 a1) (ev_ix1 a2) m3) (den_mul0 x y)
      (bits_up (bits_sub (bits_mul sx.num sy.den) (bits_mul sy.num sx.den)) (by omega)) (bits_up (bits_mul sx.den sy.den) (by omega)) (by omega) (by omega)) (sub_rt x y).symm) fun u H1 e1 r => q u H1 e1 r
theorem ok_times (F : Fun K "times" "times" s_times f fd) (C_reduced : Cal P w K mg base 2 "reduced" ["top", "bottom"] [] (spRed K)) : FnOk P w K mg base CX0 3 f fd ["one", "other"] (sp2 K (fun _ _ => True) (· * ·)) := by
  refine F.ok sc_times (fun vs H Q E h => ?_) (fun cdv A outer s H vs Q E hr h => ?_)
  · obtain ⟨_, _, _, _, _, rfl, _⟩ := h
    rfl
  · obtain ⟨v, w, x, y, B, rfl, rx, ry, _, sx, sy, h0, hB, q⟩ := h
    refine ⟨_, (pss_one (ps_ret (pe_cal C_reduced hr (by decide) (by rfl) (pa_cons (pe_op op_mulW (pe_ix ix_tup (pv 0) pe_int (fun _ _ => rfl)) (pe_ix ix_tup (pv 1) pe_int (fun _ _ => rfl))) (pa_cons (pe_op op_mulW (pe_ix ix_tup (pv 0) pe_int (fun _ _ => rfl)) (pe_ix ix_tup (pv 1) pe_int (fun _ _ => rfl))) pa_nil))))), ?_⟩
    have m1 := rv_I (H := H) (g := fun i j => V.int (i * j)) (wide_mul sx.num sy.num h0 h0 (by omega))
    have m3 := rv_I (H := H) (g := fun i j => V.int (i * j)) (wide_mul sx.den sy.den h0 h0 (by omega))
    have a1 : EvF K (tVar 0) (start ["one", "other"] [v, w]) H x := ef_var rfl rx
    have a2 : EvF K (tVar 1) (start ["one", "other"] [v, w]) H y := ef_var rfl ry
    refine s_retF (EvF.to (ef_red (B := 2 * B + 1) (ev_op (ev_ix0 a1) (ev_ix0 a2) m1) (ev_op (ev_ix1 a1) (ev_ix1 a2) m3) (den_mul0 x y)
      (bits_up (bits_mul sx.num sy.num) (by omega)) (bits_up (bits_mul sx.den sy.den) (by omega)) (by omega) (by omega)) (mul_rt x y).symm) fun u H1 e1 r => q u H1 e1 r
theorem ok_over (F : Fun K "over" "over" s_over f fd) (C_reduced : Cal P w K mg base 2 "reduced" ["top", "bottom"] [] (spRed K)) : FnOk P w K mg base CX0 3 f fd ["one", "other"] (sp2 K (fun _ y => y ≠ 0) (· / ·)) := by
  refine F.ok sc_over (fun vs H Q E h => ?_) (fun cdv A outer s H vs Q E hr h => ?_)
  · obtain ⟨_, _, _, _, _, rfl, _⟩ := h
    rfl
  · obtain ⟨v, w, x, y, B, rfl, rx, ry, hy, sx, sy, h0, hB, q⟩ := h
    refine ⟨_, (pss_cons (ps_if (pt_cmpR op_eq (pe_ix ix_tup (pv 1) pe_int (fun _ _ => rfl)) pe_int (nomark _)) (pss_one ps_never) pss_nil)
      (pss_one (ps_ret (pe_cal C_reduced hr (by decide) (by rfl) (pa_cons (pe_op op_mulW (pe_ix ix_tup (pv 0) pe_int (fun _ _ => rfl)) (pe_ix ix_tup (pv 1) pe_int (fun _ _ => rfl))) (pa_cons (pe_op op_mulW (pe_ix ix_tup (pv 0) pe_int (fun _ _ => rfl)) (pe_ix ix_tup (pv 1) pe_int (fun _ _ => rfl))) pa_nil)))))), ?_⟩
    have m1 := rv_I (H := H) (g := fun i j => V.int (i * j)) (wide_mul sx.num sy.den h0 h0 (by omega))
    have m3 := rv_I (H := H) (g := fun i j => V.int (i * j)) (wide_mul sx.den sy.num h0 h0 (by omega))
    have a1 : EvF K (tVar 0) (start ["one", "other"] [v, w]) H x := ef_var rfl rx
    have a2 : EvF K (tVar 1) (start ["one", "other"] [v, w]) H y := ef_var rfl ry
    have nz := num_nz hy
    refine q_when (et_test (ev_op (ev_ix0 a2) ev_c (rv_eq rfl))) (fun hb => ?_) fun _ H1 e1 => ?_
    · exact absurd (V.int.inj (of_decide_eq_true hb)) nz
    · refine s_retF (EvF.to (EvF.mono (ef_red (B := 2 * B + 1) (ev_op (ev_ix0 a1) (ev_ix1 a2) m1) (ev_op (ev_ix1 a1) (ev_ix0 a2) m3) (Int.mul_ne_zero (den0 x) nz)
        (bits_up (bits_mul sx.num sy.den) (by omega)) (bits_up (bits_mul sx.den sy.num) (by omega)) (by omega) (by omega)) e1) (div_rt x y).symm) fun u H2 e2 r => q u H2 (e1.trans e2) r
theorem ok_under (F : Fun K "under" "under" s_under f fd) : FnOk P w K mg base CX0 1 f fd ["one", "other"] (spLt K) := by
  refine F.ok sc_under (fun vs H Q E h => ?_) (fun cdv A outer s H vs Q E hr h => ?_)
  · obtain ⟨_, _, _, _, _, rfl, _⟩ := h
    rfl
  · obtain ⟨v, w, x, y, B, rfl, rx, ry, sx, sy, h0, hB, q⟩ := h
    refine ⟨_, (pss_one (ps_ret (pe_cmpR op_lt (pe_op op_mulW (pe_ix ix_tup (pv 0) pe_int (fun _ _ => rfl)) (pe_ix ix_tup (pv 1) pe_int (fun _ _ => rfl))) (pe_op op_mulW (pe_ix ix_tup (pv 1) pe_int (fun _ _ => rfl)) (pe_ix ix_tup (pv 0) pe_int (fun _ _ => rfl))) (nomark _)))), ?_⟩
    have m1 := rv_I (H := H) (g := fun i j => V.int (i * j)) (wide_mul sx.num sy.den h0 h0 (by omega))
    have m2 := rv_I (H := H) (g := fun i j => V.int (i * j)) (wide_mul sy.num sx.den h0 h0 (by omega))
    have a1 : EvF K (tVar 0) (start ["one", "other"] [v, w]) H x := ef_var rfl rx
    have a2 : EvF K (tVar 1) (start ["one", "other"] [v, w]) H y := ef_var rfl ry
    refine s_ret (ev_is (ev_op (ev_op (ev_ix0 a1) (ev_ix1 a2) m1) (ev_op (ev_ix0 a2) (ev_ix1 a1) m2) rv_I0) ?_) q
    show V.bl _ = V.bl _
    congr 1
    exact decide_eq_decide.mpr (lt_rt x y).symm
theorem ok_apart (F : Fun K "apart" "apart" s_apart f fd) (C_under : Cal P w K mg base 1 "under" ["one", "other"] [] (spLt K)) (C_minus : Cal P w K mg base 3 "minus" ["one", "other"] [] (sp2 K (fun _ _ => True) (· - ·))) : FnOk P w K mg base CX0 4 f fd ["one", "other"] (sp2 K (fun _ _ => True) ap) := by
  refine F.ok sc_apart (fun vs H Q E h => ?_) (fun cdv A outer s H vs Q E hr h => ?_)
  · obtain ⟨_, _, _, _, _, rfl, _⟩ := h
    rfl
  · obtain ⟨v, w, x, y, B, rfl, rx, ry, _, sx, sy, h0, hB, q⟩ := h
    refine ⟨_, (pss_cons (ps_if (pt_val (pe_cal C_under hr (by decide) (by rfl) (pa_cons (pv 0) (pa_cons (pv 1) pa_nil)))) (pss_one (ps_ret (pe_cal C_minus hr (by decide) (by rfl) (pa_cons (pv 1) (pa_cons (pv 0) pa_nil))))) pss_nil)
      (pss_one (ps_ret (pe_cal C_minus hr (by decide) (by rfl) (pa_cons (pv 0) (pa_cons (pv 1) pa_nil)))))), ?_⟩
    have a1 : EvF K (tVar 0) (start ["one", "other"] [v, w]) H x := ef_var rfl rx
    have a2 : EvF K (tVar 1) (start ["one", "other"] [v, w]) H y := ef_var rfl ry
    refine q_when (et_B (ev_lt a1 a2 sx sy h0 (by omega))) (fun hb H1 e1 => ?_) fun hb H1 e1 => ?_
    · have hl : x < y := of_decide_eq_true hb
      refine s_retF (EvF.to ((ef_2 (f := (· - ·)) a2 a1 True.intro sy sx h0 hB).mono e1) ?_) fun u H2 e2 r => q u H2 (e1.trans e2) r
      show y - x = ap x y
      unfold ap
      rw [if_pos hl]
    · have hl : ¬ x < y := of_decide_eq_false hb
      refine s_retF (EvF.to ((ef_2 (f := (· - ·)) a1 a2 True.intro sx sy h0 hB).mono e1) ?_) fun u H2 e2 r => q u H2 (e1.trans e2) r
      show x - y = ap x y
      unfold ap
      rw [if_neg hl]
end
end NF

namespace NF
open PySem PySem.Spec PyProof.Rows L2 Evl
abbrev s_total : Stmt := topS 13
theorem sc_total : FnScope ["some", "start", "result", "each"] ["some", "start"] (defScope s_total) := ⟨rfl, rfl, rfl, by decide +kernel, rfl, by decide +kernel, by decide +kernel⟩
section
variable {P : Program} {w : World} {K : PySem.W.Frag} {mg : Str → Option Value} {base : Heap} {f : Addr} {fd : FuncData}
theorem ok_total {dvs : List V} {aN : Addr} (F : FunD K "total" "total" (defArgs s_total) (defBody s_total) (defScope s_total) dvs [] f fd) (m_NOUGHT : mg "NOUGHT" = some (.ref aN)) (hN : ∀ H, SqT K H aN [.int 0, .int 1])
    (C_plus : Cal P w K mg base 3 "plus" ["one", "other"] [] (sp2 K (fun _ _ => True) (· + ·))) : FnOk P w K mg base CX0 4 f fd ["some", "start"] (spTot K) := by
  refine F.ok sc_total (fun vs H Q E h => ?_) (fun cdv A outer s H vs Q E hr h => ?_)
  · obtain ⟨_, _, _, _, _, _, rfl, _⟩ := h
    rfl
  · obtain ⟨a, us, xs, w, x0, B, rfl, ha, hx, hw, s0, hs, hB, q⟩ := h
    refine ⟨_, PSs.nox ((pss_cons (ps_set (i := 2) sc_total.nd rfl (.inl rfl) (pe_ifExp (pt_cmpR op_isN (pv 1) pe_non (nomark _)) (pe_glob (v := .ref aN) (by rfl) m_NOUGHT rfl) (pv 1)))
      (pss_cons (ps_for PassesOwn.never rfl (pi_list (pv 0)) (pg_name (i := 3) sc_total.nd rfl (.inl rfl)) (pss_one (ps_set (i := 2) sc_total.nd rfl (.inl rfl) (pe_cal C_plus hr (by decide) (by rfl) (pa_cons (pv 2) (pa_cons (pv 3) pa_nil))))))
      (pss_one (ps_ret (pv 2)))))), ?_⟩
    have en : EvF K (tC (.ref aN)) (start ["some", "start", "result", "each"] [.ref a, w]) H 0 := fun H1 e Q q => q _ H1 (Ex.refl H1) ⟨aN, rfl, hN H1⟩
    have hf : EvF K (tIf (tTest (tOp (fun x y H Q => y = .non ∧ Q (.bl (decide (x = .non))) H) (tVar 1) (tC .non))) (tC (.ref aN)) (tVar 1)) (start ["some", "start", "result", "each"] [.ref a, w]) H x0 := by
      refine ef_if (b := decide (w = .non)) (et_test (ev_op (ev_var rfl) ev_c fun H1 _ _ q => ⟨rfl, q H1 (Ex.refl H1)⟩)) (fun hb => ?_) (fun hb => ?_)
      · rcases hw with ⟨_, e0⟩ | ⟨p, e, _⟩
        · subst e0
          exact en
        · rw [of_decide_eq_true hb] at e
          cases e
      · rcases hw with ⟨e, _⟩ | hw
        · exact absurd e (of_decide_eq_false hb)
        · exact ef_var rfl hw
    refine q_asgF hf fun u H1 e1 ru => ?_
    refine q_forLn (xs := us) (ev_var rfl) (ex_l e1 ha) (fun i σ' H' => ∃ v y, σ' = [some (.ref a), some w, some v, y] ∧ Ex H H' ∧ Rt K H' v (sumF x0 (xs.take i))) (fun H2 e2 => ⟨u, none, rfl, e1.trans e2, ru.mono e2⟩) ?_ ?_ ?_
    · rintro i σ' H' _ ⟨v, y, rfl, e, _⟩
      exact ex_l e ha
    · rintro i x σ' H' hi ⟨v, y, rfl, e, r⟩
      obtain ⟨z, hz, rz⟩ := (hx.mono e).get hi
      have hl : i < xs.length := (List.getElem?_eq_some_iff.mp hz).1
      have hm : z ∈ xs := List.mem_of_getElem? hz
      have hb1 : (i + 1) * (B + 1) ≤ (xs.length + 2) * (B + 1) := Nat.mul_le_mul_right _ (by omega)
      have hb2 : B + 1 ≤ (i + 1) * (B + 1) := Nat.le_mul_of_pos_left _ (by omega)
      refine s_asgF (K := K) (x := sumF x0 (xs.take i) + z) (ef_2 (f := (· + ·)) (B := (i + 1) * (B + 1)) (ef_var rfl r) (ef_var rfl rz) True.intro (sz_sum s0 hs i (by omega)) ((hs z hm).mono (by omega)) (by omega) (by omega)) fun u2 H2 e2 r2 => ?_
      refine ⟨u2, some x, rfl, e.trans e2, ?_⟩
      rw [sumF_take hz]
      exact r2
    · rintro σ' H' ⟨v, y, rfl, e, r⟩
      rw [hx.length, List.take_length] at r
      exact s_ret (ev_var rfl) fun H2 e2 => q v H2 (e.trans e2) (r.mono e2)
end
end NF

namespace NF
open PySem PySem.Spec PyProof.Rows L2 Evl
abbrev s__law_begun : Stmt := topS 15
theorem sc__law_begun : FnScope ["_law_script", "_law_k", "_law_cell", "_law_number", "_law_mixed"] ["_law_script", "_law_k"] (defScope s__law_begun) := ⟨rfl, rfl, rfl, by decide +kernel, rfl, by decide +kernel, by decide +kernel⟩
abbrev s__law_take : Stmt := topS 16
theorem sc__law_take : FnScope ["_law_state", "_law_many", "_law_digit", "_law_made", "_law_turn"] ["_law_state", "_law_many"] (defScope s__law_take) := ⟨rfl, rfl, rfl, by decide +kernel, rfl, by decide +kernel, by decide +kernel⟩
section
variable {P : Program} {w : World} {K : PySem.W.Frag} {mg : Str → Option Value} {base : Heap} {f : Addr} {fd : FuncData}
theorem cell_ok (ns : List Int) (k : Nat) : ∃ c : Int, (cutV (ns.map V.int) (some (k : Int)) (some ((k : Int) + 1)) ++ [V.int 0])[0]? = some (.int c) := by
  have h : ∀ v ∈ cutV (ns.map V.int) (some (k : Int)) (some ((k : Int) + 1)), ∃ c, v = V.int c := by
    intro v hv
    have h1 : v ∈ ns.map V.int := List.mem_of_mem_drop (List.mem_of_mem_take hv)
    obtain ⟨c, _, e⟩ := List.mem_map.mp h1
    exact ⟨c, e.symm⟩
  cases e : cutV (ns.map V.int) (some (k : Int)) (some ((k : Int) + 1)) with
  | nil => exact ⟨0, rfl⟩
  | cons v r =>
    rw [e] at h
    obtain ⟨c, hc⟩ := h v (List.mem_cons_self ..)
    exact ⟨c, by rw [hc]; rfl⟩
theorem cut_len (xs : List V) (a b : Option Int) : (cutV xs a b).length ≤ xs.length := by
  unfold cutV
  rw [List.length_take, List.length_drop]
  omega
theorem ok_begun (F : Fun K "_law_begun" "_law_begun" s__law_begun f fd) (n_max : mg "max" = none) : FnOk P w K mg base CX0 1 f fd ["_law_script", "_law_k"] (spBegun K) := by
  refine F.ok sc__law_begun (fun vs H Q E h => ?_) (fun cdv A outer s H vs Q E hr h => ?_)
  · obtain ⟨_, _, _, rfl, _⟩ := h
    rfl
  · obtain ⟨a, ns, k, rfl, ha, hl, hk, q⟩ := h
    refine ⟨_, (pss_cons (ps_set (i := 2) sc__law_begun.nd rfl (.inl rfl) (pe_ix ix_list (pe_op op_cat (pe_slice sl_list (pv 0) (po_some (pv 1)) (po_some (pe_op op_add (pv 1) pe_int))) (pe_lst (pa_cons pe_int pa_nil))) pe_int (fun _ _ => rfl)))
      (pss_cons (ps_set (i := 3) sc__law_begun.nd rfl (.inl rfl) (pe_callB (call_max2 rfl) (by rfl) n_max PyProof.Rows.boot_max (pa_cons (pv 2) (pa_cons (pe_op op_sub (pe_un un_neg pe_int) (pv 2)) pa_nil))))
      (pss_cons (ps_set (i := 4) sc__law_begun.nd rfl (.inl rfl) (pe_op op_modN (pe_op op_add (pe_op op_add (pe_op op_add (pe_op op_modN (pv 3) pe_int) (pe_op op_mul pe_int (pv 1))) (pe_op op_mul (pe_op op_mul pe_int (pv 1)) (pv 1))) pe_int) pe_int))
      (pss_one (ps_ret (pe_lst (pa_cons (pv 3) (pa_cons (pv 4) (pa_cons (pe_cmpR op_ge (pv 3) (pe_op op_pow pe_int pe_int) (nomark _)) pa_nil))))))))), ?_⟩
    obtain ⟨c, hc⟩ := cell_ok ns k
    have hlen := cut_len (ns.map V.int) (some (k : Int)) (some ((k : Int) + 1))
    rw [List.length_map] at hlen
    have e1 : Ev (tOp (rIxL K) (tOp rCat (tSl (rSlL K) (tVar 0) (tPart (tVar 1)) (tPart (tOp (rI0 fun i j => .int (i + j)) (tVar 1) (tC (.int 1))))) (tLst (tCons (tC (.int 0)) tNil))) (tC (.int 0))) (start ["_law_script", "_law_k", "_law_cell", "_law_number", "_law_mixed"] [.ref a, .int (k : Int)]) H (.int c) := by
      intro H1 x1 Q' q'
      refine el_sl (ev_var rfl) (eo_some (ev_var rfl)) (eo_some (ev_op (ev_var rfl) ev_c rv_I0)) ha H1 x1 _ fun p H2 np x2 hp => ?_
      refine el_lst (H := H2) (ea_cons ev_c ea_nil) (by show 1 ≤ 100000; decide) H2 (Ex.refl H2) _ fun r H3 nr x3 h3 => ?_
      refine ⟨p, r, _, _, rfl, rfl, x3 _ _ hp, h3, sz_of (by show (cutV (ns.map V.int) (some (k : Int)) (some ((k : Int) + 1))).length + 1 ≤ 100000; omega), fun t nt => ?_⟩
      exact ⟨t, _, 0, .int c, rfl, rfl, SqL.of upd_same, atI_nat (j := 0) hc, q' _ ((x2.trans x3).trans (Ex.new nt))⟩
    refine q_asg e1 fun H1 x1 => ?_
    refine q_asg (ev_max2 (ev_var rfl) (ev_op (ev_un ev_c ru_neg) (ev_var rfl) rv_I0)) fun H2 x2 => ?_
    refine q_asg (ev_op (ev_op (ev_op (ev_op (ev_op (ev_var rfl) ev_c (rv_I (by decide))) (ev_op ev_c (ev_var rfl) (rv_I (.inl ⟨by decide, by decide⟩))) rv_I0)
      (ev_op (ev_op ev_c (ev_var rfl) (rv_I (.inl ⟨by decide, by decide⟩))) (ev_var rfl) (rv_I (.inr ⟨by omega, by omega⟩))) rv_I0) ev_c rv_I0) ev_c (rv_I (by decide))) fun H3 x3 => ?_
    refine s_retL (el_lst (ea_cons (ev_var rfl) (ea_cons (ev_var rfl) (ea_cons (ev_op (ev_var rfl) (ev_op ev_c ev_c (rv_I ⟨by decide, by decide, by decide⟩)) rv_I0) ea_nil))) (by show 3 ≤ 100000; decide)) fun p H4 np x4 hp => ?_
    exact q p H4 (fresh_back ((x1.trans x2).trans x3) np) (((x1.trans x2).trans x3).trans x4) ⟨_, _, _, hp⟩
theorem ok_take (F : Fun K "_law_take" "_law_take" s__law_take f fd) (n_int : mg "int" = none) (n_range : mg "range" = none) : FnOk P w K mg base CX0 1 f fd ["_law_state", "_law_many"] spTake := by
  refine F.ok sc__law_take (fun vs H Q E h => ?_) (fun cdv A outer s H vs Q E hr h => ?_)
  · obtain ⟨_, _, rfl, _⟩ := h
    rfl
  · obtain ⟨st, many, rfl, ⟨n, m, c, hs⟩, h0, hm, q⟩ := h
    refine ⟨_, (pss_cons (ps_if (pt_val (pe_ix ix_list (pv 0) pe_int (fun _ _ => rfl))) (pss_cons (ps_set (i := 2) sc__law_take.nd rfl (.inl rfl) (pe_op op_modN (pe_ix ix_list (pv 0) pe_int (fun _ _ => rfl)) (pv 1)))
      (pss_cons (ps_asg (pe_op op_fdivX (pe_ix ix_list (pv 0) pe_int (fun _ _ => rfl)) (pv 1)) (pg_sub (pv 0) pe_int set_list))
      (pss_cons (ps_asg (pe_cmpR op_gt (pe_ix ix_list (pv 0) pe_int (fun _ _ => rfl)) pe_int (nomark _)) (pg_sub (pv 0) pe_int set_list))
      (pss_one (ps_ret (pv 2)))))) pss_nil)
      (pss_cons (ps_set (i := 3) sc__law_take.nd rfl (.inl rfl) pe_int)
      (pss_cons (ps_for PassesOwn.never rfl (pi_range1 (by rfl) n_range (pa_cons (pe_op op_add pe_int (pe_callTy call_int1 (by rfl) n_int PyProof.Rows.boot_int (pa_cons (pe_cmpR op_gt (pv 1) (pe_op op_pow pe_int pe_int) (nomark _)) pa_nil))) pa_nil)) (pg_name (i := 4) sc__law_take.nd rfl (.inl rfl)) (pss_cons (ps_asg (pe_op op_modN (pe_op op_add (pe_op op_mul (pe_ix ix_list (pv 0) pe_int (fun _ _ => rfl)) pe_int) pe_int) pe_int) (pg_sub (pv 0) pe_int set_list))
      (pss_one (ps_set (i := 3) sc__law_take.nd rfl (.inl rfl) (pe_op op_add (pe_op op_mul (pv 3) pe_int) (pe_op op_modN (pe_op op_mul (pe_ix ix_list (pv 0) pe_int (fun _ _ => rfl)) (pe_ix ix_list (pv 0) pe_int (fun _ _ => rfl))) pe_int))))))
      (pss_one (ps_ret (pe_op op_modN (pe_op op_fdivX (pv 3) pe_int) (pv 1))))))), ?_⟩
    have i0 : ∀ {σ : L2.St} {H : Hp} {a b c : V}, σ[0]? = some (some (.ref st)) → H st = some (.lst [a, b, c]) → Ev (tOp (rIxL K) (tVar 0) (tC (.int 0))) σ H a := fun hσ h => ev_op (ev_var hσ) ev_c (rv_ixL (SqL.of h) (atI_nat (j := 0) rfl))
    have i1 : ∀ {σ : L2.St} {H : Hp} {a b c : V}, σ[0]? = some (some (.ref st)) → H st = some (.lst [a, b, c]) → Ev (tOp (rIxL K) (tVar 0) (tC (.int 1))) σ H b := fun hσ h => ev_op (ev_var hσ) ev_c (rv_ixL (SqL.of h) (atI_nat (j := 1) rfl))
    have i2 : ∀ {σ : L2.St} {H : Hp} {a b c : V}, σ[0]? = some (some (.ref st)) → H st = some (.lst [a, b, c]) → Ev (tOp (rIxL K) (tVar 0) (tC (.int 2))) σ H c := fun hσ h => ev_op (ev_var hσ) ev_c (rv_ixL (SqL.of h) (atI_nat (j := 2) rfl))
    refine q_when (et_B (i2 rfl hs)) (fun hb H1 x1 => ?_) fun hb H1 x1 => ?_
    · refine q_asg (ev_op (i0 rfl (x1 _ _ hs)) (ev_var rfl) (rv_I (Int.ne_of_gt h0))) fun H2 x2 => ?_
      refine q_setL (j := 0) ((x1.trans x2) _ _ hs) (ev_op (i0 rfl ((x1.trans x2) _ _ hs)) (ev_var rfl) (rv_I (divX (Int.ne_of_gt h0) hm (by decide) (by decide)))) (ev_var rfl) ev_c (by show 0 < 3; decide) fun H3 x3 => ?_
      refine q_setL (j := 2) upd_same (ev_op (i0 rfl upd_same) ev_c rv_I0) (ev_var rfl) ev_c (by show 2 < 3; decide) fun H4 x4 => ?_
      have y3 : Exs st H (upd H3 st (.lst [.int (n.fdiv many), .int m, .bl c])) := (Exs.of ((x1.trans x2).trans x3)).trans Exs.upd
      exact s_ret (ev_var rfl) fun H5 x5 => q _ H5 (Int.fmod_nonneg_of_pos n h0) (Int.fmod_lt_of_pos n h0) ⟨_, _, _, x5 _ _ upd_same⟩ (((y3.trans (Exs.of x4)).trans Exs.upd).trans (Exs.of x5))
    · refine q_asg ev_c fun H2 x2 => ?_
      have en : RC (fun xs H Q => (∃ i, xs = [V.int i] ∧ Q (.int i) H) ∨ ∃ k, xs = [V.bl k] ∧ Q (.int (if k then 1 else 0)) H) [.bl (decide ((10 : Int) ^ (6 : Int).toNat < many))] H2 (.int (if decide ((10 : Int) ^ (6 : Int).toNat < many) = true then 1 else 0)) := fun H1 _ _ q => .inr ⟨_, rfl, q H1 (Ex.refl H1)⟩
      refine q_forR1 (n := 1 + (if decide ((10 : Int) ^ (6 : Int).toNat < many) = true then 1 else 0)) (ea_cons (ev_op ev_c (ev_cb (ea_cons (ev_op (ev_var rfl) (ev_op ev_c ev_c (rv_I ⟨by decide, by decide, by decide⟩)) rv_I0) ea_nil) en) rv_I0) ea_nil) (by split <;> omega)
        (fun i σ' H' => ∃ (g : Int) (y2 y4 : Option V), σ' = [some (.ref st), some (.int many), y2, some (.int g), y4] ∧ StA st H' ∧ Exs st H H') (fun H3 x3 => ⟨0, none, none, rfl, ⟨n, m, c, ((x1.trans x2).trans x3) _ _ hs⟩, Exs.of ((x1.trans x2).trans x3)⟩) ?_ ?_
      · rintro i σ' H' hi ⟨g, y2, y4, rfl, ⟨n', m', c', hs'⟩, x⟩
        have p0 : 0 ≤ (m' * 48271 + 11).fmod 2147483647 := Int.fmod_nonneg_of_pos _ (by decide)
        have p1 : (m' * 48271 + 11).fmod 2147483647 < 2147483647 := Int.fmod_lt_of_pos _ (by decide)
        refine q_setL (j := 1) hs' (ev_op (ev_op (ev_op (i1 rfl hs') ev_c (rv_I (.inr ⟨by decide, by decide⟩))) ev_c rv_I0) ev_c (rv_I (by decide))) (ev_var rfl) ev_c (by show 1 < 3; decide) fun H3 x3 => ?_
        refine s_asg (ev_op (ev_op (ev_var rfl) ev_c (rv_I (.inr ⟨by decide, by decide⟩))) (ev_op (ev_op (i1 rfl upd_same) (i1 rfl upd_same) (rv_I (.inl ⟨by omega, by omega⟩))) ev_c (rv_I (by decide))) rv_I0) fun H4 x4 => ?_
        exact ⟨_, _, _, rfl, ⟨_, _, _, x4 _ _ upd_same⟩, ((x.trans (Exs.of x3)).trans Exs.upd).trans (Exs.of x4)⟩
      · rintro σ' H' ⟨g, y2, y4, rfl, hs', x⟩
        exact s_ret (ev_op (ev_op (ev_var rfl) ev_c (rv_I (divX (b := 7) (by decide) (by decide) (by decide) (by decide)))) (ev_var rfl) (rv_I (Int.ne_of_gt h0))) fun H3 x3 => q _ H3 (Int.fmod_nonneg_of_pos _ h0) (Int.fmod_lt_of_pos _ h0) (hs'.mono x3) (x.trans (Exs.of x3))
end
end NF

namespace NF
open PySem PySem.Spec PyProof.Rows L2 Evl
abbrev s__law_low : Stmt := topS 17
theorem sc__law_low : FnScope ["_law_top", "_law_base", "_law_one_here", "_law_other"] ["_law_top", "_law_base"] (defScope s__law_low) := ⟨rfl, rfl, rfl, by decide +kernel, rfl, by decide +kernel, by decide +kernel⟩
abbrev s__law_one : Stmt := topS 18
theorem sc__law_one : FnScope ["_law_state", "_law_most", "_law_top"] ["_law_state"] (defScope s__law_one) := ⟨rfl, rfl, rfl, by decide +kernel, rfl, by decide +kernel, by decide +kernel⟩
abbrev s__law_is_nought : Stmt := topS 19
theorem sc__law_is_nought : FnScope ["_law_one_here", "_law_error", "e"] ["_law_one_here"] (defScope s__law_is_nought) := ⟨rfl, rfl, rfl, by decide +kernel, rfl, by decide +kernel, by decide +kernel⟩
section
variable {K : PySem.W.Frag} {H H1 H2 : Hp} {σ : L2.St} {ta tb te tl : TE} {x y z : Rat} {v w u : V} {B : Nat} {E : XK} {D : Ends} {tz t1 t2 : TS} {tc : TT}
theorem Exs.ex {st : Addr} (h : H st = none) (e : Exs st H H1) : Ex H H1 := fun b o hb => e b o (ne_of_none hb h) hb
theorem Exs.tupL {st a : Addr} {ys xs : List V} (e : Exs st H H1) (hs : H st = some (.lst ys)) (h : SqT K H a xs) : SqT K H1 a xs := by
  rcases h with (h | ⟨o, h⟩) | h
  · exact .inl (.inl (e _ _ (ne_of h hs (fun z => by cases z)) h))
  · exact .inl (.inr ⟨o, e _ _ (ne_of h hs (fun z => by cases z)) h⟩)
  · exact .inr h
theorem Rt.exL {st : Addr} {ys : List V} (r : Rt K H v x) (e : Exs st H H1) (hs : H st = some (.lst ys)) : Rt K H1 v x := by
  obtain ⟨p, e1, h⟩ := r
  exact ⟨p, e1, e.tupL hs h⟩
theorem RtAll.exL {st : Addr} {ys : List V} (e : Exs st H H1) (hs : H st = some (.lst ys)) : ∀ {vs : List V} {xs : List Rat}, RtAll K H vs xs → RtAll K H1 vs xs
  | _, _, .nil => .nil
  | _, _, .cons h t => .cons (h.exL e hs) (RtAll.exL e hs t)
theorem RtAll.snoc : ∀ {vs : List V} {xs : List Rat}, RtAll K H vs xs → Rt K H v x → RtAll K H (vs ++ [v]) (xs ++ [x])
  | _, _, .nil, r => .cons r .nil
  | _, _, .cons h t, r => .cons h (RtAll.snoc t r)
theorem q_raw {i : Nat} (h : te σ H fun x H1 => tz D (σ.set i (some x)) H1) : tSeq (tAsg te (gName i)) tz D σ H := h
theorem s_raw (h : te σ H D.rt) : tRet te D σ H := h
theorem op_raw {r : R2} {Q : VK} (h : ta σ H fun x H1 => tb σ H1 fun y H2 => r x y H2 Q) : tOp r ta tb σ H Q := h
theorem take_ev {i : Nat} {st : Addr} {Q : VK} (many : Int) (h1 : σ[i]? = some (some (.ref st))) (hb : Ev tb σ H (.int many)) (hs : StA st H) (h0 : 0 < many) (hm : many.natAbs < 2 ^ 8000)
    (q : ∀ d H', 0 ≤ d → d < many → StA st H' → Exs st H H' → Q (.int d) H') : tCall spTake [] E (tCons (tVar i) (tCons tb tNil)) σ H Q :=
  ⟨_, h1, hb H (Ex.refl H) _ fun H1 e => ⟨st, many, rfl, hs.mono e, h0, hm, fun d H' a b c x => q d H' a b c ((Exs.of e).trans x)⟩⟩
theorem call_raw {sp : Sp} {dvs : List V} {tA : TA} {Q : VK} (h : tA σ H fun vs H1 => sp (vs ++ dvs) H1 Q E) : tCall sp dvs E tA σ H Q := h
theorem cons_raw {tA : TA} {Q : List V → Hp → Prop} (h : ta σ H fun x H1 => tA σ H1 fun xs H2 => Q (x :: xs) H2) : tCons ta tA σ H Q := h
theorem if_raw (h : tc σ H fun b H1 => if b = true then t1 { D with nx := tz D } σ H1 else t2 { D with nx := tz D } σ H1) : tSeq (tIfS tc t1 t2) tz D σ H := h
theorem test_raw {Q : Bool → Hp → Prop} (h : te σ H fun x H' => ∃ k, x = .bl k ∧ Q k H') : tTest te σ H Q := h
def spLow (K : PySem.W.Frag) : Sp := fun vs H Q _ => ∃ (a b : Int) (B : Nat), vs = [.int a, .int b] ∧ 0 < b ∧ a.natAbs < 2 ^ B ∧ b.natAbs < 2 ^ B ∧ 0 < B ∧ B ≤ 9000 ∧ ∀ v H', Ex H H' → Rt K H' v (Rat.divInt a b) → Q v H'
theorem ef_low {a b : Int} (ha : Ev ta σ H (.int a)) (hb : Ev tb σ H (.int b)) (hn : 0 < b) (ba : a.natAbs < 2 ^ B) (bb : b.natAbs < 2 ^ B) (h0 : 0 < B) (h4 : B ≤ 9000) : EvF K (tCall (spLow K) [] E (tCons ta (tCons tb tNil))) σ H (Rat.divInt a b) := fun H1 e Q q =>
  ha H1 e _ fun H2 e2 => hb H2 (e.trans e2) _ fun H3 e3 => ⟨a, b, B, rfl, hn, ba, bb, h0, h4, fun u H' e4 ru => q u H' ((e2.trans e3).trans e4) ru⟩
def spOne (K : PySem.W.Frag) : Sp := fun vs H Q _ => ∃ st : Addr, vs = [.ref st] ∧ StA st H ∧ ∀ v x H', Sz 130 x → StA st H' → Exs st H H' → Rt K H' v x → Q v H'
def spOvX (K : PySem.W.Frag) (C : Addr) : Sp := fun vs H _ E => ∃ (v w : V) (x : Rat), vs = [v, w] ∧ Rt K H v x ∧ Rt K H w 0 ∧ ∀ H', Ex H H' → E (.ref C) none H'
def spNought (K : PySem.W.Frag) : Sp := fun vs H Q _ => ∃ (v : V) (x : Rat), vs = [v] ∧ Rt K H v x ∧ ∀ H', Ex H H' → Q (.bl true) H'
theorem ev_nought (h : EvF K ta σ H x) : Ev (tCall (spNought K) [] E (tCons ta tNil)) σ H (.bl true) := fun H1 e Q q =>
  h H1 e _ fun v H2 e2 r => ⟨v, x, rfl, r, fun H' e3 => q H' (e2.trans e3)⟩
theorem ev_isX {a C : Addr} {c : V} {cv : Value} {b : Bool} (h : Ev ta σ H (.ref a)) (hH : H a = some (ExT (.ref C) none a)) (X : ExcC K C) (hc : ∀ u, RelV c u → u = cv) (hk : PySem.W.kitOne K (.ref C) cv = some b) : Ev (tCB (rIsX K) (tCons ta (tCons (tC c) tNil))) σ H (.bl b) := fun H1 e Q q =>
  h H1 e _ fun H2 e2 => ⟨a, C, c, cv, b, rfl, (e.trans e2) _ _ hH, X, hc, hk, q H2 e2⟩
end
structure CalX (P : Program) (w : World) (K : PySem.W.Frag) (mg : Str → Option Value) (base : Heap) (k : Nat) (x : Str) (ps : List Str) (sp : Sp) : Prop where
  ex : ∃ (f : Addr) (fd : FuncData), FnOk P w K mg base (L2.CX P w) k f fd ps sp ∧ mg x = some (.ref f) ∧ PySem.W.keepIn K (.ref f) = true ∧ Binds K fd ps []
theorem pe_calS {X : Cx} {W : WX} {j k : Nat} {x : Str} {ps : List Str} {sp : Sp} {e : Expr} {es : List Expr} {t : TA} {p pos : Pos} (C : CalX X.prog X.w X.K X.mg X.base k x ps sp) (hr : Room j X.A) (hk : k ≤ j) (hg : Gl X x) (tk : Takes X W)
    (ha : PA X (e :: es) t) (hdb : (x == ("__debug__" : Str)) = false := by decide) (he : starEach (e :: es) X.env = (false, eval e X.env) :: starEach es X.env := by rfl) (hpl : (backTo pos (starEach es X.env)).any (·.1) = false := by rfl) :
    PE X (.Call (.Name x p) (e :: es) [] pos) (tCallS sp (WE W) t) := by
  obtain ⟨f, fd, F, hm, kp, b⟩ := C.ex
  exact pe_callS F (hr.mono hk) hg hm kp b (fun σ => passAt tk σ) ha hdb he hpl
section
variable {P : Program} {w : World} {K : PySem.W.Frag} {mg : Str → Option Value} {base : Heap} {f : Addr} {fd : FuncData}
theorem pick4 {d : Int} (h0 : 0 ≤ d) (h : d < 4) : ∃ mo : Int, atI [V.int 2, .int 9, .int 1000, .int ((10 : Int) ^ (39 : Int).toNat)] d = some (.int mo) ∧ 0 < mo ∧ mo ≤ 10 ^ 39 := by
  have : d = 0 ∨ d = 1 ∨ d = 2 ∨ d = 3 := by omega
  rcases this with rfl | rfl | rfl | rfl
  · exact ⟨2, rfl, by decide, by decide⟩
  · exact ⟨9, rfl, by decide, by decide⟩
  · exact ⟨1000, rfl, by decide, by decide⟩
  · exact ⟨_, rfl, by decide, by decide⟩
theorem pick3 {d : Int} (h0 : 0 ≤ d) (h : d < 3) : ∃ mo : Int, atI [V.int 1, .int 1, .int (-1)] d = some (.int mo) ∧ (mo = 1 ∨ mo = -1) := by
  have : d = 0 ∨ d = 1 ∨ d = 2 := by omega
  rcases this with rfl | rfl | rfl
  · exact ⟨1, rfl, .inl rfl⟩
  · exact ⟨1, rfl, .inl rfl⟩
  · exact ⟨-1, rfl, .inr rfl⟩
theorem bits130 {i : Int} (h : i ≤ 10 ^ 39) (h0 : -(10 ^ 39) ≤ i) : i.natAbs < 2 ^ 130 := by
  have e : (10 : Int) ^ 39 = 1000000000000000000000000000000000000000 := by decide
  have e2 : (2 : Nat) ^ 130 = 1361129467683753853853498429727072845824 := by decide
  omega
theorem ok_low (F : Fun K "_law_low" "_law_low" s__law_low f fd) (n_abs : mg "abs" = none) : FnOk P w K mg base CX0 1 f fd ["_law_top", "_law_base"] (spLow K) := by
  refine F.ok sc__law_low (fun vs H Q E h => ?_) (fun cdv A outer s H vs Q E hr h => ?_)
  · obtain ⟨_, _, _, rfl, _⟩ := h
    rfl
  · obtain ⟨a, b, B, rfl, hb0, ha, hb, hB0, hB, q⟩ := h
    refine ⟨_, (pss_cons (ps_set (i := 2) sc__law_low.nd rfl (.inl rfl) (pe_callB call_abs (by rfl) n_abs PyProof.Rows.boot_abs (pa_cons (pv 0) pa_nil)))
      (pss_cons (ps_set (i := 3) sc__law_low.nd rfl (.inl rfl) (pv 1))
      (pss_cons (ps_while PassesOwn.never (pt_cmpR op_gt (pv 3) pe_int (nomark _)) (pss_one (ps_par (i := 2) (j := 3) (by rfl) sc__law_low.nd rfl rfl (by decide) rfl rfl (pa_cons (pv 3) (pa_cons (pe_op op_modN (pv 2) (pv 3)) pa_nil)) (by rfl))))
      (pss_one (ps_ret (pe_tup (pa_cons (pe_op op_fdivX (pv 0) (pv 2)) (pa_cons (pe_op op_fdivX (pv 1) (pv 2)) pa_nil)))))))), ?_⟩
    have ea : RC (fun xs H Q => ∃ i, xs = [V.int i] ∧ Q (V.int (if i < 0 then -i else i)) H) [V.int a] H (V.int (if a < 0 then -a else a)) := fun H1 _ Q' q' => ⟨a, rfl, q' H1 (Ex.refl H1)⟩
    refine q_asg (ev_cb (ea_cons (ev_var rfl) ea_nil) ea) fun H1 e1 => ?_
    refine q_asg (ev_var rfl) fun H2 e2 => ?_
    refine q_while (fun m σ' H' => ∃ c d : Int, σ' = [some (.int a), some (.int b), some (.int c), some (.int d)] ∧ 0 ≤ c ∧ 0 ≤ d ∧ d.natAbs = m ∧ Int.gcd c d = Int.gcd a b ∧ Ex H H') b.natAbs ⟨_, b, rfl, by split <;> omega, by omega, rfl, ?_, e1.trans e2⟩ ?_
    · split
      · simp [Int.gcd]
      · rfl
    rintro m σ' H' ⟨c, d, rfl, hc0, hd0, rfl, eg, ex⟩
    refine ⟨_, et_test (ev_op (ev_var rfl) ev_c rv_I0), fun hb => ?_, fun hb => ?_⟩
    · intro H3 e3
      have hd : 0 < d := of_decide_eq_true hb
      obtain ⟨g1, g2⟩ := gcd_step (a := c) (b := d) (by omega)
      have g3 := Int.fmod_nonneg_of_pos c hd
      refine ⟨fun σ2 H2 => ∃ c' d' : Int, σ2 = [some (.int a), some (.int b), some (.int c'), some (.int d')] ∧ 0 ≤ c' ∧ 0 ≤ d' ∧ d'.natAbs < d.natAbs ∧ Int.gcd c' d' = Int.gcd a b ∧ Ex H H2, ?_, ?_⟩
      · rintro σ2 H2 ⟨c', d', e, z1, z2, l, g, x⟩
        exact ⟨_, l, c', d', e, z1, z2, rfl, g, x⟩
      · exact s_par (ea_cons (ev_var rfl) (ea_cons (ev_op (ev_var rfl) (ev_var rfl) (rv_I (by omega))) ea_nil)) fun H4 e4 => ⟨d, c.fmod d, rfl, hd0, g3, g2, by rw [g1, eg], (ex.trans e3).trans e4⟩
    · intro H3 e3
      have hd : d = 0 := by
        have := of_decide_eq_false hb
        omega
      subst hd
      have hcg : c = (Int.gcd a b : Int) := by
        rw [← eg, Int.gcd_zero_right]
        omega
      subst hcg
      have hg : 0 < Int.gcd a b := Int.gcd_pos_of_ne_zero_right _ (by omega)
      have hgb : ((Int.gcd a b : Nat) : Int).natAbs < 2 ^ B := by
        have h1 : Int.gcd a b ≤ b.natAbs := Nat.le_of_dvd (by omega) (Int.gcd_dvd_natAbs_right a b)
        omega
      have hd0' : (Int.gcd a b : Int) ≠ 0 := by omega
      refine s_retU (eu_tup (ea_cons (ev_op (ev_var rfl) (ev_var rfl) (rv_I (divX hd0' hgb hB0 hB))) (ea_cons (ev_op (ev_var rfl) (ev_var rfl) (rv_I (divX hd0' hgb hB0 hB))) ea_nil)) (by show 2 ≤ 100000; decide)) fun p H4 _ e4 hp => ?_
      exact q _ _ ((ex.trans e3).trans e4) (Rt.of hp (red_pos hb0).1 (red_pos hb0).2)
theorem ok_one (F : Fun K "_law_one" "_law_one" s__law_one f fd) (C__law_take : Cal P w K mg base 1 "_law_take" ["_law_state", "_law_many"] [] spTake) (C__law_low : Cal P w K mg base 1 "_law_low" ["_law_top", "_law_base"] [] (spLow K)) : FnOk P w K mg base CX0 2 f fd ["_law_state"] (spOne K) := by
  refine F.ok sc__law_one (fun vs H Q E h => ?_) (fun cdv A outer s H vs Q E hr h => ?_)
  · obtain ⟨_, rfl, _⟩ := h
    rfl
  · obtain ⟨st, rfl, hs, q⟩ := h
    refine ⟨_, (pss_cons (ps_set (i := 1) sc__law_one.nd rfl (.inl rfl) (pe_ix ix_list (pe_lst (pa_cons pe_int (pa_cons pe_int (pa_cons pe_int (pa_cons (pe_op op_pow pe_int pe_int) pa_nil))))) (pe_cal C__law_take hr (by decide) (by rfl) (pa_cons (pv 0) (pa_cons pe_int pa_nil))) (fun _ _ => rfl)))
      (pss_cons (ps_set (i := 2) sc__law_one.nd rfl (.inl rfl) (pe_op op_mul (pe_cal C__law_take hr (by decide) (by rfl) (pa_cons (pv 0) (pa_cons (pv 1) pa_nil))) (pe_ix ix_list (pe_lst (pa_cons pe_int (pa_cons pe_int (pa_cons (pe_un un_neg pe_int) pa_nil)))) (pe_cal C__law_take hr (by decide) (by rfl) (pa_cons (pv 0) (pa_cons pe_int pa_nil))) (fun _ _ => rfl))))
      (pss_one (ps_ret (pe_cal C__law_low hr (by decide) (by rfl) (pa_cons (pv 2) (pa_cons (pe_op op_add pe_int (pe_cal C__law_take hr (by decide) (by rfl) (pa_cons (pv 0) (pa_cons (pv 1) pa_nil)))) pa_nil))))))), ?_⟩
    obtain ⟨n, m, c, hst⟩ := id hs
    refine q_raw (op_raw ?_)
    refine el_lst (H := H) (ea_cons ev_c (ea_cons ev_c (ea_cons ev_c (ea_cons (ev_op ev_c ev_c (rv_I (i := 10) (j := 39) (C := CPow) (g := fun i j => .int (i ^ j.toNat)) ⟨by decide, by decide, by decide⟩)) ea_nil)))) (by show 4 ≤ 100000; decide) H (Ex.refl H) _ fun p H1 np x1 hp => ?_
    have nps : p ≠ st := (ne_of_none hst np).symm
    refine take_ev 4 rfl ev_c (hs.mono x1) (by decide) (by decide +kernel) fun d H2 d0 d4 hs2 x2 => ?_
    obtain ⟨mo, hmo, mo0, mo1⟩ := pick4 d0 d4
    refine ⟨p, _, d, .int mo, rfl, rfl, SqL.of (x2 _ _ nps hp), hmo, ?_⟩
    have hmb : mo.natAbs < 2 ^ 8000 := small_bits (by omega) (Int.le_trans mo1 (by decide +kernel))
    refine q_raw (op_raw ?_)
    refine take_ev mo rfl (ev_var rfl) hs2 mo0 hmb fun e H3 e0 e1 hs3 x3 => ?_
    refine op_raw ?_
    obtain ⟨n3, m3, c3, hst3⟩ := id hs3
    refine el_lst (H := H3) (ea_cons ev_c (ea_cons ev_c (ea_cons (ev_un ev_c ru_neg) ea_nil))) (by show 3 ≤ 100000; decide) H3 (Ex.refl H3) _ fun p4 H4 np4 x4 hp4 => ?_
    have nps4 : p4 ≠ st := (ne_of_none hst3 np4).symm
    refine take_ev 3 rfl ev_c (hs3.mono x4) (by decide) (by decide +kernel) fun d5 H5 d50 d51 hs5 x5 => ?_
    obtain ⟨sg, hsg, hsg1⟩ := pick3 d50 d51
    refine ⟨p4, _, d5, .int sg, rfl, rfl, SqL.of (x5 _ _ nps4 hp4), hsg, ?_⟩
    refine ⟨e, sg, rfl, rfl, .inr (by rcases hsg1 with rfl | rfl <;> exact ⟨by decide, by decide⟩), ?_⟩
    refine s_raw (call_raw (cons_raw ⟨_, rfl, ?_⟩))
    refine cons_raw (op_raw ?_)
    refine take_ev mo rfl (ev_var rfl) hs5 mo0 hmb fun g H6 g0 g1 hs6 x6 => ?_
    refine ⟨1, g, rfl, rfl, ?_⟩
    have he : (e * sg).natAbs < 2 ^ 130 := by rcases hsg1 with rfl | rfl <;> exact bits130 (by omega) (by omega)
    refine ⟨e * sg, 1 + g, 130, rfl, by omega, he, bits130 (by omega) (by omega), by decide, by decide, fun v H7 x7 r => ?_⟩
    have X1 : Exs st H H4 := ((Exs.of x1).trans x2).trans (x3.trans (Exs.of x4))
    exact q v _ H7 (sz_div he (bits130 (by omega) (by omega)) (by omega)) (hs6.mono x7) ((X1.trans x5).trans (x6.trans (Exs.of x7))) r
theorem ok_overX {C : Addr} (F : Fun K "over" "over" s_over f fd) (C_reduced : Cal P w K mg base 2 "reduced" ["top", "bottom"] [] (spRed K)) (g_NoDivisor : mg "NoDivisor" = some (.ref C)) (x_NoDivisor : PySem.W.excIn K C [.type "ZeroDivisionError", .type "ArithmeticError", .type "Exception", .type "BaseException", .type "object"] "ZeroDivisionError.__new__" = true)
    (k_NoDivisor : PySem.W.keepIn K (.ref C) = true) (b_NoDivisor : PySem.W.subIn K (.ref C) (.type "BaseException") = some true) (t_NoDivisor : PySem.W.typeIn K (.ref C) = some (.type "type")) : FnOk P w K mg base (L2.CX P w) 3 f fd ["one", "other"] (spOvX K C) := by
  refine F.okX sc_over (fun vs H Q E h => ?_) (fun cdv A outer s H vs Q E hr h => ?_)
  · obtain ⟨_, _, _, rfl, _⟩ := h
    rfl
  · obtain ⟨v, w, x, rfl, rx, ry, q⟩ := h
    refine ⟨_, (pss_cons (ps_if (pt_cmpR op_eq (pe_ix ix_tup (pv 1) pe_int (fun _ _ => rfl)) pe_int (nomark _)) (pss_one (ps_raise rfl (takes_of rfl rfl rfl rfl) (pmk_own PySem.F.excBase_ZeroDivisionError x_NoDivisor g_NoDivisor k_NoDivisor (raises_own b_NoDivisor t_NoDivisor) rfl))) pss_nil)
      (pss_one (ps_ret (pe_cal C_reduced hr (by decide) (by rfl) (pa_cons (pe_op op_mulW (pe_ix ix_tup (pv 0) pe_int (fun _ _ => rfl)) (pe_ix ix_tup (pv 1) pe_int (fun _ _ => rfl))) (pa_cons (pe_op op_mulW (pe_ix ix_tup (pv 0) pe_int (fun _ _ => rfl)) (pe_ix ix_tup (pv 1) pe_int (fun _ _ => rfl))) pa_nil)))))), ?_⟩
    have a2 : EvF K (tVar 1) (start ["one", "other"] [v, w]) H 0 := ef_var rfl ry
    refine q_when (et_test (ev_op (ev_ix0 a2) ev_c (rv_eq rfl))) (fun hb H1 e1 => ?_) fun hb => ?_
    · exact q H1 e1
    · simp at hb
theorem ok_nought {C CT : Addr} (F : Fun K "_law_is_nought" "_law_is_nought" s__law_is_nought f fd) (C_overX : CalX P w K mg base 3 "over" ["one", "other"] (spOvX K C)) (g_NoDivisor : mg "NoDivisor" = some (.ref C)) (em : PySem.W.exmOne K (.ref C) (.ref C) = some true)
    (n_isinstance : mg "isinstance" = none) (n_ZeroDivisionError : mg "ZeroDivisionError" = none) (g_TwinError : mg "TwinError" = some (.ref CT)) (EC : ExcC K C) (i1 : PySem.W.kitOne K (.ref C) (.type "ZeroDivisionError") = some true) (i2 : PySem.W.kitOne K (.ref C) (.ref CT) = some false) :
    FnOk P w K mg base CX0 4 f fd ["_law_one_here"] (spNought K) := by
  refine F.ok sc__law_is_nought (fun vs H Q E h => ?_) (fun cdv A outer s H vs Q E hr h => ?_)
  · obtain ⟨_, _, rfl, _⟩ := h
    rfl
  · obtain ⟨v, x, rfl, rx, q⟩ := h
    refine ⟨_, (pss_cons (ps_set (i := 1) sc__law_is_nought.nd rfl (.inl rfl) pe_non)
      (pss_cons (ps_try_keep (i := 2) rfl rfl rfl sc__law_is_nought.nd rfl rfl ⟨by rfl, by decide, .inl g_NoDivisor⟩ (fun W pn xe tk _ => (pss_one (ps_expr (pe_calS C_overX hr (by decide) (by rfl) tk (pa_cons (pv 0) (pa_cons (pe_tup (pa_cons pe_int (pa_cons pe_int pa_nil))) pa_nil)))))) (fun a oe pn => (pss_one (ps_set (i := 1) sc__law_is_nought.nd rfl (.inl rfl) (pv 2)))))
      (pss_one (ps_ret (pe_and (pe_callB call_isX (by rfl) n_isinstance PyProof.Rows.boot_isinstance (pa_cons (pv 1) (pa_cons (c_ty (n := "ZeroDivisionError") n_ZeroDivisionError (by rfl) (by decide +kernel) (by decide)) pa_nil))) (pe_one (pe_not (pe_callB call_isX (by rfl) n_isinstance PyProof.Rows.boot_isinstance (pa_cons (pv 1) (pa_cons (pe_glob (v := .ref CT) (by rfl) g_TwinError rfl) pa_nil)))))))))), ?_⟩
    refine q_asg ev_c fun H1 e1 => ?_
    have zz : ∀ {σ : L2.St} {H : Hp}, EvF K (tTup (tCons (tC (.int 0)) (tCons (tC (.int 1)) tNil))) σ H 0 := ef_tup (eu_tup (ea_cons ev_c (ea_cons ev_c ea_nil)) (by show 2 ≤ 100000; decide)) rfl rfl
    refine ⟨v, rfl, zz H1 (Ex.refl _) _ fun w' H2 e2 r2 => ?_⟩
    refine ⟨v, w', x, rfl, rx.mono (e1.trans e2), r2, fun H3 e3 => ⟨em, fun a na => ?_⟩⟩
    refine ⟨.ref a, rfl, ?_⟩
    have X3 : Ex H H3 := (e1.trans e2).trans e3
    refine s_ret (ev_is (w := .bl true) (ev_andV (ev_isX (c := .ty "ZeroDivisionError") (cv := .type "ZeroDivisionError") (ev_var rfl) upd_same EC (fun u h => h) i1) fun _ => ev_notV (ev_isX (c := .ref CT) (cv := .ref CT) (ev_var rfl) upd_same EC (fun u h => h) i2)) rfl) fun H4 e4 => q H4 ((X3.trans (Ex.new na)).trans e4)
end
end NF

namespace NF
open PySem PySem.Spec PyProof.Rows L2 Evl
abbrev s__law_over : Stmt := topS 20
theorem sc__law_over : FnScope ["_law_one_here", "_law_other", "_law_top", "_law_base"] ["_law_one_here", "_law_other"] (defScope s__law_over) := ⟨rfl, rfl, rfl, by decide +kernel, rfl, by decide +kernel, by decide +kernel⟩
abbrev s__law_pair_right : Stmt := topS 21
theorem sc__law_pair_right : FnScope ["_law_one_here", "_law_other", "_law_a", "_law_b", "_law_c", "_law_d", "_law_due", "_law_found"] ["_law_one_here", "_law_other"] (defScope s__law_pair_right) := ⟨rfl, rfl, rfl, by decide +kernel, rfl, by decide +kernel, by decide +kernel⟩
abbrev s__law_total_right : Stmt := topS 22
theorem sc__law_total_right : FnScope ["_law_row", "_law_first", "_law_kept", "_law_due", "_law_one_here", "_law_more"] ["_law_row", "_law_first"] (defScope s__law_total_right) := ⟨rfl, rfl, rfl, by decide +kernel, rfl, by decide +kernel, by decide +kernel⟩
theorem ap_num (x y : Rat) : (if (x - y).num < 0 then -(x - y).num else (x - y).num) = (ap x y).num ∧ (x - y).den = (ap x y).den := by
  have e : y - x = -(x - y) := by grind
  have hl : x < y ↔ (x - y).num < 0 := by
    have h1 : x < y ↔ x - y < 0 := by grind
    rw [h1, lt_rt]
    show (x - y).num * 1 < 0 * _ ↔ _
    omega
  unfold ap
  by_cases h : x < y
  · rw [if_pos h, if_pos (hl.mp h), e]
    exact ⟨rfl, rfl⟩
  · rw [if_neg h, if_neg (fun z => h (hl.mpr z))]
    exact ⟨rfl, rfl⟩
theorem div_neg (t b : Int) : Rat.divInt (0 - t) (0 - b) = Rat.divInt t b := by
  rw [Int.zero_sub, Int.zero_sub]
  exact Rat.neg_divInt_neg t b
theorem sumF_shift (f : Rat) : ∀ (x0 : Rat) (xs : List Rat), sumF (x0 + f) xs = sumF x0 xs + f
  | _, [] => rfl
  | x0, x :: xs => by
    show sumF (x0 + f + x) xs = sumF (x0 + x) xs + f
    rw [show x0 + f + x = x0 + x + f by grind]
    exact sumF_shift f (x0 + x) xs
theorem sumF_first (f : Rat) (xs : List Rat) : sumF f xs = sumF 0 xs + f := by
  rw [← sumF_shift, show (0 : Rat) + f = f by grind]
section
variable {K : PySem.W.Frag} {H H1 H2 : Hp} {σ : L2.St} {ta tb te tl : TE} {x y z : Rat} {v w u : V} {B : Nat} {E : XK} {D : Ends} {tz t1 t2 : TS} {tc : TT}
theorem q_asgR {i : Nat} {xs : List Rat} (h : EvR K te σ H xs) (k : ∀ p us H1, H p = none → Ex H H1 → H1 p = some (.lst us) → RtAll K H1 us xs → tz D (σ.set i (some (.ref p))) H1) : tSeq (tAsg te (gName i)) tz D σ H := h H (Ex.refl H) _ fun p us H1 np e hp r => k p us H1 np e hp r
theorem ef_ixL {i j : Nat} {a : Addr} {us : List V} {xs : List Rat} (hσ : σ[i]? = some (some (.ref a))) (ha : SqL K H a us) (hr : RtAll K H us xs) (hj : xs[j]? = some x) : EvF K (tOp (rIxL K) (tVar i) (tC (.int (j : Int)))) σ H x := fun H1 e Q q => by
  have hl : j < us.length := by
    rw [hr.length]
    exact (List.getElem?_eq_some_iff.mp hj).1
  obtain ⟨x', e1, r1⟩ := hr.get (List.getElem?_eq_getElem hl)
  rw [hj] at e1
  cases e1
  exact ⟨_, hσ, a, us, j, us[j], rfl, rfl, ex_l e ha, atI_nat (List.getElem?_eq_getElem hl), q _ H1 (Ex.refl H1) (r1.mono e)⟩
theorem ef_tot {us : List V} {xs : List Rat} {dvs : List V} {a : Addr} {x0 : Rat} {tA : TA} {zs : List V} (h : EvA tA σ H zs) (hz : zs ++ dvs = [.ref a, w]) (ha : SqL K H a us) (hx : RtAll K H us xs) (hw : (w = .non ∧ x0 = 0) ∨ Rt K H w x0) (s0 : Sz B x0) (hs : ∀ x ∈ xs, Sz B x) (hB : (xs.length + 2) * (B + 1) ≤ 4000) :
    EvF K (tCall (spTot K) dvs E tA) σ H (sumF x0 xs) := fun H1 e Q q =>
  h H1 e _ fun H2 e2 => ⟨a, us, xs, w, x0, B, hz, ex_l (e.trans e2) ha, hx.mono (e.trans e2), hw.imp id fun r => r.mono (e.trans e2), s0, hs, hB, fun u H' e3 r => q u H' (e2.trans e3) r⟩
theorem ef_totW {us : List V} {xs : List Rat} {a : Addr} {x0 : Rat} {tA : TA} {g : {α : Type} → List α → List α} (h : EvA tA σ H [w, .ref a]) (hg : g [w, V.ref a] = [.ref a, w]) (ha : SqL K H a us) (hx : RtAll K H us xs) (hw : Rt K H w x0) (s0 : Sz B x0) (hs : ∀ x ∈ xs, Sz B x) (hB : (xs.length + 2) * (B + 1) ≤ 4000) :
    EvF K (tCallW 2 (spTot K) g E tA) σ H (sumF x0 xs) := fun H1 e Q q =>
  h H1 e _ fun H2 e2 => ⟨rfl, a, us, xs, w, x0, B, hg, ex_l (e.trans e2) ha, hx.mono (e.trans e2), .inr (hw.mono (e.trans e2)), s0, hs, hB, fun u H' e3 r => q u H' (e2.trans e3) r⟩
def spPair (K : PySem.W.Frag) : Sp := fun vs H Q _ => ∃ (v w : V) (x y : Rat), vs = [v, w] ∧ Rt K H v x ∧ Rt K H w y ∧ Sz 130 x ∧ Sz 130 y ∧ ∀ H', Ex H H' → Q (.bl true) H'
def spTR (K : PySem.W.Frag) : Sp := fun vs H Q _ => ∃ (a : Addr) (us : List V) (xs : List Rat) (w : V) (f : Rat), vs = [.ref a, w] ∧ SqL K H a us ∧ RtAll K H us xs ∧ (∀ x ∈ xs, Sz 130 x) ∧ xs.length ≤ 6 ∧ Rt K H w f ∧ Sz 130 f ∧ ∀ H', Ex H H' → Q (.bl true) H'
theorem ev_pair (ha : EvF K ta σ H x) (hb : EvF K tb σ H y) (sx : Sz 130 x) (sy : Sz 130 y) : Ev (tCall (spPair K) [] E (tCons ta (tCons tb tNil))) σ H (.bl true) := fun H1 e Q q =>
  ha H1 e _ fun v H2 e2 r => hb H2 (e.trans e2) _ fun w H3 e3 r' => ⟨v, w, x, y, rfl, r.mono e3, r', sx, sy, fun H' e4 => q H' ((e2.trans e3).trans e4)⟩
theorem ev_TR {us : List V} {xs : List Rat} {a : Addr} {f : Rat} {tA : TA} (h : EvA tA σ H [.ref a, w]) (ha : SqL K H a us) (hx : RtAll K H us xs) (hs : ∀ x ∈ xs, Sz 130 x) (hl : xs.length ≤ 6) (hw : Rt K H w f) (sf : Sz 130 f) : Ev (tCall (spTR K) [] E tA) σ H (.bl true) := fun H1 e Q q =>
  h H1 e _ fun H2 e2 => ⟨a, us, xs, w, f, rfl, ex_l (e.trans e2) ha, hx.mono (e.trans e2), hs, hl, hw.mono (e.trans e2), sf, fun H' e3 => q H' (e2.trans e3)⟩
end
def swap2 {α : Type} : List α → List α
  | [a, b] => [b, a]
  | l => l
section
variable {P : Program} {w : World} {K : PySem.W.Frag} {mg : Str → Option Value} {base : Heap} {f : Addr} {fd : FuncData}
theorem ok_lover (F : Fun K "_law_over" "_law_over" s__law_over f fd) (C__law_low : Cal P w K mg base 1 "_law_low" ["_law_top", "_law_base"] [] (spLow K)) : FnOk P w K mg base CX0 2 f fd ["_law_one_here", "_law_other"] (sp2 K (fun _ y => y ≠ 0) (· / ·)) := by
  refine F.ok sc__law_over (fun vs H Q E h => ?_) (fun cdv A outer s H vs Q E hr h => ?_)
  · obtain ⟨_, _, _, _, _, rfl, _⟩ := h
    rfl
  · obtain ⟨v, w, x, y, B, rfl, rx, ry, hy, sx, sy, h0, hB, q⟩ := h
    refine ⟨_, (pss_cons (ps_set (i := 2) sc__law_over.nd rfl (.inl rfl) (pe_op op_mulW (pe_ix ix_tup (pv 0) pe_int (fun _ _ => rfl)) (pe_ix ix_tup (pv 1) pe_int (fun _ _ => rfl))))
      (pss_cons (ps_set (i := 3) sc__law_over.nd rfl (.inl rfl) (pe_op op_mulW (pe_ix ix_tup (pv 0) pe_int (fun _ _ => rfl)) (pe_ix ix_tup (pv 1) pe_int (fun _ _ => rfl))))
      (pss_cons (ps_if (pt_cmpR op_lt (pv 3) pe_int (nomark _)) (pss_one (ps_par (i := 2) (j := 3) (by rfl) sc__law_over.nd rfl rfl (by decide) rfl rfl (pa_cons (pe_op op_sub pe_int (pv 2)) (pa_cons (pe_op op_sub pe_int (pv 3)) pa_nil)) (by rfl))) pss_nil)
      (pss_one (ps_ret (pe_cal C__law_low hr (by decide) (by rfl) (pa_cons (pv 2) (pa_cons (pv 3) pa_nil)))))))), ?_⟩
    have nz := Int.mul_ne_zero (den0 x) (num_nz hy)
    have b1 := bits_up (bits_mul sx.num sy.den) (show B + B ≤ 2 * B by omega)
    have b2 := bits_up (bits_mul sx.den sy.num) (show B + B ≤ 2 * B by omega)
    refine q_asg (ev_op (ev_ix0 (ef_var (K := K) rfl rx)) (ev_ix1 (ef_var (K := K) rfl ry)) (rv_I (wide_mul sx.num sy.den h0 h0 (by omega)))) fun H1 e1 => ?_
    refine q_asg (ev_op (ev_ix1 (ef_var (K := K) rfl (rx.mono e1))) (ev_ix0 (ef_var (K := K) rfl (ry.mono e1))) (rv_I (wide_mul sx.den sy.num h0 h0 (by omega)))) fun H2 e2 => ?_
    refine q_when (et_test (ev_op (ev_var rfl) ev_c rv_I0)) (fun hb H3 e3 => ?_) fun hb H3 e3 => ?_
    · have hl : (x.den : Int) * y.num < 0 := of_decide_eq_true hb
      refine s_par (ea_cons (ev_op ev_c (ev_var rfl) rv_I0) (ea_cons (ev_op ev_c (ev_var rfl) rv_I0) ea_nil)) fun H4 e4 => ?_
      refine s_retF (EvF.to (ef_low (K := K) (B := 2 * B) (ev_var rfl) (ev_var rfl) (by omega) (by omega) (by omega) (by omega) (by omega)) ?_) fun u H5 e5 r => q u H5 ((((e1.trans e2).trans e3).trans e4).trans e5) r
      rw [div_neg, ← div_rt]
    · have hl : ¬ (x.den : Int) * y.num < 0 := of_decide_eq_false hb
      refine s_retF (EvF.to (ef_low (K := K) (B := 2 * B) (ev_var rfl) (ev_var rfl) (by omega) b1 b2 (by omega) (by omega)) ?_) fun u H5 e5 r => q u H5 (((e1.trans e2).trans e3).trans e5) r
      rw [← div_rt]
theorem ok_pair (F : Fun K "_law_pair_right" "_law_pair_right" s__law_pair_right f fd) (n_repr : mg "repr" = none) (n_abs : mg "abs" = none) (C__law_low : CaG P w K mg base CX0 1 "_law_low" ["_law_top", "_law_base"] [] (spLow K))
    (C_plus : CaG P w K mg base CX0 3 "plus" ["one", "other"] [] (sp2 K (fun _ _ => True) (· + ·))) (C_minus : CaG P w K mg base CX0 3 "minus" ["one", "other"] [] (sp2 K (fun _ _ => True) (· - ·)))
    (C_times : CaG P w K mg base CX0 3 "times" ["one", "other"] [] (sp2 K (fun _ _ => True) (· * ·))) (C_over : CaG P w K mg base CX0 3 "over" ["one", "other"] [] (sp2 K (fun _ y => y ≠ 0) (· / ·)))
    (C_under : CaG P w K mg base CX0 1 "under" ["one", "other"] [] (spLt K)) (C_apart : CaG P w K mg base CX0 4 "apart" ["one", "other"] [] (sp2 K (fun _ _ => True) ap)) (C__law_over : CaG P w K mg base CX0 2 "_law_over" ["_law_one_here", "_law_other"] [] (sp2 K (fun _ y => y ≠ 0) (· / ·)))
    (C__law_is_nought : CaG P w K mg base CX0 4 "_law_is_nought" ["_law_one_here"] [] (spNought K)) : FnG P w K mg base CX0 5 f fd ["_law_one_here", "_law_other"] (spPair K) := by
  refine Fun.okG F sc__law_pair_right (fun vs H Q E h => ?_) (fun cdv A outer s H vs Q E gd hr h => ?_)
  · obtain ⟨_, _, _, _, rfl, _⟩ := h
    rfl
  · obtain ⟨v, w, x, y, rfl, rx, ry, sx, sy, q⟩ := h
    refine ⟨_, (pss_cons (ps_asg (pv 0) (pg_tup rfl (pgs_cons (pg_name (i := 2) sc__law_pair_right.nd rfl (.inl rfl)) (pgs_cons (pg_name (i := 3) sc__law_pair_right.nd rfl (.inl rfl)) pgs_nil))))
      (pss_cons (ps_asg (pv 1) (pg_tup rfl (pgs_cons (pg_name (i := 4) sc__law_pair_right.nd rfl (.inl rfl)) (pgs_cons (pg_name (i := 5) sc__law_pair_right.nd rfl (.inl rfl)) pgs_nil))))
      (pss_cons (ps_set (i := 6) sc__law_pair_right.nd rfl (.inl rfl) (pe_lst (pa_cons (pe_caG C__law_low gd hr (by decide) (by rfl) (pa_cons (pe_op op_add (pe_op op_mulW (pv 2) (pv 5)) (pe_op op_mulW (pv 4) (pv 3))) (pa_cons (pe_op op_mulW (pv 3) (pv 5)) pa_nil))) (pa_cons (pe_caG C__law_low gd hr (by decide) (by rfl) (pa_cons (pe_op op_sub (pe_op op_mulW (pv 2) (pv 5)) (pe_op op_mulW (pv 4) (pv 3))) (pa_cons (pe_op op_mulW (pv 3) (pv 5)) pa_nil))) (pa_cons (pe_caG C__law_low gd hr (by decide) (by rfl) (pa_cons (pe_op op_mulW (pv 2) (pv 4)) (pa_cons (pe_op op_mulW (pv 3) (pv 5)) pa_nil))) pa_nil)))))
      (pss_cons (ps_set (i := 7) sc__law_pair_right.nd rfl (.inl rfl) (pe_lst (pa_cons (pe_caG C_plus gd hr (by decide) (by rfl) (pa_cons (pv 0) (pa_cons (pv 1) pa_nil))) (pa_cons (pe_caG C_minus gd hr (by decide) (by rfl) (pa_cons (pv 0) (pa_cons (pv 1) pa_nil))) (pa_cons (pe_caG C_times gd hr (by decide) (by rfl) (pa_cons (pv 0) (pa_cons (pv 1) pa_nil))) pa_nil)))))
      (pss_cons (ps_if (PW.pt (pw_or (pt_cmpR op_ne (pe_callB (call_rep gd hr.units) (by rfl) n_repr (by decide +kernel) (pa_cons (pv 7) pa_nil)) (pe_callB (call_rep gd hr.units) (by rfl) n_repr (by decide +kernel) (pa_cons (pv 6) pa_nil)) (nomark _)) (pw_or1 (pt_cmpR op_ne (pe_callB (call_rep gd hr.units) (by rfl) n_repr (by decide +kernel) (pa_cons (pe_caG C_apart gd hr (by decide) (by rfl) (pa_cons (pv 0) (pa_cons (pv 1) pa_nil))) pa_nil)) (pe_callB (call_rep gd hr.units) (by rfl) n_repr (by decide +kernel) (pa_cons (pe_tup (pa_cons (pe_callB call_abs (by rfl) n_abs PyProof.Rows.boot_abs (pa_cons (pe_ix ix_tup (pe_ix ix_list (pv 6) pe_int (fun _ _ => rfl)) pe_int (fun _ _ => rfl)) pa_nil)) (pa_cons (pe_ix ix_tup (pe_ix ix_list (pv 6) pe_int (fun _ _ => rfl)) pe_int (fun _ _ => rfl)) pa_nil))) pa_nil)) (nomark _))))) (pss_one (ps_ret pe_bl)) pss_nil)
      (pss_cons (ps_if (PW.pt (pw_or (pt_cmpR op_ne (pe_callB (call_rep gd hr.units) (by rfl) n_repr (by decide +kernel) (pa_cons (pe_caG C_under gd hr (by decide) (by rfl) (pa_cons (pv 0) (pa_cons (pv 1) pa_nil))) pa_nil)) (pe_callB (call_rep gd hr.units) (by rfl) n_repr (by decide +kernel) (pa_cons (pe_cmpR op_lt (pe_op op_mulW (pv 2) (pv 5)) (pe_op op_mulW (pv 4) (pv 3)) (nomark _)) pa_nil)) (nomark _)) (pw_or1 (pt_not (pt_val (pe_caG C__law_is_nought gd hr (by decide) (by rfl) (pa_cons (pv 0) pa_nil))))))) (pss_one (ps_ret pe_bl)) pss_nil)
      (pss_one (ps_ret (pe_or (pe_cmpR op_eq (pv 4) pe_int (nomark _)) (pe_one (pe_cmpR op_eq (pe_callB (call_rep gd hr.units) (by rfl) n_repr (by decide +kernel) (pa_cons (pe_caG C_over gd hr (by decide) (by rfl) (pa_cons (pv 0) (pa_cons (pv 1) pa_nil))) pa_nil)) (pe_callB (call_rep gd hr.units) (by rfl) n_repr (by decide +kernel) (pa_cons (pe_caG C__law_over gd hr (by decide) (by rfl) (pa_cons (pv 0) (pa_cons (pv 1) pa_nil))) pa_nil)) (nomark _)))))))))))), ?_⟩
    obtain ⟨p1, e1, h1⟩ := id rx
    obtain ⟨p2, e2, h2⟩ := id ry
    refine ⟨v, rfl, p1, _, e1, h1, rfl, _, _, rfl, _, _, rfl, rfl, ?_⟩
    refine ⟨w, rfl, p2, _, e2, h2, rfl, _, _, rfl, _, _, rfl, rfl, ?_⟩
    have h0 : 0 < 130 := by decide
    have ab : ∀ {H' : Hp}, RV (rI CMulW fun i j => V.int (i * j)) (.int x.num) (.int y.den) H' (.int (x.num * y.den)) := rv_I (wide_mul sx.num sy.den h0 h0 (by decide))
    have cb : ∀ {H' : Hp}, RV (rI CMulW fun i j => V.int (i * j)) (.int y.num) (.int x.den) H' (.int (y.num * x.den)) := rv_I (wide_mul sy.num sx.den h0 h0 (by decide))
    have bd : ∀ {H' : Hp}, RV (rI CMulW fun i j => V.int (i * j)) (.int x.den) (.int y.den) H' (.int (x.den * y.den)) := rv_I (wide_mul sx.den sy.den h0 h0 (by decide))
    have ac : ∀ {H' : Hp}, RV (rI CMulW fun i j => V.int (i * j)) (.int x.num) (.int y.num) H' (.int (x.num * y.num)) := rv_I (wide_mul sx.num sy.num h0 h0 (by decide))
    have pd : (0 : Int) < x.den * y.den := Int.mul_pos (denp x) (denp y)
    have bb : ((x.den : Int) * y.den).natAbs < 2 ^ 261 := bits_up (bits_mul sx.den sy.den) (by decide)
    have sa : Sz 261 (x + y) := sx.add sy
    have sm : Sz 261 (x - y) := sx.sub sy
    have st : Sz 261 (x * y) := sx.mul sy
    have sp : Sz 261 (ap x y) := sx.ap sy
    have all3 : ∀ z ∈ [x + y, x - y, x * y], Sz 261 z := by
      intro z hz
      simp at hz
      rcases hz with rfl | rfl | rfl <;> assumption
    have fin3 : Fine (.list ([x + y, x - y, x * y].map NF.fd)) := fine_rts all3 (by decide) (by decide) (by show 3 * (2 * 261 + 3) ≤ 4000; decide)
    refine q_asgR (K := K) (xs := [x + y, x - y, x * y]) (er_lst (efs_cons (EvF.to (ef_low (B := 261) (ev_op (ev_op (ev_var rfl) (ev_var rfl) ab) (ev_op (ev_var rfl) (ev_var rfl) cb) rv_I0) (ev_op (ev_var rfl) (ev_var rfl) bd) pd (bits_up (bits_add (bits_mul sx.num sy.den) (bits_mul sy.num sx.den)) (by decide)) bb (by decide) (by decide)) (add_rt x y).symm)
      (efs_cons (EvF.to (ef_low (B := 261) (ev_op (ev_op (ev_var rfl) (ev_var rfl) ab) (ev_op (ev_var rfl) (ev_var rfl) cb) rv_I0) (ev_op (ev_var rfl) (ev_var rfl) bd) pd (bits_up (bits_sub (bits_mul sx.num sy.den) (bits_mul sy.num sx.den)) (by decide)) bb (by decide) (by decide)) (sub_rt x y).symm)
      (efs_cons (EvF.to (ef_low (B := 261) (ev_op (ev_var rfl) (ev_var rfl) ac) (ev_op (ev_var rfl) (ev_var rfl) bd) pd (bits_up (bits_mul sx.num sy.num) (by decide)) bb (by decide) (by decide)) (mul_rt x y).symm) efs_nil))) (by show 3 ≤ 100000; decide)) fun dp du H1 _ e1 hdp rdu => ?_
    have vx : ∀ {y6 y7 H'}, Ex H H' → EvF K (tVar 0) [some v, some w, some (.int x.num), some (.int x.den), some (.int y.num), some (.int y.den), y6, y7] H' x := fun e => ef_var rfl (rx.mono e)
    have vy : ∀ {y6 y7 H'}, Ex H H' → EvF K (tVar 1) [some v, some w, some (.int x.num), some (.int x.den), some (.int y.num), some (.int y.den), y6, y7] H' y := fun e => ef_var rfl (ry.mono e)
    refine q_asgR (K := K) (xs := [x + y, x - y, x * y]) (er_lst (efs_cons (ef_2 (f := (· + ·)) (vx e1) (vy e1) True.intro sx sy h0 (by decide)) (efs_cons (ef_2 (f := (· - ·)) (vx e1) (vy e1) True.intro sx sy h0 (by decide)) (efs_cons (ef_2 (f := (· * ·)) (vx e1) (vy e1) True.intro sx sy h0 (by decide)) efs_nil))) (by show 3 ≤ 100000; decide)) fun fp fu H2 _ e2 hfp rfu => ?_
    have E2 := e1.trans e2
    have dd : ∀ {H'}, Ex H2 H' → EvF K (tOp (rIxL K) (tVar 6) (tC (.int 1))) [some v, some w, some (.int x.num), some (.int x.den), some (.int y.num), some (.int y.den), some (.ref dp), some (.ref fp)] H' (x - y) := fun e => ef_ixL (j := 1) rfl (SqL.of (e _ _ (e2 _ _ hdp))) ((rdu.mono e2).mono e) rfl
    have eab : ∀ {H'}, RC (fun xs H Q => ∃ i, xs = [V.int i] ∧ Q (V.int (if i < 0 then -i else i)) H) [V.int (x - y).num] H' (V.int (if (x - y).num < 0 then -(x - y).num else (x - y).num)) := fun H1 _ Q' q' => ⟨_, rfl, q' H1 (Ex.refl H1)⟩
    refine q_when (b := false) (et_is (et_or (et_test (ev_op (ev_repL (ev_var rfl) (SqL.of hfp) rfu fin3) (ev_repL (ev_var rfl) (SqL.of (e2 _ _ hdp)) (rdu.mono e2) fin3) (rv_ne rfl))) fun _ => et_test (ev_op (ev_repF (ef_2 (f := ap) (vx E2) (vy E2) True.intro sx sy h0 (by decide)) sp (by decide) (by decide)) (ev_repF (ef_tup (x := ap x y) (eu_tup (ea_cons (ev_cb (ea_cons (ev_ix0 (dd (Ex.refl _))) ea_nil) eab) (ea_cons (ev_ix1 (dd (Ex.refl _))) ea_nil)) (by show 2 ≤ 100000; decide)) (ap_num x y).1 (by rw [(ap_num x y).2])) sp (by decide) (by decide)) (rv_ne rfl))) ?_) (fun hb => by cases hb) fun _ H3 e3 => ?_
    · simp
    have E3 := E2.trans e3
    refine q_when (b := false) (et_is (et_or (et_test (ev_op (ev_repB (ev_lt (vx E3) (vy E3) sx sy h0 (by decide))) (ev_repB (ev_op (ev_op (ev_var rfl) (ev_var rfl) ab) (ev_op (ev_var rfl) (ev_var rfl) cb) rv_I0)) (rv_ne rfl))) fun _ => et_not (et_B (ev_nought (vx E3)))) ?_) (fun hb => by cases hb) fun _ H4 e4 => ?_
    · have : decide (x < y) = decide (x.num * y.den < y.num * x.den) := decide_eq_decide.mpr (lt_rt x y)
      rw [this]
      simp
    have E4 := E3.trans e4
    by_cases hy : y = 0
    · refine s_ret (ev_is (w := .bl true) (ev_orV (b := false) (ev_op (ev_var rfl) ev_c (rv_eq rfl)) fun hf => ?_) ?_) fun H5 e5 => q H5 (E4.trans e5)
      · subst hy
        simp at hf
      · subst hy
        rfl
    · refine s_ret (ev_is (w := .bl true) (ev_orV (ev_op (ev_var rfl) ev_c (rv_eq rfl)) fun _ => ev_op (ev_repF (B := 261) (ef_2 (f := (· / ·)) (C := fun _ y => y ≠ 0) (vx E4) (vy E4) hy sx sy h0 (by decide)) (sx.div sy hy) (by decide) (by decide)) (ev_repF (B := 261) (ef_2 (f := (· / ·)) (C := fun _ y => y ≠ 0) (vx E4) (vy E4) hy sx sy h0 (by decide)) (sx.div sy hy) (by decide) (by decide)) (rv_eq rfl)) ?_) fun H5 e5 => q H5 (E4.trans e5)
      simp
theorem ok_TR (F : Fun K "_law_total_right" "_law_total_right" s__law_total_right f fd) (n_repr : mg "repr" = none) (C__law_low : CaG P w K mg base CX0 1 "_law_low" ["_law_top", "_law_base"] [] (spLow K)) (C_total1 : CaG P w K mg base CX0 4 "total" ["some", "start"] [.non] (spTot K)) (C_total2 : CaG P w K mg base CX0 4 "total" ["some", "start"] [] (spTot K))
    (C_total_start_some : CaK P w K mg base 4 "total" ["some", "start"] ["start", "some"] swap2 (spTot K)) : FnG P w K mg base CX0 5 f fd ["_law_row", "_law_first"] (spTR K) := by
  refine Fun.okG F sc__law_total_right (fun vs H Q E h => ?_) (fun cdv A outer s H vs Q E gd hr h => ?_)
  · obtain ⟨_, _, _, _, _, rfl, _⟩ := h
    rfl
  · obtain ⟨a, us, xs, w, fr, rfl, ha, hx, hs, hl, hw, sf, q⟩ := h
    refine ⟨_, (pss_cons (ps_set (i := 2) sc__law_total_right.nd rfl (.inl rfl) (pe_callB (call_rep gd hr.units) (by rfl) n_repr (by decide +kernel) (pa_cons (pv 0) pa_nil)))
      (pss_cons (ps_set (i := 3) sc__law_total_right.nd rfl (.inl rfl) (pe_tup (pa_cons pe_int (pa_cons pe_int pa_nil))))
      (pss_cons (ps_for PassesOwn.never rfl (pi_list (pv 0)) (pg_name (i := 4) sc__law_total_right.nd rfl (.inl rfl)) (pss_one (ps_set (i := 3) sc__law_total_right.nd rfl (.inl rfl) (pe_caG C__law_low gd hr (by decide) (by rfl) (pa_cons (pe_op op_add (pe_op op_mulW (pe_ix ix_tup (pv 3) pe_int (fun _ _ => rfl)) (pe_ix ix_tup (pv 4) pe_int (fun _ _ => rfl))) (pe_op op_mulW (pe_ix ix_tup (pv 4) pe_int (fun _ _ => rfl)) (pe_ix ix_tup (pv 3) pe_int (fun _ _ => rfl)))) (pa_cons (pe_op op_mulW (pe_ix ix_tup (pv 3) pe_int (fun _ _ => rfl)) (pe_ix ix_tup (pv 4) pe_int (fun _ _ => rfl))) pa_nil))))))
      (pss_cons (ps_if (PW.pt (pw_or (pt_cmpR op_ne (pe_callB (call_rep gd hr.units) (by rfl) n_repr (by decide +kernel) (pa_cons (pe_caG C_total1 gd hr (by decide) (by rfl) (pa_cons (pv 0) pa_nil)) pa_nil)) (pe_callB (call_rep gd hr.units) (by rfl) n_repr (by decide +kernel) (pa_cons (pv 3) pa_nil)) (nomark _)) (pw_or1 (pt_cmpR op_ne (pe_callB (call_rep gd hr.units) (by rfl) n_repr (by decide +kernel) (pa_cons (pe_caG C_total2 gd hr (by decide) (by rfl) (pa_cons (pv 0) (pa_cons pe_non pa_nil))) pa_nil)) (pe_callB (call_rep gd hr.units) (by rfl) n_repr (by decide +kernel) (pa_cons (pv 3) pa_nil)) (nomark _))))) (pss_one (ps_ret pe_bl)) pss_nil)
      (pss_cons (ps_set (i := 5) sc__law_total_right.nd rfl (.inl rfl) (pe_caG C__law_low gd hr (by decide) (by rfl) (pa_cons (pe_op op_add (pe_op op_mulW (pe_ix ix_tup (pv 3) pe_int (fun _ _ => rfl)) (pe_ix ix_tup (pv 1) pe_int (fun _ _ => rfl))) (pe_op op_mulW (pe_ix ix_tup (pv 1) pe_int (fun _ _ => rfl)) (pe_ix ix_tup (pv 3) pe_int (fun _ _ => rfl)))) (pa_cons (pe_op op_mulW (pe_ix ix_tup (pv 3) pe_int (fun _ _ => rfl)) (pe_ix ix_tup (pv 1) pe_int (fun _ _ => rfl))) pa_nil))))
      (pss_cons (ps_if (PW.pt (pw_or (pt_cmpR op_ne (pe_callB (call_rep gd hr.units) (by rfl) n_repr (by decide +kernel) (pa_cons (pe_caG C_total2 gd hr (by decide) (by rfl) (pa_cons (pv 0) (pa_cons (pv 1) pa_nil))) pa_nil)) (pe_callB (call_rep gd hr.units) (by rfl) n_repr (by decide +kernel) (pa_cons (pv 5) pa_nil)) (nomark _)) (pw_or1 (pt_cmpR op_ne (pe_callB (call_rep gd hr.units) (by rfl) n_repr (by decide +kernel) (pa_cons (pe_caK C_total_start_some gd hr (by decide) (by rfl) (pk_cons (pv 1) (pk_cons (pv 0) pk_nil))) pa_nil)) (pe_callB (call_rep gd hr.units) (by rfl) n_repr (by decide +kernel) (pa_cons (pv 5) pa_nil)) (nomark _))))) (pss_one (ps_ret pe_bl)) pss_nil)
      (pss_one (ps_ret (pe_cmpR op_eq (pe_callB (call_rep gd hr.units) (by rfl) n_repr (by decide +kernel) (pa_cons (pv 0) pa_nil)) (pv 2) (nomark _)))))))))), ?_⟩
    have fin : Fine (.list (xs.map NF.fd)) := fine_rts hs (by decide) (by decide) (by
      have : xs.length * (2 * 130 + 3) ≤ 6 * (2 * 130 + 3) := Nat.mul_le_mul_right _ hl
      omega)
    have s0 : Sz 130 0 := ⟨by decide, by decide⟩
    have hB : (xs.length + 2) * (130 + 1) ≤ 4000 := by
      have : (xs.length + 2) * (130 + 1) ≤ 8 * (130 + 1) := Nat.mul_le_mul_right _ (by omega)
      omega
    have ssum : ∀ i, i ≤ xs.length → Sz 917 (sumF 0 (xs.take i)) := fun i hi => (sz_sum s0 hs i hi).mono (by
      have : (i + 1) * (130 + 1) ≤ 7 * (130 + 1) := Nat.mul_le_mul_right _ (by omega)
      omega)
    have sall : Sz 917 (sumF 0 xs) := by
      have := ssum xs.length (Nat.le_refl _)
      rw [List.take_length] at this
      exact this
    refine q_asg (ev_repL (ev_var rfl) ha hx fin) fun H1 e1 => ?_
    have zz : ∀ {σ : L2.St} {H : Hp}, EvF K (tTup (tCons (tC (.int 0)) (tCons (tC (.int 1)) tNil))) σ H 0 := ef_tup (eu_tup (ea_cons ev_c (ea_cons ev_c ea_nil)) (by show 2 ≤ 100000; decide)) rfl rfl
    refine q_asgF (K := K) zz fun u0 H2 e2 r0 => ?_
    refine q_forLn (xs := us) (ev_var rfl) (ex_l (e1.trans e2) ha) (fun i σ' H' => ∃ v y4 y5, σ' = [some (.ref a), some w, some (.str (PyData.list (xs.map NF.fd)).shown), some v, y4, y5] ∧ Ex H H' ∧ Rt K H' v (sumF 0 (xs.take i))) (fun H3 e3 => ⟨u0, none, none, rfl, (e1.trans e2).trans e3, r0.mono e3⟩) ?_ ?_ ?_
    · rintro i σ' H' _ ⟨v, y4, y5, rfl, e, _⟩
      exact ex_l e ha
    · rintro i vi σ' H' hi ⟨v, y4, y5, rfl, e, r⟩
      obtain ⟨z, hz, rz⟩ := (hx.mono e).get hi
      have hlt : i < xs.length := (List.getElem?_eq_some_iff.mp hz).1
      have sz := (hs z (List.mem_of_getElem? hz)).mono (show 130 ≤ 917 by decide)
      have sd := ssum i (by omega)
      have fd1 : EvF K (tVar 3) [some (.ref a), some w, some (.str (PyData.list (xs.map NF.fd)).shown), some v, some vi, y5] H' (sumF 0 (xs.take i)) := ef_var rfl r
      have fd2 : EvF K (tVar 4) [some (.ref a), some w, some (.str (PyData.list (xs.map NF.fd)).shown), some v, some vi, y5] H' z := ef_var rfl rz
      have h9 : 0 < 917 := by decide
      refine s_asgF (K := K) (x := sumF 0 (xs.take i) + z) (EvF.to (ef_low (B := 2000) (ev_op (ev_op (ev_ix0 fd1) (ev_ix1 fd2) (rv_I (wide_mul sd.num sz.den h9 h9 (by decide)))) (ev_op (ev_ix0 fd2) (ev_ix1 fd1) (rv_I (wide_mul sz.num sd.den h9 h9 (by decide)))) rv_I0) (ev_op (ev_ix1 fd1) (ev_ix1 fd2) (rv_I (wide_mul sd.den sz.den h9 h9 (by decide))))
        (Int.mul_pos (denp _) (denp _)) (bits_up (bits_add (bits_mul sd.num sz.den) (bits_mul sz.num sd.den)) (by decide)) (bits_up (bits_mul sd.den sz.den) (by decide)) (by decide) (by decide)) (add_rt _ _).symm) fun u2 H3 e3 r3 => ?_
      refine ⟨u2, some vi, y5, rfl, e.trans e3, ?_⟩
      rw [sumF_take hz]
      exact r3
    · rintro σ' H3 ⟨v, y4, y5, rfl, e3, r⟩
      rw [hx.length, List.take_length] at r
      have due : ∀ {y4 y5 H'}, Ex H3 H' → EvF K (tVar 3) [some (.ref a), some w, some (.str (PyData.list (xs.map NF.fd)).shown), some v, y4, y5] H' (sumF 0 xs) := fun e => ef_var rfl (r.mono e)
      refine q_when (b := false) (et_is (et_or (et_test (ev_op (ev_repF (B := 917) (ef_tot (K := K) (dvs := [.non]) (x0 := 0) (ea_cons (ev_var rfl) ea_nil) rfl (ex_l e3 ha) (hx.mono e3) (.inl ⟨rfl, rfl⟩) s0 hs hB) sall (by decide) (by decide)) (ev_repF (due (Ex.refl _)) sall (by decide) (by decide)) (rv_ne rfl))) fun _ => et_test (ev_op (ev_repF (B := 917) (ef_tot (K := K) (dvs := []) (x0 := 0) (ea_cons (ev_var rfl) (ea_cons ev_c ea_nil)) rfl (ex_l e3 ha) (hx.mono e3) (.inl ⟨rfl, rfl⟩) s0 hs hB) sall (by decide) (by decide)) (ev_repF (due (Ex.refl _)) sall (by decide) (by decide)) (rv_ne rfl))) ?_) (fun hb => by cases hb) fun _ H4 e4 => ?_
      · simp
      have E4 := e3.trans e4
      have sf9 := sf.mono (show 130 ≤ 917 by decide)
      have h9 : 0 < 917 := by decide
      have ff : EvF K (tVar 1) [some (.ref a), some w, some (.str (PyData.list (xs.map NF.fd)).shown), some v, y4, y5] H4 fr := ef_var rfl (hw.mono E4)
      have smore : Sz 1835 (sumF 0 xs + fr) := sall.add sf9
      refine q_asgF (K := K) (x := sumF 0 xs + fr) (EvF.to (ef_low (B := 2000) (ev_op (ev_op (ev_ix0 (due e4)) (ev_ix1 ff) (rv_I (wide_mul sall.num sf9.den h9 h9 (by decide)))) (ev_op (ev_ix0 ff) (ev_ix1 (due e4)) (rv_I (wide_mul sf9.num sall.den h9 h9 (by decide)))) rv_I0) (ev_op (ev_ix1 (due e4)) (ev_ix1 ff) (rv_I (wide_mul sall.den sf9.den h9 h9 (by decide))))
        (Int.mul_pos (denp _) (denp _)) (bits_up (bits_add (bits_mul sall.num sf9.den) (bits_mul sf9.num sall.den)) (by decide)) (bits_up (bits_mul sall.den sf9.den) (by decide)) (by decide) (by decide)) (add_rt _ _).symm) fun um H5 e5 rm => ?_
      have E5 := E4.trans e5
      have hfs := sumF_first fr xs
      have sst : Sz 1835 (sumF fr xs) := by
        rw [hfs]
        exact smore
      have more : ∀ {H'}, Ex H5 H' → EvF K (tVar 5) [some (.ref a), some w, some (.str (PyData.list (xs.map NF.fd)).shown), some v, y4, some um] H' (sumF 0 xs + fr) := fun e => ef_var rfl (rm.mono e)
      refine q_when (b := false) (et_is (et_or (et_test (ev_op (ev_repF (B := 1835) (ef_tot (K := K) (dvs := []) (x0 := fr) (ea_cons (ev_var rfl) (ea_cons (ev_var rfl) ea_nil)) rfl (ex_l E5 ha) (hx.mono E5) (.inr (hw.mono E5)) sf hs hB) sst (by decide) (by decide)) (ev_repF (more (Ex.refl _)) smore (by decide) (by decide)) (rv_ne rfl))) fun _ => et_test (ev_op (ev_repF (B := 1835) (ef_totW (K := K) (x0 := fr) (g := swap2) (ea_cons (ev_var rfl) (ea_cons (ev_var rfl) ea_nil)) rfl (ex_l E5 ha) (hx.mono E5) (hw.mono E5) sf hs hB) sst (by decide) (by decide)) (ev_repF (more (Ex.refl _)) smore (by decide) (by decide)) (rv_ne rfl))) ?_) (fun hb => by cases hb) fun _ H6 e6 => ?_
      · rw [hfs]
        simp
      have E6 := E5.trans e6
      refine s_ret (ev_is (w := .bl true) (ev_op (ev_repL (ev_var rfl) (ex_l E6 ha) (hx.mono E6) fin) (ev_var rfl) (rv_eq rfl)) ?_) fun H7 e7 => q H7 (E6.trans e7)
      simp
end
end NF

namespace NF
open PySem PySem.Spec PyProof.Rows L2 Evl
abbrev s_law : Stmt := topS 23
theorem sc_law : FnScope ["_law_script", "_law_k", "_law_state", "_law_one_here", "_law_other", "_law_row", "_law_turn"] ["_law_script"] (defScope s_law) := ⟨rfl, rfl, rfl, by decide +kernel, rfl, by decide +kernel, by decide +kernel⟩
section
variable {K : PySem.W.Frag} {H H1 H2 : Hp} {σ : L2.St} {ta tb te tl : TE} {x y z : Rat} {v w u : V} {B : Nat} {E : XK} {D : Ends} {tz t1 t2 : TS} {tc : TT}
theorem begun_ev {i j : Nat} {a : Addr} {ns : List Int} {k : Nat} {Q : VK} (h1 : σ[i]? = some (some (.ref a))) (h2 : σ[j]? = some (some (.int (k : Int)))) (ha : SqL K H a (ns.map V.int)) (hl : ns.length ≤ 1000) (hk : k ≤ 1000) (q : ∀ st H', H st = none → Ex H H' → StA st H' → Q (.ref st) H') :
    tCall (spBegun K) [] E (tCons (tVar i) (tCons (tVar j) tNil)) σ H Q := ⟨_, h1, _, h2, a, ns, k, rfl, ha, hl, hk, q⟩
theorem one_ev {i : Nat} {st : Addr} {Q : VK} (h1 : σ[i]? = some (some (.ref st))) (hs : StA st H) (q : ∀ v x H', Sz 130 x → StA st H' → Exs st H H' → Rt K H' v x → Q v H') : tCall (spOne K) [] E (tCons (tVar i) tNil) σ H Q := ⟨_, h1, st, rfl, hs, q⟩
theorem if_asg {i j : Nat} {c : Bool} (hv : σ[j]? = some (some v)) (k : ∀ σ', σ' = σ.set i (some v) ∨ σ' = σ → tz D σ' H) : if c = true then tAsg (tVar j) (gName i) { D with nx := tz D } σ H else tNext { D with nx := tz D } σ H := by
  cases c with
  | true => exact ⟨v, hv, k _ (.inl rfl)⟩
  | false => exact k _ (.inr rfl)
theorem ev_min2 {i j : Int} (ha : Ev ta σ H (.int i)) (hb : Ev tb σ H (.int j)) : Ev (tCB (fun xs H Q => ∃ i j, xs = [V.int i, V.int j] ∧ Q (.int (if j < i then j else i)) H) (tCons ta (tCons tb tNil))) σ H (.int (if j < i then j else i)) := fun H1 e Q q =>
  ha H1 e _ fun H2 e2 => hb H2 (e.trans e2) _ fun H3 e3 => ⟨i, j, rfl, q H3 (e2.trans e3)⟩
end
section
variable {P : Program} {w : World} {K : PySem.W.Frag} {mg : Str → Option Value} {base : Heap} {f : Addr} {fd : FuncData}
def spLaw (K : PySem.W.Frag) : Sp := fun vs H Q _ => ∃ (a : Addr) (ns : List Int), vs = [.ref a] ∧ SqL K H a (ns.map V.int) ∧ ns.length ≤ 63 ∧ ∀ H', Q (.bl true) H'
theorem ok_law (F : Fun K "law" "law" s_law f fd) (n_range : mg "range" = none) (n_max : mg "max" = none) (n_min : mg "min" = none) (n_len : mg "len" = none)
    (C__law_begun : CaG P w K mg base CX0 1 "_law_begun" ["_law_script", "_law_k"] [] (spBegun K)) (C__law_take : CaG P w K mg base CX0 1 "_law_take" ["_law_state", "_law_many"] [] spTake) (C__law_one : CaG P w K mg base CX0 2 "_law_one" ["_law_state"] [] (spOne K))
    (C__law_pair_right : CaG P w K mg base CX0 5 "_law_pair_right" ["_law_one_here", "_law_other"] [] (spPair K)) (C__law_total_right : CaG P w K mg base CX0 5 "_law_total_right" ["_law_row", "_law_first"] [] (spTR K)) : FnG P w K mg base CX0 6 f fd ["_law_script"] (spLaw K) := by
  refine Fun.okG F sc_law (fun vs H Q E h => ?_) (fun cdv A outer s H vs Q E gd hr h => ?_)
  · obtain ⟨a, ns, rfl, _⟩ := h
    rfl
  · obtain ⟨a, ns, rfl, ha, hlen, q⟩ := h
    refine ⟨_, (pss_cons (ps_for PassesOwn.never rfl (pi_range1 (by rfl) n_range (pa_cons (pe_callB (call_max2 rfl) (by rfl) n_max PyProof.Rows.boot_max (pa_cons pe_int (pa_cons (pe_callB (call_min2 rfl) (by rfl) n_min PyProof.Rows.boot_min (pa_cons pe_int (pa_cons (pe_callB call_len_seq (by rfl) n_len PySem.boot_len (pa_cons (pv 0) pa_nil)) pa_nil))) pa_nil))) pa_nil)) (pg_name (i := 1) sc_law.nd rfl (.inl rfl)) (pss_cons (ps_set (i := 2) sc_law.nd rfl (.inr rfl) (pe_caG C__law_begun gd hr (by decide) (by rfl) (pa_cons (pv 0) (pa_cons (pv 1) pa_nil))))
      (pss_cons (ps_set (i := 3) sc_law.nd rfl (.inl rfl) (pe_caG C__law_one gd hr (by decide) (by rfl) (pa_cons (pv 2) pa_nil)))
      (pss_cons (ps_set (i := 4) sc_law.nd rfl (.inl rfl) (pe_caG C__law_one gd hr (by decide) (by rfl) (pa_cons (pv 2) pa_nil)))
      (pss_cons (ps_if (pt_cmpR op_eq (pe_caG C__law_take gd hr (by decide) (by rfl) (pa_cons (pv 2) (pa_cons pe_int pa_nil))) pe_int (nomark _)) (pss_one (ps_set (i := 4) sc_law.nd rfl (.inl rfl) (pv 3))) pss_nil)
      (pss_cons (ps_if (PW.pt (pw_or (pt_not (pt_val (pe_caG C__law_pair_right gd hr (by decide) (by rfl) (pa_cons (pv 3) (pa_cons (pv 4) pa_nil))))) (pw_or1 (pt_not (pt_val (pe_caG C__law_pair_right gd hr (by decide) (by rfl) (pa_cons (pv 4) (pa_cons (pv 3) pa_nil)))))))) (pss_one (ps_ret pe_bl)) pss_nil)
      (pss_cons (ps_setLc (i := 5) (own := [("_law_turn", 6)]) (by rfl) sc_law.nd rfl rfl (sw_true rfl rfl rfl (by decide +kernel)) (pi_range1 (by rfl) n_range (pa_cons (pe_caG C__law_take gd hr (by decide) (by rfl) (pa_cons (pv 2) (pa_cons pe_int pa_nil))) pa_nil)) (blkOk_by (own := [("_law_turn", 6)]) (N := ["_law_script", "_law_k", "_law_state", "_law_one_here", "_law_other", "_law_row", "_law_turn"]) (sc := defScope s_law) (by decide +kernel)) (fun _ _ _ _ _ => (pg_name (i := 6) sc_law.nd rfl (.inl rfl))) (fun _ _ _ _ _ => pts_nil) (fun _ _ _ _ _ => (pe_caG C__law_one gd hr (by decide) (by rfl) (pa_cons (pv 2) pa_nil))))
      (pss_one (ps_if (pt_not (pt_val (pe_caG C__law_total_right gd hr (by decide) (by rfl) (pa_cons (pv 5) (pa_cons (pv 3) pa_nil))))) (pss_one (ps_ret pe_bl)) pss_nil)))))))))
      (pss_one (ps_ret pe_bl))), ?_⟩
    refine q_forR1 (ea_cons (ev_max2 ev_c (ev_min2 ev_c (ev_len (ev_var rfl) ha))) ea_nil) (by rw [List.length_map]; split <;> (try split) <;> omega)
      (fun i σ' H' => ∃ y1 y2 y3 y4 y5 y6, σ' = [some (.ref a), y1, y2, y3, y4, y5, y6] ∧ Ex H H') (fun H1 e1 => ⟨none, none, none, none, none, none, rfl, e1⟩) ?_ ?_
    · rintro i σ' H0 hi ⟨y1, y2, y3, y4, y5, y6, rfl, ex0⟩
      have hi63 : i ≤ 1000 := by
        rw [List.length_map] at hi
        have : (i : Int) < 1000 := Int.lt_of_lt_of_le hi (by split <;> (try split) <;> omega)
        omega
      refine q_raw ?_
      refine begun_ev (k := i) rfl rfl (ex_l ex0 ha) (by omega) hi63 fun st H1 nst e1 hs1 => ?_
      refine q_raw ?_
      refine one_ev rfl hs1 fun v x H2 sx hs2 x2 rx => ?_
      refine q_raw ?_
      refine one_ev rfl hs2 fun w' y H3 sy hs3 x3 ry => ?_
      refine if_raw (test_raw (op_raw ?_))
      refine take_ev 5 rfl ev_c hs3 (by decide) (by decide +kernel) fun d H4 _ _ hs4 x4 => ?_
      obtain ⟨_, _, _, st2⟩ := id hs2
      obtain ⟨_, _, _, st3⟩ := id hs3
      have rx4 : Rt K H4 v x := (rx.exL x3 st2).exL x4 st3
      have ry4 : Rt K H4 w' y := ry.exL x4 st3
      have X4 : Exs st H0 H4 := (((Exs.of e1).trans x2).trans x3).trans x4
      refine ⟨rfl, _, rfl, ?_⟩
      refine if_asg (i := 4) (j := 3) rfl ?_
      intro σ5 hσ5
      obtain ⟨u, z, rfl, ru, sz⟩ : ∃ u z, σ5 = [some (V.ref a), some (V.int (i : Int)), some (V.ref st), some v, some u, y5, y6] ∧ Rt K H4 u z ∧ Sz 130 z := by
        rcases hσ5 with rfl | rfl
        · exact ⟨v, x, rfl, rx4, sx⟩
        · exact ⟨w', y, rfl, ry4, sy⟩
      refine q_when (b := false) (et_is (et_or (et_not (et_B (ev_pair (ef_var rfl rx4) (ef_var rfl ru) sx sz))) fun _ => et_not (et_B (ev_pair (ef_var rfl ru) (ef_var rfl rx4) sz sx))) rfl) (fun hb => by cases hb) fun _ H6 e6 => ?_
      · have e5 := Ex.refl H4
        have rx6 : Rt K H6 v x := (rx4.mono e5).mono e6
        have hs6 := (hs4.mono e5).mono e6
        refine q_raw ?_
        unfold tLc iRng1
        refine cons_raw ?_
        refine take_ev 7 rfl ev_c hs6 (by decide) (by decide +kernel) fun d7 H7 d0 d7b hs7 x7 => ?_
        refine ⟨d7, rfl, by omega, by omega, fun D hD => lc_range (lo := 0) (n := d7.toNat) (fun j H' => ∃ vs xs, StA st H' ∧ Exs st H7 H' ∧ D ≠ st ∧ H' D = some (.lst vs) ∧ RtAll K H' vs xs ∧ vs.length = j ∧ (∀ x ∈ xs, Sz 130 x)) ?_ ?_ ?_⟩
        · obtain ⟨n, m, c, hst⟩ := id hs7
          have nD : D ≠ st := (ne_of_none hst hD).symm
          refine ⟨[], [], ⟨n, m, c, ?_⟩, Exs.of (Ex.new hD), nD, upd_same, .nil, rfl, by simp⟩
          rw [upd_ne nD.symm]
          exact hst
        · rintro j H' hj ⟨vs, xs, hs', x', nD, hDl, hR, hl, hz⟩
          refine ⟨rfl, ?_⟩
          show tCall (spOne K) [] E0 (tCons (tVar 2) tNil) _ _ _
          refine one_ev rfl hs' fun v8 x8 H8 sx8 hs8 x8e r8 => ?_
          obtain ⟨_, _, _, hst'⟩ := id hs'
          obtain ⟨n8, m8, c8, hst8⟩ := id hs8
          have hD8 := x8e _ _ nD hDl
          refine ⟨vs, hD8, small1000 (by omega), vs ++ [v8], xs ++ [x8], ⟨n8, m8, c8, ?_⟩, ?_, nD, upd_same, RtAll.exL Exs.upd hD8 ((hR.exL x8e hst').snoc r8), by simp [hl], ?_⟩
          · rw [upd_ne nD.symm]
            exact hst8
          · intro b o hb hb1
            rw [upd_ne (ne_of_none hb1 hD)]
            exact x8e _ _ hb (x' _ _ hb hb1)
          · intro y hy
            rcases List.mem_append.mp hy with h | h
            · exact hz y h
            · rw [List.mem_singleton.mp h]
              exact sx8
        · rintro H9 ⟨vs, xs, hs9, x9, nD, hDl, hR, hl, hz⟩
          obtain ⟨_, _, _, st6⟩ := id hs6
          obtain ⟨_, _, _, st7⟩ := id hs7
          have rx9 : Rt K H9 v x := (rx6.exL x7 st6).exL x9 st7
          have X9 : Ex H0 H9 := ((((X4.trans (Exs.of e5)).trans (Exs.of e6)).trans x7).trans x9).ex nst
          have hx6 : xs.length ≤ 6 := by
            have := hR.length
            omega
          refine s_when (b := false) (et_is (et_not (et_B (ev_TR (ea_cons (ev_var rfl) (ea_cons (ev_var rfl) ea_nil)) (SqL.of hDl) hR hz hx6 rx9 sx))) rfl) (fun hb => by cases hb) fun _ H10 e10 => ?_
          exact ⟨_, _, _, _, _, _, rfl, (ex0.trans X9).trans e10⟩
    · rintro σ' H' ⟨y1, y2, y3, y4, y5, y6, rfl, ex0⟩
      exact s_ret ev_c fun H2 _ => q H2
end
end NF

namespace NF
open PySem PySem.Spec PyProof.Rows L2 Evl
theorem cal_mk {P : Program} {w : World} {K : PySem.W.Frag} {mg : Str → Option Value} {base : Heap} {k : Nat} {x : Str} {ps : List Str} {dvs : List V} {sp : Sp} {f : Addr} {fd : FuncData} {ds : List Value} (h : FnOk P w K mg base CX0 k f fd ps sp) (m : mg x = some (.ref f)) (kp : PySem.W.keepIn K (.ref f) = true) (b : Binds K fd ps ds) (d : Vals dvs ds) : Cal P w K mg base k x ps dvs sp := ⟨⟨f, fd, ds, h, m, kp, b, d⟩⟩
theorem all_mk {l : PySem.W.OpenLaw} {w : World} {K : PySem.W.Frag} {h : Heap} {mg : Str → Option Value} {fa : Addr} (X : K.In h) (G : h.Ns mainGlobals mg) (hfa : mg "law" = some (.ref fa))
    {f_greatest_divisor : Addr} {od0 an0 : Option Addr} {sl0 : Array (Option Value)} {oc0 kV0 dc0 pm0 cd0 ct0 : Value}
    (a_greatest_divisor : PySem.W.nsIn K mainGlobals "greatest_divisor" = some (some (.ref f_greatest_divisor))) (l_greatest_divisor : K.lookup f_greatest_divisor = some ⟨oc0, od0, .func (PySem.W.fnOf "greatest_divisor" "greatest_divisor" (defArgs s_greatest_divisor) (defBody s_greatest_divisor) (defScope s_greatest_divisor) .none kV0 dc0 pm0 an0 cd0 ct0), sl0⟩) (d_greatest_divisor : PySem.W.codeIn K cd0 "greatest_divisor" = true) (k_greatest_divisor : PySem.W.keepIn K (.ref f_greatest_divisor) = true)
    {f_reduced : Addr} {od1 an1 : Option Addr} {sl1 : Array (Option Value)} {oc1 kV1 dc1 pm1 cd1 ct1 : Value}
    (a_reduced : PySem.W.nsIn K mainGlobals "reduced" = some (some (.ref f_reduced))) (l_reduced : K.lookup f_reduced = some ⟨oc1, od1, .func (PySem.W.fnOf "reduced" "reduced" (defArgs s_reduced) (defBody s_reduced) (defScope s_reduced) .none kV1 dc1 pm1 an1 cd1 ct1), sl1⟩) (d_reduced : PySem.W.codeIn K cd1 "reduced" = true) (k_reduced : PySem.W.keepIn K (.ref f_reduced) = true)
    {f_plus : Addr} {od2 an2 : Option Addr} {sl2 : Array (Option Value)} {oc2 kV2 dc2 pm2 cd2 ct2 : Value}
    (a_plus : PySem.W.nsIn K mainGlobals "plus" = some (some (.ref f_plus))) (l_plus : K.lookup f_plus = some ⟨oc2, od2, .func (PySem.W.fnOf "plus" "plus" (defArgs s_plus) (defBody s_plus) (defScope s_plus) .none kV2 dc2 pm2 an2 cd2 ct2), sl2⟩) (d_plus : PySem.W.codeIn K cd2 "plus" = true) (k_plus : PySem.W.keepIn K (.ref f_plus) = true)
    {f_minus : Addr} {od3 an3 : Option Addr} {sl3 : Array (Option Value)} {oc3 kV3 dc3 pm3 cd3 ct3 : Value}
    (a_minus : PySem.W.nsIn K mainGlobals "minus" = some (some (.ref f_minus))) (l_minus : K.lookup f_minus = some ⟨oc3, od3, .func (PySem.W.fnOf "minus" "minus" (defArgs s_minus) (defBody s_minus) (defScope s_minus) .none kV3 dc3 pm3 an3 cd3 ct3), sl3⟩) (d_minus : PySem.W.codeIn K cd3 "minus" = true) (k_minus : PySem.W.keepIn K (.ref f_minus) = true)
    {f_times : Addr} {od4 an4 : Option Addr} {sl4 : Array (Option Value)} {oc4 kV4 dc4 pm4 cd4 ct4 : Value}
    (a_times : PySem.W.nsIn K mainGlobals "times" = some (some (.ref f_times))) (l_times : K.lookup f_times = some ⟨oc4, od4, .func (PySem.W.fnOf "times" "times" (defArgs s_times) (defBody s_times) (defScope s_times) .none kV4 dc4 pm4 an4 cd4 ct4), sl4⟩) (d_times : PySem.W.codeIn K cd4 "times" = true) (k_times : PySem.W.keepIn K (.ref f_times) = true)
    {f_over : Addr} {od5 an5 : Option Addr} {sl5 : Array (Option Value)} {oc5 kV5 dc5 pm5 cd5 ct5 : Value}
    (a_over : PySem.W.nsIn K mainGlobals "over" = some (some (.ref f_over))) (l_over : K.lookup f_over = some ⟨oc5, od5, .func (PySem.W.fnOf "over" "over" (defArgs s_over) (defBody s_over) (defScope s_over) .none kV5 dc5 pm5 an5 cd5 ct5), sl5⟩) (d_over : PySem.W.codeIn K cd5 "over" = true) (k_over : PySem.W.keepIn K (.ref f_over) = true)
    {f_under : Addr} {od6 an6 : Option Addr} {sl6 : Array (Option Value)} {oc6 kV6 dc6 pm6 cd6 ct6 : Value}
    (a_under : PySem.W.nsIn K mainGlobals "under" = some (some (.ref f_under))) (l_under : K.lookup f_under = some ⟨oc6, od6, .func (PySem.W.fnOf "under" "under" (defArgs s_under) (defBody s_under) (defScope s_under) .none kV6 dc6 pm6 an6 cd6 ct6), sl6⟩) (d_under : PySem.W.codeIn K cd6 "under" = true) (k_under : PySem.W.keepIn K (.ref f_under) = true)
    {f_apart : Addr} {od7 an7 : Option Addr} {sl7 : Array (Option Value)} {oc7 kV7 dc7 pm7 cd7 ct7 : Value}
    (a_apart : PySem.W.nsIn K mainGlobals "apart" = some (some (.ref f_apart))) (l_apart : K.lookup f_apart = some ⟨oc7, od7, .func (PySem.W.fnOf "apart" "apart" (defArgs s_apart) (defBody s_apart) (defScope s_apart) .none kV7 dc7 pm7 an7 cd7 ct7), sl7⟩) (d_apart : PySem.W.codeIn K cd7 "apart" = true) (k_apart : PySem.W.keepIn K (.ref f_apart) = true)
    {f__law_begun : Addr} {od8 an8 : Option Addr} {sl8 : Array (Option Value)} {oc8 kV8 dc8 pm8 cd8 ct8 : Value}
    (a__law_begun : PySem.W.nsIn K mainGlobals "_law_begun" = some (some (.ref f__law_begun))) (l__law_begun : K.lookup f__law_begun = some ⟨oc8, od8, .func (PySem.W.fnOf "_law_begun" "_law_begun" (defArgs s__law_begun) (defBody s__law_begun) (defScope s__law_begun) .none kV8 dc8 pm8 an8 cd8 ct8), sl8⟩) (d__law_begun : PySem.W.codeIn K cd8 "_law_begun" = true) (k__law_begun : PySem.W.keepIn K (.ref f__law_begun) = true)
    {f__law_take : Addr} {od9 an9 : Option Addr} {sl9 : Array (Option Value)} {oc9 kV9 dc9 pm9 cd9 ct9 : Value}
    (a__law_take : PySem.W.nsIn K mainGlobals "_law_take" = some (some (.ref f__law_take))) (l__law_take : K.lookup f__law_take = some ⟨oc9, od9, .func (PySem.W.fnOf "_law_take" "_law_take" (defArgs s__law_take) (defBody s__law_take) (defScope s__law_take) .none kV9 dc9 pm9 an9 cd9 ct9), sl9⟩) (d__law_take : PySem.W.codeIn K cd9 "_law_take" = true) (k__law_take : PySem.W.keepIn K (.ref f__law_take) = true)
    {f__law_low : Addr} {od10 an10 : Option Addr} {sl10 : Array (Option Value)} {oc10 kV10 dc10 pm10 cd10 ct10 : Value}
    (a__law_low : PySem.W.nsIn K mainGlobals "_law_low" = some (some (.ref f__law_low))) (l__law_low : K.lookup f__law_low = some ⟨oc10, od10, .func (PySem.W.fnOf "_law_low" "_law_low" (defArgs s__law_low) (defBody s__law_low) (defScope s__law_low) .none kV10 dc10 pm10 an10 cd10 ct10), sl10⟩) (d__law_low : PySem.W.codeIn K cd10 "_law_low" = true) (k__law_low : PySem.W.keepIn K (.ref f__law_low) = true)
    {f__law_one : Addr} {od11 an11 : Option Addr} {sl11 : Array (Option Value)} {oc11 kV11 dc11 pm11 cd11 ct11 : Value}
    (a__law_one : PySem.W.nsIn K mainGlobals "_law_one" = some (some (.ref f__law_one))) (l__law_one : K.lookup f__law_one = some ⟨oc11, od11, .func (PySem.W.fnOf "_law_one" "_law_one" (defArgs s__law_one) (defBody s__law_one) (defScope s__law_one) .none kV11 dc11 pm11 an11 cd11 ct11), sl11⟩) (d__law_one : PySem.W.codeIn K cd11 "_law_one" = true) (k__law_one : PySem.W.keepIn K (.ref f__law_one) = true)
    {f__law_is_nought : Addr} {od12 an12 : Option Addr} {sl12 : Array (Option Value)} {oc12 kV12 dc12 pm12 cd12 ct12 : Value}
    (a__law_is_nought : PySem.W.nsIn K mainGlobals "_law_is_nought" = some (some (.ref f__law_is_nought))) (l__law_is_nought : K.lookup f__law_is_nought = some ⟨oc12, od12, .func (PySem.W.fnOf "_law_is_nought" "_law_is_nought" (defArgs s__law_is_nought) (defBody s__law_is_nought) (defScope s__law_is_nought) .none kV12 dc12 pm12 an12 cd12 ct12), sl12⟩) (d__law_is_nought : PySem.W.codeIn K cd12 "_law_is_nought" = true) (k__law_is_nought : PySem.W.keepIn K (.ref f__law_is_nought) = true)
    {f__law_over : Addr} {od13 an13 : Option Addr} {sl13 : Array (Option Value)} {oc13 kV13 dc13 pm13 cd13 ct13 : Value}
    (a__law_over : PySem.W.nsIn K mainGlobals "_law_over" = some (some (.ref f__law_over))) (l__law_over : K.lookup f__law_over = some ⟨oc13, od13, .func (PySem.W.fnOf "_law_over" "_law_over" (defArgs s__law_over) (defBody s__law_over) (defScope s__law_over) .none kV13 dc13 pm13 an13 cd13 ct13), sl13⟩) (d__law_over : PySem.W.codeIn K cd13 "_law_over" = true) (k__law_over : PySem.W.keepIn K (.ref f__law_over) = true)
    {f__law_pair_right : Addr} {od14 an14 : Option Addr} {sl14 : Array (Option Value)} {oc14 kV14 dc14 pm14 cd14 ct14 : Value}
    (a__law_pair_right : PySem.W.nsIn K mainGlobals "_law_pair_right" = some (some (.ref f__law_pair_right))) (l__law_pair_right : K.lookup f__law_pair_right = some ⟨oc14, od14, .func (PySem.W.fnOf "_law_pair_right" "_law_pair_right" (defArgs s__law_pair_right) (defBody s__law_pair_right) (defScope s__law_pair_right) .none kV14 dc14 pm14 an14 cd14 ct14), sl14⟩) (d__law_pair_right : PySem.W.codeIn K cd14 "_law_pair_right" = true) (k__law_pair_right : PySem.W.keepIn K (.ref f__law_pair_right) = true)
    {f__law_total_right : Addr} {od15 an15 : Option Addr} {sl15 : Array (Option Value)} {oc15 kV15 dc15 pm15 cd15 ct15 : Value}
    (a__law_total_right : PySem.W.nsIn K mainGlobals "_law_total_right" = some (some (.ref f__law_total_right))) (l__law_total_right : K.lookup f__law_total_right = some ⟨oc15, od15, .func (PySem.W.fnOf "_law_total_right" "_law_total_right" (defArgs s__law_total_right) (defBody s__law_total_right) (defScope s__law_total_right) .none kV15 dc15 pm15 an15 cd15 ct15), sl15⟩) (d__law_total_right : PySem.W.codeIn K cd15 "_law_total_right" = true) (k__law_total_right : PySem.W.keepIn K (.ref f__law_total_right) = true)
    {f_law : Addr} {od16 an16 : Option Addr} {sl16 : Array (Option Value)} {oc16 kV16 dc16 pm16 cd16 ct16 : Value}
    (a_law : PySem.W.nsIn K mainGlobals "law" = some (some (.ref f_law))) (l_law : K.lookup f_law = some ⟨oc16, od16, .func (PySem.W.fnOf "law" "law" (defArgs s_law) (defBody s_law) (defScope s_law) .none kV16 dc16 pm16 an16 cd16 ct16), sl16⟩) (d_law : PySem.W.codeIn K cd16 "law" = true) (k_law : PySem.W.keepIn K (.ref f_law) = true)
    {f_total : Addr} {od17 an17 : Option Addr} {sl17 : Array (Option Value)} {oc17 kV17 dc17 pm17 cd17 ct17 : Value}
    {T17 : Addr} {odT17 : Option Addr} {slT17 : Array (Option Value)} {ocT17 : Value} {nT17 : Nat}
    (a_total : PySem.W.nsIn K mainGlobals "total" = some (some (.ref f_total))) (l_total : K.lookup f_total = some ⟨oc17, od17, .func (PySem.W.fnOf "total" "total" (defArgs s_total) (defBody s_total) (defScope s_total) (.ref T17) kV17 dc17 pm17 an17 cd17 ct17), sl17⟩) (d_total : PySem.W.codeIn K cd17 "total" = true) (k_total : PySem.W.keepIn K (.ref f_total) = true)
    (t_total : K.lookup T17 = some ⟨ocT17, odT17, .seq #[.none] nT17, slT17⟩)
    (z_abs : PySem.W.nsIn K mainGlobals "abs" = some none)
    (z_isinstance : PySem.W.nsIn K mainGlobals "isinstance" = some none)
    (z_ZeroDivisionError : PySem.W.nsIn K mainGlobals "ZeroDivisionError" = some none)
    (z_len : PySem.W.nsIn K mainGlobals "len" = some none)
    (z_max : PySem.W.nsIn K mainGlobals "max" = some none)
    (z_min : PySem.W.nsIn K mainGlobals "min" = some none)
    (z_range : PySem.W.nsIn K mainGlobals "range" = some none)
    (z_repr : PySem.W.nsIn K mainGlobals "repr" = some none)
    (z_int : PySem.W.nsIn K mainGlobals "int" = some none)
    {A27 : Addr} {odA27 : Option Addr} {slA27 : Array (Option Value)} {nA27 : Nat} {tka27 tkb27 : Tok} (a_NOUGHT : PySem.W.nsIn K mainGlobals "NOUGHT" = some (some (.ref A27))) (l_NOUGHT : K.lookup A27 = some ⟨.type "tuple", odA27, .seq #[.int 0 tka27, .int 1 tkb27] nA27, slA27⟩)
    {c_NoDivisor : Addr} (g_NoDivisor : PySem.W.nsIn K mainGlobals "NoDivisor" = some (some (.ref c_NoDivisor)))
    {c_TwinError : Addr} (g_TwinError : PySem.W.nsIn K mainGlobals "TwinError" = some (some (.ref c_TwinError)))
    (x_ND : PySem.W.excIn K c_NoDivisor [.type "ZeroDivisionError", .type "ArithmeticError", .type "Exception", .type "BaseException", .type "object"] "ZeroDivisionError.__new__" = true)
    (kp_ND : PySem.W.keepIn K (.ref c_NoDivisor) = true)
    (b_ND : PySem.W.subIn K (.ref c_NoDivisor) (.type "BaseException") = some true)
    (t_ND : PySem.W.typeIn K (.ref c_NoDivisor) = some (.type "type"))
    (hd_ND : PySem.W.hasDictIn K c_NoDivisor = true)
    (s_ND : PySem.W.subIn K (.ref c_NoDivisor) (.ref c_NoDivisor) = some true)
    (e1 : PySem.W.findIn K (.ref c_NoDivisor) "__getattribute__" = some (some (.builtin "BaseException.__getattribute__")))
    (e2 : PySem.W.findIn K (.ref c_NoDivisor) "__getattr__" = some none)
    (e3 : PySem.W.findIn K (.ref c_NoDivisor) "__class__" = some (some (.builtin "object.__class__")))
    (e4 : PySem.W.specialIn K (.builtin "object.__class__") "__get__" = some (some (.builtin "getset_descriptor.__get__")))
    (e5 : PySem.W.takesIn K (.builtin "object.__class__") = some true)
    (e6 : PySem.W.mroIn K c_NoDivisor (.type "object") = some true)
    (i1 : PySem.W.kitOne K (.ref c_NoDivisor) (.type "ZeroDivisionError") = some true)
    (i2 : PySem.W.kitOne K (.ref c_NoDivisor) (.ref c_TwinError) = some false) :
    ∃ fd : FuncData, (∀ (s : Shared) (v : Value), BindsTo s fd ⟨[v], []⟩ [("_law_script", v)]) ∧ ∀ base : Heap, K.In base → base.Ns mainGlobals mg → FnG l.prog w K mg base CX0 6 fa fd ["_law_script"] (spLaw K) := by
  have e := hfa.symm.trans (PySem.W.mg_of X G a_law)
  cases e
  have F_greatest_divisor := fun_mk (st := s_greatest_divisor) l_greatest_divisor d_greatest_divisor k_greatest_divisor
  have b_greatest_divisor := F_greatest_divisor.binds (ps := ["one", "other"]) fun _ _ _ _ _ _ us hl => match us, hl with | [_, _], _ => rfl
  have F_reduced := fun_mk (st := s_reduced) l_reduced d_reduced k_reduced
  have b_reduced := F_reduced.binds (ps := ["top", "bottom"]) fun _ _ _ _ _ _ us hl => match us, hl with | [_, _], _ => rfl
  have F_plus := fun_mk (st := s_plus) l_plus d_plus k_plus
  have b_plus := F_plus.binds (ps := ["one", "other"]) fun _ _ _ _ _ _ us hl => match us, hl with | [_, _], _ => rfl
  have F_minus := fun_mk (st := s_minus) l_minus d_minus k_minus
  have b_minus := F_minus.binds (ps := ["one", "other"]) fun _ _ _ _ _ _ us hl => match us, hl with | [_, _], _ => rfl
  have F_times := fun_mk (st := s_times) l_times d_times k_times
  have b_times := F_times.binds (ps := ["one", "other"]) fun _ _ _ _ _ _ us hl => match us, hl with | [_, _], _ => rfl
  have F_over := fun_mk (st := s_over) l_over d_over k_over
  have b_over := F_over.binds (ps := ["one", "other"]) fun _ _ _ _ _ _ us hl => match us, hl with | [_, _], _ => rfl
  have F_under := fun_mk (st := s_under) l_under d_under k_under
  have b_under := F_under.binds (ps := ["one", "other"]) fun _ _ _ _ _ _ us hl => match us, hl with | [_, _], _ => rfl
  have F_apart := fun_mk (st := s_apart) l_apart d_apart k_apart
  have b_apart := F_apart.binds (ps := ["one", "other"]) fun _ _ _ _ _ _ us hl => match us, hl with | [_, _], _ => rfl
  have F__law_begun := fun_mk (st := s__law_begun) l__law_begun d__law_begun k__law_begun
  have b__law_begun := F__law_begun.binds (ps := ["_law_script", "_law_k"]) fun _ _ _ _ _ _ us hl => match us, hl with | [_, _], _ => rfl
  have F__law_take := fun_mk (st := s__law_take) l__law_take d__law_take k__law_take
  have b__law_take := F__law_take.binds (ps := ["_law_state", "_law_many"]) fun _ _ _ _ _ _ us hl => match us, hl with | [_, _], _ => rfl
  have F__law_low := fun_mk (st := s__law_low) l__law_low d__law_low k__law_low
  have b__law_low := F__law_low.binds (ps := ["_law_top", "_law_base"]) fun _ _ _ _ _ _ us hl => match us, hl with | [_, _], _ => rfl
  have F__law_one := fun_mk (st := s__law_one) l__law_one d__law_one k__law_one
  have b__law_one := F__law_one.binds (ps := ["_law_state"]) fun _ _ _ _ _ _ us hl => match us, hl with | [_], _ => rfl
  have F__law_is_nought := fun_mk (st := s__law_is_nought) l__law_is_nought d__law_is_nought k__law_is_nought
  have b__law_is_nought := F__law_is_nought.binds (ps := ["_law_one_here"]) fun _ _ _ _ _ _ us hl => match us, hl with | [_], _ => rfl
  have F__law_over := fun_mk (st := s__law_over) l__law_over d__law_over k__law_over
  have b__law_over := F__law_over.binds (ps := ["_law_one_here", "_law_other"]) fun _ _ _ _ _ _ us hl => match us, hl with | [_, _], _ => rfl
  have F__law_pair_right := fun_mk (st := s__law_pair_right) l__law_pair_right d__law_pair_right k__law_pair_right
  have b__law_pair_right := F__law_pair_right.binds (ps := ["_law_one_here", "_law_other"]) fun _ _ _ _ _ _ us hl => match us, hl with | [_, _], _ => rfl
  have F__law_total_right := fun_mk (st := s__law_total_right) l__law_total_right d__law_total_right k__law_total_right
  have b__law_total_right := F__law_total_right.binds (ps := ["_law_row", "_law_first"]) fun _ _ _ _ _ _ us hl => match us, hl with | [_, _], _ => rfl
  have F_law := fun_mk (st := s_law) l_law d_law k_law
  have F_total : FunD K "total" "total" (defArgs s_total) (defBody s_total) (defScope s_total) [.non] [] f_total _ := ⟨⟨_, _, _, _, _, _, _, _, _, _, rfl, l_total, d_total, .inr ⟨by simp, _, _, _, _, rfl, t_total, rfl, .cons rfl .nil⟩, .inl rfl⟩, k_total⟩
  obtain ⟨dt1, vt1, bt1⟩ := F_total.binds1 (ps := ["some", "start"]) 1 0 (by simp) rfl fun _ _ _ _ _ _ _ us its hl hi => match us, its, hl, hi with | [_], [_], _, _ => ⟨_, rfl, rfl⟩
  obtain ⟨dt2, vt2, bt2⟩ := F_total.binds1 (ps := ["some", "start"]) 2 1 (by simp) rfl fun _ _ _ _ _ _ _ us its hl hi => match us, its, hl, hi with | [_, _], [_], _, _ => ⟨_, rfl, rfl⟩
  have bt3 : ∀ (s : Shared) (ws : List Value), K.In s.heap → ws.length = (["start", "some"] : List Str).length → BindsTo s (PySem.W.fnOf "total" "total" (defArgs s_total) (defBody s_total) (defScope s_total) (.ref T17) kV17 dc17 pm17 an17 cd17 ct17) ⟨[], (["start", "some"] : List Str).zip ws⟩ ((["some", "start"] : List Str).zip (swap2 ws)) := fun s ws KX hl => match ws, hl with
    | [_, _], _ => BindsTo.of_defaults rfl (KX _ _ t_total) rfl (by rfl) (by rfl)
  have hN : ∀ H, SqT K H _ [.int 0, .int 1] := fun H => .inr ⟨_, _, _, l_NOUGHT, rfl, rfl, by show 2 ≤ sizeLine; decide, .cons ⟨_, rfl⟩ (.cons ⟨_, rfl⟩ .nil)⟩
  have EC : ExcC K c_NoDivisor := ⟨e1, e2, b_ND, hd_ND, e3, e4, e5, e6⟩
  refine ⟨(PySem.W.fnOf "law" "law" (defArgs s_law) (defBody s_law) (defScope s_law) .none kV16 dc16 pm16 an16 cd16 ct16), fun s v => .of_eq rfl, fun base _ _ => ?_⟩
  have M := fun {x : Str} {u : Value} (a : PySem.W.nsIn K mainGlobals x = some (some u)) => PySem.W.mg_of X G a
  have Z := fun {x : Str} (a : PySem.W.nsIn K mainGlobals x = some none) => PySem.W.mg_none_of X G a
  have C1 := cal_mk (ok_gcd (P := l.prog) (w := w) (base := base) F_greatest_divisor (Z z_abs)) (M a_greatest_divisor) k_greatest_divisor b_greatest_divisor .nil
  have C2 := cal_mk (ok_red F_reduced C1) (M a_reduced) k_reduced b_reduced .nil
  have C3 := cal_mk (ok_plus F_plus C2) (M a_plus) k_plus b_plus .nil
  have C4 := cal_mk (ok_minus F_minus C2) (M a_minus) k_minus b_minus .nil
  have C5 := cal_mk (ok_times F_times C2) (M a_times) k_times b_times .nil
  have C6 := cal_mk (ok_over F_over C2) (M a_over) k_over b_over .nil
  have C6X : CalX l.prog w K mg base 3 "over" ["one", "other"] (spOvX K c_NoDivisor) := ⟨⟨_, _, ok_overX F_over C2 (M g_NoDivisor) x_ND kp_ND b_ND t_ND, M a_over, k_over, b_over⟩⟩
  have C7 := cal_mk (ok_under (P := l.prog) (w := w) (base := base) F_under) (M a_under) k_under b_under .nil
  have C8 := cal_mk (ok_apart F_apart C7 C4) (M a_apart) k_apart b_apart .nil
  have OT := ok_total F_total (M a_NOUGHT) hN C3
  have CT1 := cal_mk OT (M a_total) k_total bt1 vt1
  have CT2 := cal_mk OT (M a_total) k_total bt2 vt2
  have CT3 : CaK l.prog w K mg base 4 "total" ["some", "start"] ["start", "some"] swap2 (spTot K) := ⟨⟨_, _, .of OT, M a_total, k_total, bt3⟩, fun r => match r with
    | .nil => .nil
    | .cons a .nil => .cons a .nil
    | .cons a (.cons b .nil) => .cons b (.cons a .nil)
    | .cons a (.cons b (.cons c t)) => .cons a (.cons b (.cons c t))⟩
  have C13 := cal_mk (ok_begun (P := l.prog) (w := w) (base := base) F__law_begun (Z z_max)) (M a__law_begun) k__law_begun b__law_begun .nil
  have C14 := cal_mk (ok_take (P := l.prog) (w := w) (base := base) F__law_take (Z z_int) (Z z_range)) (M a__law_take) k__law_take b__law_take .nil
  have CL := cal_mk (ok_low (P := l.prog) (w := w) (base := base) F__law_low (Z z_abs)) (M a__law_low) k__law_low b__law_low .nil
  have C15 := cal_mk (ok_one F__law_one C14 CL) (M a__law_one) k__law_one b__law_one .nil
  have C16 := cal_mk (ok_nought F__law_is_nought C6X (M g_NoDivisor) (PySem.W.exm_ref b_ND hd_ND t_ND s_ND) (Z z_isinstance) (Z z_ZeroDivisionError) (M g_TwinError) EC i1 i2) (M a__law_is_nought) k__law_is_nought b__law_is_nought .nil
  have C17 := cal_mk (ok_lover F__law_over CL) (M a__law_over) k__law_over b__law_over .nil
  have C18 := caG_mk (ok_pair F__law_pair_right (Z z_repr) (Z z_abs) CL.g C3.g C4.g C5.g C6.g C7.g C8.g C17.g C16.g) (M a__law_pair_right) k__law_pair_right b__law_pair_right .nil
  have C19 := caG_mk (ok_TR F__law_total_right (Z z_repr) CL.g CT1.g CT2.g CT3) (M a__law_total_right) k__law_total_right b__law_total_right .nil
  exact ok_law F_law (Z z_range) (Z z_max) (Z z_min) (Z z_len) C13.g C14.g C15.g C18 C19
end NF
open PySem PySem.W PyProof.Rows
set_option maxHeartbeats 0 in
theorem PySem.Challenge.cw_neartwins_k02_fractions_reckoned_holds : PySem.Challenge.rw_neartwins_k02_fractions_reckoned.Holds := by
  w_on; o_law; k_head; (case hw => w_witness2)
  k_fill
  refine NF.walk_g (l := PySem.Challenge.rw_neartwins_k02_fractions_reckoned) (n := 63) (k := 6) (x := "_law_script") (sp := fun w => NF.spLaw _) rfl (by decide) rfl ⟨rfl, by decide, by decide⟩ (fun w h Y => PySem.W.kIn_of Y) ?F (fun _ _ a ns hl _ hS => ⟨a, ns, rfl, hS, hl, fun _ => rfl⟩)
  case F =>
    intro w mg fa h KX G hmg
    refine' NF.all_mk KX G hmg ?a_greatest_divisor ?l_greatest_divisor ?d_greatest_divisor ?k_greatest_divisor ?a_reduced ?l_reduced ?d_reduced ?k_reduced ?a_plus ?l_plus ?d_plus ?k_plus ?a_minus ?l_minus ?d_minus ?k_minus ?a_times ?l_times ?d_times ?k_times ?a_over ?l_over ?d_over ?k_over ?a_under ?l_under ?d_under ?k_under ?a_apart ?l_apart ?d_apart ?k_apart ?a__law_begun ?l__law_begun ?d__law_begun ?k__law_begun ?a__law_take ?l__law_take ?d__law_take ?k__law_take ?a__law_low ?l__law_low ?d__law_low ?k__law_low ?a__law_one ?l__law_one ?d__law_one ?k__law_one ?a__law_is_nought ?l__law_is_nought ?d__law_is_nought ?k__law_is_nought ?a__law_over ?l__law_over ?d__law_over ?k__law_over ?a__law_pair_right ?l__law_pair_right ?d__law_pair_right ?k__law_pair_right ?a__law_total_right ?l__law_total_right ?d__law_total_right ?k__law_total_right ?a_law ?l_law ?d_law ?k_law ?a_total ?l_total ?d_total ?k_total ?t_total ?z_abs ?z_isinstance ?z_ZeroDivisionError ?z_len ?z_max ?z_min ?z_range ?z_repr ?z_int ?a_NOUGHT ?l_NOUGHT ?g_NoDivisor ?g_TwinError ?x_ND ?kp_ND ?b_ND ?t_ND ?hd_ND ?s_ND ?e1 ?e2 ?e3 ?e4 ?e5 ?e6 ?i1 ?i2
    (case a_greatest_divisor => k_is); (case l_greatest_divisor => k_is); (case d_greatest_divisor => k_is); (case k_greatest_divisor => k_is); (case a_reduced => k_is); (case l_reduced => k_is); (case d_reduced => k_is); (case k_reduced => k_is); (case a_plus => k_is); (case l_plus => k_is); (case d_plus => k_is); (case k_plus => k_is); (case a_minus => k_is); (case l_minus => k_is); (case d_minus => k_is); (case k_minus => k_is); (case a_times => k_is); (case l_times => k_is); (case d_times => k_is); (case k_times => k_is); (case a_over => k_is); (case l_over => k_is); (case d_over => k_is); (case k_over => k_is); (case a_under => k_is); (case l_under => k_is); (case d_under => k_is); (case k_under => k_is); (case a_apart => k_is); (case l_apart => k_is); (case d_apart => k_is); (case k_apart => k_is); (case a__law_begun => k_is); (case l__law_begun => k_is); (case d__law_begun => k_is); (case k__law_begun => k_is); (case a__law_take => k_is); (case l__law_take => k_is); (case d__law_take => k_is); (case k__law_take => k_is); (case a__law_low => k_is); (case l__law_low => k_is); (case d__law_low => k_is); (case k__law_low => k_is); (case a__law_one => k_is); (case l__law_one => k_is); (case d__law_one => k_is); (case k__law_one => k_is); (case a__law_is_nought => k_is); (case l__law_is_nought => k_is); (case d__law_is_nought => k_is); (case k__law_is_nought => k_is); (case a__law_over => k_is); (case l__law_over => k_is); (case d__law_over => k_is); (case k__law_over => k_is); (case a__law_pair_right => k_is); (case l__law_pair_right => k_is); (case d__law_pair_right => k_is); (case k__law_pair_right => k_is); (case a__law_total_right => k_is); (case l__law_total_right => k_is); (case d__law_total_right => k_is); (case k__law_total_right => k_is); (case a_law => k_is); (case l_law => k_is); (case d_law => k_is); (case k_law => k_is); (case a_total => k_is); (case l_total => k_is); (case d_total => k_is); (case k_total => k_is); (case t_total => k_is); (case z_abs => k_is); (case z_isinstance => k_is); (case z_ZeroDivisionError => k_is); (case z_len => k_is); (case z_max => k_is); (case z_min => k_is); (case z_range => k_is); (case z_repr => k_is); (case z_int => k_is); (case a_NOUGHT => k_is); (case l_NOUGHT => k_is); (case g_NoDivisor => k_is); (case g_TwinError => k_is); (case x_ND => k_exc); (case kp_ND => k_is); (case b_ND => k_is); (case t_ND => k_is); (case hd_ND => k_is); (case s_ND => (first | rfl | k_is)); (case e1 => k_is); (case e2 => k_is); (case e3 => k_is); (case e4 => k_is); (case e5 => k_is); (case e6 => k_is); (case i1 => kit_is); (case i2 => kit_is)

