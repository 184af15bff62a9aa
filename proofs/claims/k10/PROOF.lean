import PyProof.Rows.All
import Wide.All
import OpenK.AllK
import Wide.FinOn
import PySem.Challenge.RW_neartwins_k10_whole_behind_more_steps
import HandS.ForMost
import HandS.Evl
import HandS.Defaults
import HandS.Wide
import HandS.IsInst
import HandS.Flow
import HandS.Exc
import HandS.ExcOwn
import HandS.ExcIs
import HandS.WordsExc
import OpenK.KOps
import HandS.Conv
set_option Elab.async false
set_option linter.all false
set_option maxRecDepth 100000
namespace NF

theorem gcd_step {a b : Int} (h : b ≠ 0) : Int.gcd b (a.fmod b) = Int.gcd a b ∧ (a.fmod b).natAbs < b.natAbs := by
  constructor
  · rw [Int.fmod_def, Int.gcd_sub_mul_left_right, Int.gcd_comm]
  · rcases Int.lt_or_gt_of_ne h with hb | hb
    · have e := Int.neg_fmod_neg a b
      have h1 := Int.fmod_nonneg_of_pos (-a) (show 0 < -b by omega)
      have h2 := Int.fmod_lt_of_pos (-a) (show 0 < -b by omega)
      omega
    · have h1 := Int.fmod_nonneg_of_pos a hb
      have h2 := Int.fmod_lt_of_pos a hb
      omega

/-- what reduced does -/
theorem red_pos {a b : Int} (h : 0 < b) : a.fdiv (Int.gcd a b) = (Rat.divInt a b).num ∧ b.fdiv (Int.gcd a b) = (Rat.divInt a b).den := by
  have hg : (0 : Int) < Int.gcd a b := by
    have : 0 < Int.gcd a b := Int.gcd_pos_of_ne_zero_right _ (by omega)
    omega
  constructor
  · rw [Rat.num_divInt, Int.gcd_comm b a, Int.sign_eq_one_of_pos h, Int.one_mul, Int.fdiv_eq_ediv_of_nonneg _ (by omega)]
  · rw [Rat.den_divInt, if_neg (by omega), Int.gcd_comm b a, Int.fdiv_eq_ediv_of_nonneg _ (by omega)]
    rw [Int.natCast_ediv]
    congr 1
    omega
theorem red_neg {a b : Int} (h : b < 0) : a.fdiv (-(Int.gcd a b : Int)) = (Rat.divInt a b).num ∧ b.fdiv (-(Int.gcd a b : Int)) = (Rat.divInt a b).den := by
  have d1 : (Int.gcd a b : Int) ∣ a := Int.gcd_dvd_left ..
  have d2 : (Int.gcd a b : Int) ∣ b := Int.gcd_dvd_right ..
  constructor
  · rw [Rat.num_divInt, Int.gcd_comm b a, Int.sign_eq_neg_one_of_neg h, Int.fdiv_eq_ediv_of_dvd (by rwa [Int.neg_dvd]), Int.ediv_neg, Int.neg_mul, Int.one_mul, Int.neg_ediv_of_dvd d1]
  · rw [Rat.den_divInt, if_neg (by omega), Int.gcd_comm b a, Int.fdiv_eq_ediv_of_dvd (by rwa [Int.neg_dvd]), Int.ediv_neg, ← Int.neg_ediv_of_dvd d2]
    rw [Int.natCast_ediv]
    congr 1
    omega

/-- how many bits a fraction has -/
def Sz (B : Nat) (x : Rat) : Prop := x.num.natAbs < 2 ^ B ∧ x.den < 2 ^ B
theorem Sz.mono {A B : Nat} {x : Rat} (h : Sz A x) (e : A ≤ B) : Sz B x :=
  ⟨Nat.lt_of_lt_of_le h.1 (Nat.pow_le_pow_right (by decide) e), Nat.lt_of_lt_of_le h.2 (Nat.pow_le_pow_right (by decide) e)⟩
theorem sz_div {B : Nat} {a b : Int} (ha : a.natAbs < 2 ^ B) (hb : b.natAbs < 2 ^ B) (h : b ≠ 0) : Sz B (Rat.divInt a b) := by
  constructor
  · rw [Rat.num_divInt]
    have d1 : (Int.gcd b a : Int) ∣ a := Int.gcd_dvd_right ..
    refine Nat.lt_of_le_of_lt ?_ ha
    have : (b.sign * a / ↑(b.gcd a)).natAbs ≤ (b.sign * a).natAbs := by
      exact Int.natAbs_ediv_le_natAbs ..
    refine Nat.le_trans this ?_
    rw [Int.natAbs_mul]
    have : b.sign.natAbs = 1 := Int.natAbs_sign_of_ne_zero h
    rw [this]; omega
  · rw [Rat.den_divInt, if_neg h]
    exact Nat.lt_of_le_of_lt (Nat.div_le_self ..) hb

theorem den0 (x : Rat) : (x.den : Int) ≠ 0 := by have := x.den_nz; omega
theorem denp (x : Rat) : (0 : Int) < (x.den : Int) := by have := x.den_nz; omega
theorem add_rt (x y : Rat) : x + y = Rat.divInt (x.num * y.den + y.num * x.den) (x.den * y.den) := by
  rw [← Rat.divInt_add_divInt _ _ (den0 x) (den0 y), Rat.num_divInt_den, Rat.num_divInt_den]
theorem sub_rt (x y : Rat) : x - y = Rat.divInt (x.num * y.den - y.num * x.den) (x.den * y.den) := by
  rw [← Rat.divInt_sub_divInt _ _ (den0 x) (den0 y), Rat.num_divInt_den, Rat.num_divInt_den]
theorem mul_rt (x y : Rat) : x * y = Rat.divInt (x.num * y.num) (x.den * y.den) := by
  rw [← Rat.divInt_mul_divInt, Rat.num_divInt_den, Rat.num_divInt_den]
theorem div_rt (x y : Rat) : x / y = Rat.divInt (x.num * y.den) (x.den * y.num) := by
  rw [Rat.div_def, Rat.inv_def, ← Rat.divInt_mul_divInt, Rat.num_divInt_den]
theorem nz_num {x : Rat} (h : x.num ≠ 0) : x ≠ 0 := fun e => h (by rw [e]; rfl)
theorem num_nz {x : Rat} (h : x ≠ 0) : x.num ≠ 0 := fun e => h (Rat.num_eq_zero.mp e)

theorem bits_mul {i j : Int} {a b : Nat} (ha : i.natAbs < 2 ^ a) (hb : j.natAbs < 2 ^ b) : (i * j).natAbs < 2 ^ (a + b) := by
  rw [Int.natAbs_mul, Nat.pow_add]
  exact Nat.mul_lt_mul'' ha hb
theorem bits_add {i j : Int} {a : Nat} (ha : i.natAbs < 2 ^ a) (hb : j.natAbs < 2 ^ a) : (i + j).natAbs < 2 ^ (a + 1) := by
  rw [Nat.pow_succ]; omega
theorem bits_sub {i j : Int} {a : Nat} (ha : i.natAbs < 2 ^ a) (hb : j.natAbs < 2 ^ a) : (i - j).natAbs < 2 ^ (a + 1) := by
  rw [Nat.pow_succ]; omega
theorem bits_up {i : Int} {a b : Nat} (h : i.natAbs < 2 ^ a) (e : a ≤ b) : i.natAbs < 2 ^ b := Nat.lt_of_lt_of_le h (Nat.pow_le_pow_right (by decide) e)
theorem Sz.num {B : Nat} {x : Rat} (h : Sz B x) : x.num.natAbs < 2 ^ B := h.1
theorem Sz.den {B : Nat} {x : Rat} (h : Sz B x) : (x.den : Int).natAbs < 2 ^ B := by have := h.2; omega
theorem den_mul0 (x y : Rat) : (x.den : Int) * y.den ≠ 0 := Int.mul_ne_zero (den0 x) (den0 y)
theorem Sz.add {B : Nat} {x y : Rat} (hx : Sz B x) (hy : Sz B y) : Sz (2 * B + 1) (x + y) := by
  rw [add_rt]
  exact sz_div (bits_up (bits_add (bits_mul hx.num hy.den) (bits_mul hy.num hx.den)) (by omega)) (bits_up (bits_mul hx.den hy.den) (by omega)) (den_mul0 x y)
theorem Sz.sub {B : Nat} {x y : Rat} (hx : Sz B x) (hy : Sz B y) : Sz (2 * B + 1) (x - y) := by
  rw [sub_rt]
  exact sz_div (bits_up (bits_sub (bits_mul hx.num hy.den) (bits_mul hy.num hx.den)) (by omega)) (bits_up (bits_mul hx.den hy.den) (by omega)) (den_mul0 x y)
theorem Sz.mul {B : Nat} {x y : Rat} (hx : Sz B x) (hy : Sz B y) : Sz (2 * B + 1) (x * y) := by
  rw [mul_rt]
  exact sz_div (bits_up (bits_mul hx.num hy.num) (by omega)) (bits_up (bits_mul hx.den hy.den) (by omega)) (den_mul0 x y)
theorem Sz.div {B : Nat} {x y : Rat} (hx : Sz B x) (hy : Sz B y) (h : y ≠ 0) : Sz (2 * B + 1) (x / y) := by
  rw [div_rt]
  exact sz_div (bits_up (bits_mul hx.num hy.den) (by omega)) (bits_up (bits_mul hx.den hy.num) (by omega)) (Int.mul_ne_zero (den0 x) (num_nz h))

/-- how far two are apart -/
def ap (x y : Rat) : Rat := if x < y then y - x else x - y
theorem Sz.ap {B : Nat} {x y : Rat} (hx : Sz B x) (hy : Sz B y) : Sz (2 * B + 1) (ap x y) := by
  unfold NF.ap
  split
  · exact hy.sub hx
  · exact hx.sub hy
theorem ap_comm (x y : Rat) : ap x y = ap y x := by
  unfold NF.ap; grind
theorem ap_tri (x y z : Rat) : ¬ (ap x z + ap z y < ap x y) := by
  unfold NF.ap; grind
theorem ap_zero (x y : Rat) : ap x y = 0 ↔ x = y := by
  unfold NF.ap; grind
theorem ap_pos (x y : Rat) : ¬ (ap x y < 0) := by
  unfold NF.ap; grind
theorem lt3 (x y : Rat) : (if x < y then 1 else 0) + (if x = y then 1 else 0) + (if y < x then 1 else 0) = 1 := by grind
theorem lt_rt (x y : Rat) : x < y ↔ x.num * y.den < y.num * x.den := Rat.lt_iff x y
theorem t1 (x y : Rat) : x + y - y = x := by grind
theorem t2 (x y : Rat) : y + x = x + y := by grind
theorem t3 (x y z : Rat) : 0 + x + y + z = x + y + z := by grind
theorem t4 (x y z : Rat) : x + (y + z) = x + y + z := by grind
theorem t5 (x y z : Rat) : x * y * z = x * (z * y) := by grind
theorem t6 (x y z : Rat) : (x + y) * z = x * z + y * z := by grind
theorem t7 (x z : Rat) (h : z ≠ 0) : x * z / z = x := by grind
theorem cop (x : Rat) : Int.gcd x.num x.den = 1 := x.reduced
end NF

namespace NF
open PySem PySem.Spec PyProof.Rows L2 Evl

/-! ### a fraction as a value -/
section
variable {K : PySem.W.Frag} {H H1 H2 : Hp} {σ : L2.St} {ta tb te : TE} {x y z : Rat} {v w : V} {b : Bool}
def Rt (K : PySem.W.Frag) (H : Hp) (v : V) (x : Rat) : Prop := ∃ p, v = .ref p ∧ SqT K H p [.int x.num, .int x.den]
theorem Rt.mono (h : Rt K H v x) (e : Ex H H1) : Rt K H1 v x := by
  obtain ⟨p, e1, h⟩ := h
  exact ⟨p, e1, ex_t e h⟩
theorem Rt.of {p : Addr} {n d : Int} (h : H p = some (.tup [.int n, .int d])) (en : n = x.num) (ed : d = x.den) : Rt K H (.ref p) x := by
  subst en ed
  exact ⟨p, rfl, SqT.of h⟩
def EvF (K : PySem.W.Frag) (te : TE) (σ : L2.St) (H : Hp) (x : Rat) : Prop := ∀ H1, Ex H H1 → ∀ Q : VK, (∀ v H2, Ex H1 H2 → Rt K H2 v x → Q v H2) → te σ H1 Q
theorem EvF.mono (h : EvF K te σ H x) (e : Ex H H1) : EvF K te σ H1 x := fun H2 a Q q => h H2 (e.trans a) Q q
theorem EvF.to (h : EvF K te σ H x) (e : x = y) : EvF K te σ H y := e ▸ h
theorem ef_var {i : Nat} (h : σ[i]? = some (some v)) (r : Rt K H v x) : EvF K (tVar i) σ H x := fun H1 e _ q => ⟨v, h, q v H1 (Ex.refl H1) (r.mono e)⟩
theorem ev_ix0 (ha : EvF K ta σ H x) : Ev (tOp (rIxT K) ta (tC (.int 0))) σ H (.int x.num) := fun H1 e Q q => ha H1 e _ fun v H2 e2 r => by
  obtain ⟨p, rfl, hs⟩ := r
  exact ⟨p, _, 0, _, rfl, rfl, hs, atI_nat (j := 0) rfl, q H2 e2⟩
theorem ev_ix1 (ha : EvF K ta σ H x) : Ev (tOp (rIxT K) ta (tC (.int 1))) σ H (.int x.den) := fun H1 e Q q => ha H1 e _ fun v H2 e2 r => by
  obtain ⟨p, rfl, hs⟩ := r
  exact ⟨p, _, 1, _, rfl, rfl, hs, atI_nat (j := 1) rfl, q H2 e2⟩
theorem eqv_rt : PyData.eqv (.tuple [.int x.num, .int x.den]) (.tuple [.int y.num, .int y.den]) = decide (x = y) := by
  have e : PyData.eqv (.tuple [.int x.num, .int x.den]) (.tuple [.int y.num, .int y.den]) = (x.num == y.num && ((x.den : Int) == (y.den : Int))) := by
    simp [PyData.eqv, PyData.eqvAll]
  rw [e]
  by_cases h : x = y
  · subst h; simp
  · rw [decide_eq_false h]
    by_cases h1 : x.num = y.num
    · have h2 : (x.den : Int) ≠ y.den := fun e => h (Rat.ext h1 (by omega))
      simp [h2]
    · simp [h1]
theorem dp_rt (h : Rt K H v x) : Dp K H v (.tuple [.int x.num, .int x.den]) := by
  obtain ⟨p, rfl, hs⟩ := h
  exact .tup hs (.cons (.int _) (.cons (.int _) .nil))
theorem ev_eqF (ha : EvF K ta σ H x) (hb : EvF K tb σ H y) : Ev (tOp (rEqD K) ta tb) σ H (.bl (decide (x = y))) := fun H1 e Q q =>
  ha H1 e _ fun v H2 e2 r => hb H2 (e.trans e2) _ fun w H3 e3 r' => ⟨_, _, dp_rt (r.mono e3), dp_rt r', rfl, rfl, by rw [eqv_rt]; exact q H3 (e2.trans e3)⟩
theorem ev_neF (ha : EvF K ta σ H x) (hb : EvF K tb σ H y) : Ev (tOp (rNeD K) ta tb) σ H (.bl (!decide (x = y))) := fun H1 e Q q =>
  ha H1 e _ fun v H2 e2 r => hb H2 (e.trans e2) _ fun w H3 e3 r' => ⟨_, _, dp_rt (r.mono e3), dp_rt r', rfl, rfl, by rw [eqv_rt]; exact q H3 (e2.trans e3)⟩
/-- a written pair -/
theorem ef_tup {n d : Int} (h : EvU te σ H [.int n, .int d]) (en : n = x.num) (ed : d = x.den) : EvF K te σ H x := fun H1 e Q q =>
  h H1 e _ fun p H2 _ e2 hp => q _ H2 e2 (Rt.of hp en ed)
theorem ef_if {t : TT} (h : EvT t σ H b) (h1 : b = true → EvF K ta σ H x) (h2 : b = false → EvF K tb σ H x) : EvF K (tIf t ta tb) σ H x := fun H1 e Q q => h H1 e _ fun H2 e2 => by
  cases b with
  | true =>
    show ta σ H2 Q
    exact h1 rfl H2 (e.trans e2) Q fun v H3 e3 r => q v H3 (e2.trans e3) r
  | false =>
    show tb σ H2 Q
    exact h2 rfl H2 (e.trans e2) Q fun v H3 e3 r => q v H3 (e2.trans e3) r
variable {D : Ends} {tu tw tz : TS}
theorem s_retF (h : EvF K te σ H x) (k : ∀ u H1, Ex H H1 → Rt K H1 u x → D.rt u H1) : tRet te D σ H := h H (Ex.refl H) _ k
theorem q_asgF {i : Nat} (h : EvF K te σ H x) (k : ∀ u H1, Ex H H1 → Rt K H1 u x → tz D (σ.set i (some u)) H1) : tSeq (tAsg te (gName i)) tz D σ H := h H (Ex.refl H) _ fun u H1 e r => k u H1 e r
theorem s_asgF {i : Nat} (h : EvF K te σ H x) (k : ∀ u H1, Ex H H1 → Rt K H1 u x → D.nx (σ.set i (some u)) H1) : tAsg te (gName i) D σ H := h H (Ex.refl H) _ fun u H1 e r => k u H1 e r
theorem s_par {i j : Nat} {ta : TA} (h : EvA ta σ H [v, w]) (k : ∀ H1, Ex H H1 → D.nx ((σ.set i (some v)).set j (some w)) H1) : tPar i j ta D σ H := h H (Ex.refl H) _ fun H1 e => ⟨v, w, rfl, k H1 e⟩
end

/-! ### // by any divisor but 0 -/
def CDivX (_ j : Int) : Prop := j ≠ 0 ∧ j.natAbs.log2 < 9000
theorem op_fdivX {X : Cx} : OpR X (binaryOp .FloorDiv) (rI CDivX fun i j => .int (i.fdiv j)) := opI fun _ _ _ _ _ _ _ hc q => floordiv_int hc.1 q (.inl (PyProof.noPylong_of_log2 hc.2))
theorem divX {i j : Int} {b : Nat} (h : j ≠ 0) (hb : j.natAbs < 2 ^ b) (h0 : 0 < b) (h9 : b ≤ 9000) : CDivX i j := ⟨h, Nat.lt_of_lt_of_le (PySem.Flt.log2_lt_of h0 hb) h9⟩

/-! ### a def that is called -/
structure Cal (P : Program) (w : World) (K : PySem.W.Frag) (mg : Str → Option Value) (base : Heap) (k : Nat) (x : Str) (ps : List Str) (dvs : List V) (sp : Sp) : Prop where
  ex : ∃ (f : Addr) (fd : FuncData) (ds : List Value), FnOk P w K mg base CX0 k f fd ps sp ∧ mg x = some (.ref f) ∧ PySem.W.keepIn K (.ref f) = true ∧ Binds K fd ps ds ∧ Vals dvs ds
theorem pe_cal {X : Cx} {j k : Nat} {x : Str} {ps : List Str} {dvs : List V} {sp : Sp} {e : Expr} {es : List Expr} {t : TA} {p pos : Pos} (C : Cal X.prog X.w X.K X.mg X.base k x ps dvs sp) (hr : Room j X.A) (hk : k ≤ j) (hg : Gl X x)
    (ha : PA X (e :: es) t) (hdb : (x == ("__debug__" : Str)) = false := by decide) (he : starEach (e :: es) X.env = (false, eval e X.env) :: starEach es X.env := by rfl) (hpl : (backTo pos (starEach es X.env)).any (·.1) = false := by rfl) :
    PE X (.Call (.Name x p) (e :: es) [] pos) (tCall sp dvs E0 t) := by
  obtain ⟨f, fd, ds, F, hm, kp, b, d⟩ := C.ex
  exact pe_call F (hr.mono hk) hg hm kp b d pass0 ha hdb he hpl

/-! ### promises -/
def spGcd : Sp := fun vs H Q _ => ∃ a b : Int, vs = [.int a, .int b] ∧ ∀ H', Ex H H' → Q (.int (Int.gcd a b)) H'
def spRed (K : PySem.W.Frag) : Sp := fun vs H Q _ => ∃ (a b : Int) (B : Nat), vs = [.int a, .int b] ∧ b ≠ 0 ∧ a.natAbs < 2 ^ B ∧ b.natAbs < 2 ^ B ∧ 0 < B ∧ B ≤ 9000 ∧ ∀ v H', Ex H H' → Rt K H' v (Rat.divInt a b) → Q v H'
def sp2 (K : PySem.W.Frag) (C : Rat → Rat → Prop) (f : Rat → Rat → Rat) : Sp := fun vs H Q _ => ∃ (v w : V) (x y : Rat) (B : Nat), vs = [v, w] ∧ Rt K H v x ∧ Rt K H w y ∧ C x y ∧ Sz B x ∧ Sz B y ∧ 0 < B ∧ B ≤ 4000 ∧ ∀ u H', Ex H H' → Rt K H' u (f x y) → Q u H'
def spLt (K : PySem.W.Frag) : Sp := fun vs H Q _ => ∃ (v w : V) (x y : Rat) (B : Nat), vs = [v, w] ∧ Rt K H v x ∧ Rt K H w y ∧ Sz B x ∧ Sz B y ∧ 0 < B ∧ B ≤ 400000 ∧ ∀ H', Ex H H' → Q (.bl (decide (x < y))) H'
section
variable {K : PySem.W.Frag} {H H1 H2 : Hp} {σ : L2.St} {ta tb te : TE} {x y z : Rat} {v w : V} {B : Nat} {C : Rat → Rat → Prop} {f : Rat → Rat → Rat} {E : XK}
theorem ef_2 (ha : EvF K ta σ H x) (hb : EvF K tb σ H y) (hc : C x y) (sx : Sz B x) (sy : Sz B y) (h0 : 0 < B) (h4 : B ≤ 4000) : EvF K (tCall (sp2 K C f) [] E (tCons ta (tCons tb tNil))) σ H (f x y) := fun H1 e Q q =>
  ha H1 e _ fun v H2 e2 r => hb H2 (e.trans e2) _ fun w H3 e3 r' => ⟨v, w, x, y, B, rfl, r.mono e3, r', hc, sx, sy, h0, h4, fun u H' e4 ru => q u H' ((e2.trans e3).trans e4) ru⟩
theorem ev_lt (ha : EvF K ta σ H x) (hb : EvF K tb σ H y) (sx : Sz B x) (sy : Sz B y) (h0 : 0 < B) (h4 : B ≤ 400000) : Ev (tCall (spLt K) [] E (tCons ta (tCons tb tNil))) σ H (.bl (decide (x < y))) := fun H1 e Q q =>
  ha H1 e _ fun v H2 e2 r => hb H2 (e.trans e2) _ fun w H3 e3 r' => ⟨v, w, x, y, B, rfl, r.mono e3, r', sx, sy, h0, h4, fun H' e4 => q H' ((e2.trans e3).trans e4)⟩
theorem ef_red {a b : Int} (ha : Ev ta σ H (.int a)) (hb : Ev tb σ H (.int b)) (hn : b ≠ 0) (ba : a.natAbs < 2 ^ B) (bb : b.natAbs < 2 ^ B) (h0 : 0 < B) (h4 : B ≤ 9000) : EvF K (tCall (spRed K) [] E (tCons ta (tCons tb tNil))) σ H (Rat.divInt a b) := fun H1 e Q q =>
  ha H1 e _ fun H2 e2 => hb H2 (e.trans e2) _ fun H3 e3 => ⟨a, b, B, rfl, hn, ba, bb, h0, h4, fun u H' e4 ru => q u H' ((e2.trans e3).trans e4) ru⟩
theorem ev_gcd {a b : Int} (ha : Ev ta σ H (.int a)) (hb : Ev tb σ H (.int b)) : Ev (tCall spGcd [] E (tCons ta (tCons tb tNil))) σ H (.int (Int.gcd a b)) := fun H1 e Q q =>
  ha H1 e _ fun H2 e2 => hb H2 (e.trans e2) _ fun H3 e3 => ⟨a, b, rfl, fun H' e4 => q H' ((e2.trans e3).trans e4)⟩
end
end NF

namespace NF
open PySem PySem.Spec PyProof.Rows L2 Evl
/-! ### isinstance -/
theorem c_ty {X : Cx} {x : Str} {n : String} {pos : Pos} (hm : X.mg x = none) (hg : Gl X x) (hv : bootBuiltins x = some (.type n)) (hn : x ≠ "__name__") (hd : (x == ("__debug__" : Str)) = false := by decide) : PE X (.Name x pos) (tC (.ty n)) := pe_bltn hg hm hv rfl hn hd
section
variable {K : PySem.W.Frag} {H H1 H2 : Hp} {σ : L2.St} {ta tb te : TE} {v w : V} {t c : String} {b : Bool} {E : XK}
theorem tyx_mono {t : Value} (h : TyX K H v t) (e : Ex H H1) : TyX K H1 v t := by
  cases h with
  | base b =>
    refine .base ?_
    cases b with
    | non => exact .non
    | bl y => exact .bl y
    | int i => exact .int i
    | str y => exact .str y
    | flt y => exact .flt y
    | lst ea => exact .lst (e _ _ ea)
    | frz ea => exact .frz (e _ _ ea)
    | tup ea => exact .tup (e _ _ ea)
    | dK ea => exact .dK (e _ _ ea)
    | dT ea => exact .dT (e _ _ ea)
    | ins ea cl ha hn htk hm => exact .ins (e _ _ ea) cl ha hn htk hm
  | byt y => exact .byt y
  | set ea => exact .set (e _ _ ea)
  | kList ea c => exact .kList ea c
  | kTuple ea c => exact .kTuple ea c
  | kDict ea c => exact .kDict ea c
  | fTuple ea => exact .fTuple (e _ _ ea)
  | fDict ea => exact .fDict (e _ _ ea)
theorem ev_isi (h : Ev ta σ H v) (ty : TyX K H v (.type t)) (kb : kitB t c = some b) : Ev (tCB (rIsi K) (tCons ta (tCons (tC (.ty c)) tNil))) σ H (.bl b) := fun H1 e Q q =>
  h H1 e _ fun H2 e2 => ⟨v, .ty c, _, _, b, rfl, .ty c, tyx_mono ty (e.trans e2), kit_ty kb, q H2 e2⟩
def spWhole (K : PySem.W.Frag) : Sp := fun vs H Q _ => ∃ (v : V) (t : String) (b1 b2 : Bool), vs = [v] ∧ TyX K H v (.type t) ∧ kitB t "int" = some b1 ∧ kitB t "bool" = some b2 ∧ ∀ H', Ex H H' → Q (.bl (b1 && !b2)) H'
theorem ev_whole {b1 b2 : Bool} (h : Ev ta σ H v) (ty : TyX K H v (.type t)) (k1 : kitB t "int" = some b1) (k2 : kitB t "bool" = some b2) : Ev (tCall (spWhole K) [] E (tCons ta tNil)) σ H (.bl (b1 && !b2)) := fun H1 e Q q =>
  h H1 e _ fun H2 e2 => ⟨v, t, b1, b2, rfl, tyx_mono ty (e.trans e2), k1, k2, fun H' e3 => q H' (e2.trans e3)⟩
theorem kit_ii : kitB "int" "int" = some true := by decide +kernel
theorem kit_ib : kitB "int" "bool" = some false := by decide +kernel
theorem kit_tt : kitB "tuple" "tuple" = some true := by decide +kernel
theorem ty_int (i : Int) : TyX K H (.int i) (.type "int") := .base (.int i)
theorem ev_wholeI {i : Int} (h : Ev ta σ H (.int i)) : Ev (tCall (spWhole K) [] E (tCons ta tNil)) σ H (.bl true) := ev_whole h (ty_int i) kit_ii kit_ib
theorem ty_tup {p : Addr} {xs : List V} (h : SqT K H p xs) : TyX K H (.ref p) (.type "tuple") := by
  rcases h with (h | ⟨o, h⟩) | ⟨o, its, n, e, c, _⟩
  · exact .base (.tup h)
  · exact .fTuple h
  · exact .kTuple e c
end
def spFrac (K : PySem.W.Frag) : Sp := fun vs H Q _ => ∃ (a b : Int) (B : Nat), vs = [.int a, .int b] ∧ b ≠ 0 ∧ a.natAbs < 2 ^ B ∧ b.natAbs < 2 ^ B ∧ 0 < B ∧ B ≤ 9000 ∧ ∀ v H', Ex H H' → Rt K H' v (Rat.divInt a b) → Q v H'
def spIsF (K : PySem.W.Frag) : Sp := fun vs H Q _ => ∃ (v : V) (x : Rat), vs = [v] ∧ Rt K H v x ∧ ∀ H', Ex H H' → Q (.bl true) H'
/-- fractions in a list -/
inductive RtAll (K : PySem.W.Frag) (H : Hp) : List V → List Rat → Prop
  | nil : RtAll K H [] []
  | cons {v : V} {vs : List V} {x : Rat} {xs : List Rat} : Rt K H v x → RtAll K H vs xs → RtAll K H (v :: vs) (x :: xs)
theorem RtAll.mono {K : PySem.W.Frag} {H H1 : Hp} (e : Ex H H1) : ∀ {vs : List V} {xs : List Rat}, RtAll K H vs xs → RtAll K H1 vs xs
  | _, _, .nil => .nil
  | _, _, .cons h t => .cons (h.mono e) (RtAll.mono e t)
theorem RtAll.get {K : PySem.W.Frag} {H : Hp} : ∀ {vs : List V} {xs : List Rat} {i : Nat} {v : V}, RtAll K H vs xs → vs[i]? = some v → ∃ x, xs[i]? = some x ∧ Rt K H v x
  | _, _, _, _, .nil, e => by simp at e
  | _, _, 0, _, .cons h _, e => by
    have e' := Option.some.inj e
    subst e'
    exact ⟨_, rfl, h⟩
  | _, _, i + 1, _, .cons _ t, e => RtAll.get (i := i) t e
theorem RtAll.length {K : PySem.W.Frag} {H : Hp} : ∀ {vs : List V} {xs : List Rat}, RtAll K H vs xs → vs.length = xs.length
  | _, _, .nil => rfl
  | _, _, .cons _ t => congrArg Nat.succ (RtAll.length t)
def sumF (x0 : Rat) (xs : List Rat) : Rat := xs.foldl (· + ·) x0
theorem sumF_take {x0 x : Rat} {xs : List Rat} {i : Nat} (h : xs[i]? = some x) : sumF x0 (xs.take (i + 1)) = sumF x0 (xs.take i) + x := by
  unfold sumF
  rw [List.take_add_one, h, List.foldl_append]
  rfl
/-- one summand after another -/
theorem Sz.addAB {A B : Nat} {x y : Rat} (hx : Sz A x) (hy : Sz B y) : Sz (A + B + 1) (x + y) := by
  rw [add_rt]
  exact sz_div (bits_add (bits_mul hx.num hy.den) (bits_up (bits_mul hy.num hx.den) (by omega))) (bits_up (bits_mul hx.den hy.den) (by omega)) (den_mul0 x y)
theorem sz_sum {B : Nat} {x0 : Rat} {xs : List Rat} (h0 : Sz B x0) (hs : ∀ x ∈ xs, Sz B x) : ∀ i, i ≤ xs.length → Sz ((i + 1) * (B + 1)) (sumF x0 (xs.take i))
  | 0, _ => by
    refine Sz.mono (A := B) ?_ (by omega)
    exact h0
  | i + 1, h => by
    have hi : i < xs.length := by omega
    rw [sumF_take (List.getElem?_eq_getElem hi)]
    refine Sz.mono ((sz_sum h0 hs i (by omega)).addAB (hs _ (List.getElem_mem hi))) ?_
    rw [Nat.succ_mul (i + 1)]
    omega
def spTot (K : PySem.W.Frag) : Sp := fun vs H Q _ => ∃ (a : Addr) (us : List V) (xs : List Rat) (w : V) (x0 : Rat) (B : Nat), vs = [.ref a, w] ∧ SqL K H a us ∧ RtAll K H us xs ∧ ((w = .non ∧ x0 = 0) ∨ Rt K H w x0) ∧ Sz B x0 ∧ (∀ x ∈ xs, Sz B x) ∧
  (xs.length + 2) * (B + 1) ≤ 4000 ∧ ∀ u H', Ex H H' → Rt K H' u (sumF x0 xs) → Q u H'
end NF

namespace NF
open PySem PySem.Spec PyProof.Rows L2 Evl
/-! ### [..].count(True) -/
theorem vals_bl : ∀ {bs : List Bool} {its : List Value}, Vals (bs.map V.bl) its → its = bs.map Value.bool
  | [], _, .nil => rfl
  | b :: bs, _, .cons r t => by
    have e : _ = Value.bool b := r
    rw [e, vals_bl t]
    rfl
def rCntB (K : PySem.W.Frag) : V → List V → Hp → VK → Prop := fun x xs H Q => ∃ (p : Addr) (bs : List Bool) (k : Bool), x = .ref p ∧ xs = [.bl k] ∧ SqL K H p (bs.map V.bl) ∧ Q (.int (bs.count k : Nat)) H
theorem mt_countB {X : Cx} : MtR X "list.count" (rCntB X.K) := by
  intro pins s σ H x xs v us Q I rx rxs h
  obtain ⟨p, bs, k, rfl, rfl, hs, q⟩ := h
  cases rx
  obtain ⟨u, rfl, ru⟩ := rxs.one
  cases (show u = Value.bool k from ru)
  obtain ⟨its, rv, ⟨⟨cls, dd, data, sl⟩, n, ho, hc, hdn, hd⟩, hlen⟩ := I.list hs
  simp only at hc hd
  subst hc hd
  have hi := vals_bl rv
  subst hi
  refine call_meets PySem.F.slot_list_count ⟨_, ho, rfl⟩ PySem.F.entry_list_count (PySem.F.args_list_count_2 _ _)
    (SeqAt.list_countAt p (bs.map Value.bool).toArray n dd sl (.bool k) (isBoolOf k)) ⟨ho, fun y hy => ?_, ?_⟩
  · have hy' : y ∈ bs.map Value.bool := by simpa using hy
    obtain ⟨b, _, rfl⟩ := List.mem_map.mp hy'
    exact SeqAt.EqAt.bool_bool b k
  · have ec : (bs.map Value.bool).toArray.toList.countP (isBoolOf k) = bs.count k := by
      show (bs.map Value.bool).countP (isBoolOf k) = bs.count k
      rw [List.countP_map, List.count]
      rfl
    refine ⟨.int (bs.count k : Nat), H, I.tok _, ⟨s.toks, ?_⟩, q⟩
    rw [ec]
/-! ### the law's state: a list of two ints and a truth -/
def Exs (st : Addr) (H H' : Hp) : Prop := ∀ b o, b ≠ st → H b = some o → H' b = some o
theorem Exs.refl (st : Addr) (H : Hp) : Exs st H H := fun _ _ _ h => h
theorem Exs.trans {st : Addr} {H H1 H2 : Hp} (a : Exs st H H1) (b : Exs st H1 H2) : Exs st H H2 := fun c o n h => b c o n (a c o n h)
theorem Exs.of {st : Addr} {H H1 : Hp} (e : Ex H H1) : Exs st H H1 := fun c o _ h => e c o h
theorem Exs.upd {st : Addr} {H : Hp} {o : HO} : Exs st H (upd H st o) := fun c u n h => by rw [upd_ne n]; exact h
def StA (st : Addr) (H : Hp) : Prop := ∃ (n m : Int) (c : Bool), H st = some (.lst [.int n, .int m, .bl c])
theorem StA.mono {st : Addr} {H H1 : Hp} (e : Ex H H1) (h : StA st H) : StA st H1 := by
  obtain ⟨n, m, c, h⟩ := h
  exact ⟨n, m, c, e _ _ h⟩
/-- what is no list of the state's stays -/
theorem Exs.lst {K : PySem.W.Frag} {st a : Addr} {H H1 : Hp} {xs : List V} (e : Exs st H H1) (n : a ≠ st) (h : SqL K H a xs) : SqL K H1 a xs := by
  rcases h with (h | ⟨o, h⟩) | h
  · exact .inl (.inl (e _ _ n h))
  · exact .inl (.inr ⟨o, e _ _ n h⟩)
  · exact .inr h
theorem Exs.tup {K : PySem.W.Frag} {st a : Addr} {H H1 : Hp} {xs : List V} (e : Exs st H H1) (hs : StA st H) (h : SqT K H a xs) : SqT K H1 a xs := by
  obtain ⟨n, m, c, hs⟩ := hs
  rcases h with (h | ⟨o, h⟩) | h
  · exact .inl (.inl (e _ _ (ne_of h hs (fun z => by cases z)) h))
  · exact .inl (.inr ⟨o, e _ _ (ne_of h hs (fun z => by cases z)) h⟩)
  · exact .inr h
theorem Rt.exs {K : PySem.W.Frag} {st : Addr} {H H1 : Hp} {v : V} {x : Rat} (r : Rt K H v x) (e : Exs st H H1) (hs : StA st H) : Rt K H1 v x := by
  obtain ⟨p, e1, h⟩ := r
  exact ⟨p, e1, e.tup hs h⟩
def spBegun (K : PySem.W.Frag) : Sp := fun vs H Q _ => ∃ (a : Addr) (ns : List Int) (k : Nat), vs = [.ref a, .int (k : Int)] ∧ SqL K H a (ns.map V.int) ∧ ns.length ≤ 1000 ∧ k ≤ 1000 ∧ ∀ st H', H st = none → Ex H H' → StA st H' → Q (.ref st) H'
def spTake : Sp := fun vs H Q _ => ∃ (st : Addr) (many : Int), vs = [.ref st, .int many] ∧ StA st H ∧ 0 < many ∧ many.natAbs < 2 ^ 8000 ∧ ∀ d H', 0 ≤ d → d < many → StA st H' → Exs st H H' → Q (.int d) H'
theorem take_call {st : Addr} {many : Int} {H : Hp} {Q : VK} {E : XK} (hs : StA st H) (h0 : 0 < many) (hm : many.natAbs < 2 ^ 8000) (q : ∀ d H', 0 ≤ d → d < many → StA st H' → Exs st H H' → Q (.int d) H') : spTake [.ref st, .int many] H Q E := ⟨st, many, rfl, hs, h0, hm, q⟩
theorem small_bits {i : Int} (h0 : 0 ≤ i) (h : i ≤ 10 ^ 2000) : i.natAbs < 2 ^ 8000 := by
  have e : (10 : Int) ^ 2000 < 2 ^ 8000 := by decide +kernel
  have e2 : ((2 ^ 8000 : Nat) : Int) = (2 : Int) ^ 8000 := by decide +kernel
  omega
end NF

namespace NF
open PySem PySem.Spec PyProof.Rows L2 Evl
/-! ### promises that also know that no repr is under way (the layer's FnOk says nothing of guards, so repr of a tuple has no rule over it) -/
structure FnG (P : Program) (w : World) (K : PySem.W.Frag) (mg : Str → Option Value) (base : Heap) (CX : CXT) (k : Nat) (f : Addr) (fd : FuncData) (ps : List Str) (sp : Sp) : Prop where
  many : ∀ vs H Q E, sp vs H Q E → vs.length = ps.length
  goes : ∀ (A : Around) (out : List Env) (s : Shared) (H : Hp) (args : Args) (us : List Value) (vs : List V) (Q : VK) (E : XK), A.guards = some [] → Room k A → Env0 P w K mg base A out s H →
    BindsTo s fd args (ps.zip us) → Vals vs us → sp vs H Q E → codeAny (model P w) A (.call (.ref f) args) (CR CX out P w H s Q E) s
section
variable {P : Program} {w : World} {K : PySem.W.Frag} {mg : Str → Option Value} {base : Heap} {CX : CXT} {k j : Nat} {f : Addr} {fd : FuncData} {ps N : List Str} {sp : Sp}
theorem FnG.of (F : FnOk P w K mg base CX k f fd ps sp) : FnG P w K mg base CX k f fd ps sp :=
  ⟨F.len, fun A out s H args us vs Q E _ hr he hb hv hs => F.run A out s H args us vs Q E hr he hb hv hs⟩
theorem FnG.more (F : FnG P w K mg base CX k f fd ps sp) (h : k ≤ j) : FnG P w K mg base CX j f fd ps sp :=
  ⟨F.many, fun A out s H args us vs Q E g hr => F.goes A out s H args us vs Q E g (hr.mono h)⟩
/-- a def by its body, where no repr is under way -/
theorem fn_g {name qual : Str} {params : Arguments} {body : List Stmt} {scope : Scope} {dV kV doc pm cdv ct oc : Value} {an od : Option Addr} {osl : Array (Option Value)}
    (at_f : K.lookup f = some ⟨oc, od, .func (PySem.W.fnOf name qual params body scope dV kV doc pm an cdv ct), osl⟩) (code_f : PySem.W.codeIn K cdv qual = true) (S : FnScope N ps scope) (many : ∀ vs H Q E, sp vs H Q E → vs.length = ps.length)
    (walk : ∀ (A : Around) (out : List Env) (s : Shared) (H : Hp) (vs : List V) (Q : VK) (E : XK), A.guards = some [] → Room k (A.deeper (envOfC qual scope s.heap.objs.size f cdv)) → sp vs H Q E →
      ∃ t, PSs (cxOf CX P w K mg base N qual scope f cdv A out s H E) body t ∧ t { nx := fun _ G => Q .non G, rt := Q } (start N vs) H) : FnG P w K mg base CX (k + 1) f (PySem.W.fnOf name qual params body scope dV kV doc pm an cdv ct) ps sp := by
  constructor
  · exact many
  · intro A out s H args us vs Q E g hr he hb hv hs
    have kin := he.mod.kin.keeps fun b o e => (he.bs b o e).1
    have nol := he.mod.nolimit.keeps fun b o e => (he.bs b o e).1
    refine codeAny_call_function hr.depth (kin _ _ at_f) rfl S.co S.gen rfl (PySem.W.codeRec_of kin code_f) (hb _ _ _ _ ?_)
    refine wpAny_newFunctionEnv_cells S.kind ?_ ?_
    · rintro ⟨n, u⟩ hn
      exact (S.par n (List.of_mem_zip hn).1).imp id fun c => ⟨c, PySem.W.cellsFrom_some _ _ _ (.inl c)⟩
    · intro env e1 s1 x
      subst e1
      obtain ⟨t, d, q⟩ := walk A out s H vs Q E g (hr.deeper _) hs
      have I1 := inv_start (CX := CX) (E := E) S hr.hd he (many _ _ _ _ hs) hv x
      refine ⟨nol.keeps x.toInCall.keep, codeAny_func (wpAny_mono (d.run [] s1 (start N vs) H _ I1 q) ?_ fun _ _ z => z)⟩
      intro fl s2 z
      cases fl with
      | next =>
        obtain ⟨_, G, J, y⟩ := z
        exact ⟨.non, G, J.os, J.bare, J.base, J.hok, rfl, y⟩
      | ret u =>
        obtain ⟨v, _, G, J, rv, y⟩ := z
        exact ⟨v, G, J.os, J.bare, J.base, J.hok, rv, y⟩
      | brk => exact z.elim fun _ z => z.elim fun _ z => z.2.elim
      | cont => exact z.elim fun _ z => z.elim fun _ z => z.2.elim
end
/-- a def that is called, no repr under way -/
structure CaG (P : Program) (w : World) (K : PySem.W.Frag) (mg : Str → Option Value) (base : Heap) (CX : CXT) (k : Nat) (x : Str) (ps : List Str) (dvs : List V) (sp : Sp) : Prop where
  ex : ∃ (f : Addr) (fd : FuncData) (ds : List Value), FnG P w K mg base CX k f fd ps sp ∧ mg x = some (.ref f) ∧ PySem.W.keepIn K (.ref f) = true ∧ Binds K fd ps ds ∧ Vals dvs ds
theorem Cal.g {P : Program} {w : World} {K : PySem.W.Frag} {mg : Str → Option Value} {base : Heap} {k : Nat} {x : Str} {ps : List Str} {dvs : List V} {sp : Sp} (C : Cal P w K mg base k x ps dvs sp) : CaG P w K mg base CX0 k x ps dvs sp := by
  obtain ⟨f, fd, ds, F, r⟩ := C.ex
  exact ⟨f, fd, ds, .of F, r⟩
theorem caG_mk {P : Program} {w : World} {K : PySem.W.Frag} {mg : Str → Option Value} {base : Heap} {CX : CXT} {k : Nat} {x : Str} {ps : List Str} {dvs : List V} {sp : Sp} {f : Addr} {fd : FuncData} {ds : List Value} (h : FnG P w K mg base CX k f fd ps sp) (m : mg x = some (.ref f)) (kp : PySem.W.keepIn K (.ref f) = true)
    (b : Binds K fd ps ds) (d : Vals dvs ds) : CaG P w K mg base CX k x ps dvs sp := ⟨⟨f, fd, ds, h, m, kp, b, d⟩⟩
section
variable {X : Cx} {CX : CXT} {j k : Nat} {f : Addr} {fd : FuncData} {ps : List Str} {sp : Sp} {dvs : List V} {ds : List Value} {E : XK} {x : Str} {p pos : Pos} {e : Expr} {es : List Expr} {t : TA}
theorem run_g {pins : List (Addr × Obj)} {σ : L2.St} {H : Hp} {s : Shared} {Q : VK} {us : List Value} {vs : List V} (F : FnG X.prog X.w X.K X.mg X.base CX k f fd ps sp) (g : X.A.guards = some []) (hr : Room k X.A) (b : Binds X.K fd ps ds) (d : Vals dvs ds) (out : Passes CX X E)
    (I : Inv X pins σ H s) (v : Vals vs us) (h : sp (vs ++ dvs) H Q E) : wpAny (model X.prog X.w) X.A (call (.ref f) us) (EP X pins σ Q) X.xe s := by
  have va := v.append d
  have le : (us ++ ds).length = ps.length := va.length.symm.trans (F.many _ _ _ _ h)
  refine wpAny_call (codeAny_mono (F.goes X.A X.stack s H ⟨us, []⟩ _ _ Q E g hr I.env0 (b s us I.kIn le) va h) ?_)
  intro r s2 z
  match r, z with
  | .error y, z => exact out pins σ H s y s2 I z
  | .ok (.ret u), z => exact I.after z
theorem pe_caX (C : CaG X.prog X.w X.K X.mg X.base CX k x ps dvs sp) (g : X.A.guards = some []) (hr : Room j X.A) (hk : k ≤ j) (gl : Gl X x) (out : Passes CX X E) (ha : PA X (e :: es) t) (db : (x == ("__debug__" : Str)) = false := by decide)
    (he : starEach (e :: es) X.env = (false, eval e X.env) :: starEach es X.env := by rfl) (pl : (backTo pos (starEach es X.env)).any (·.1) = false := by rfl) : PE X (.Call (.Name x p) (e :: es) [] pos) (tCall sp dvs E t) := by
  obtain ⟨f, fd, ds, F, hm, kp, b, d⟩ := C.ex
  constructor
  intro pins s σ H Q I h
  refine wpAny_Call_Name_kw (ld_glob I gl hm (PySem.W.callWith_K (h₀ := X.base) I.ok.mod.kin kp (thn (ha.run pos pins s σ H _ I h) ?_) he pl) db)
  rintro us s1 ⟨vs, G, J, r, q⟩
  exact ⟨J.kIn, run_g F g (hr.mono hk) b d out J r q⟩
theorem pe_caG (C : CaG X.prog X.w X.K X.mg X.base CX0 k x ps dvs sp) (g : X.A.guards = some []) (hr : Room j X.A) (hk : k ≤ j) (gl : Gl X x) (ha : PA X (e :: es) t) (db : (x == ("__debug__" : Str)) = false := by decide)
    (he : starEach (e :: es) X.env = (false, eval e X.env) :: starEach es X.env := by rfl) (pl : (backTo pos (starEach es X.env)).any (·.1) = false := by rfl) : PE X (.Call (.Name x p) (e :: es) [] pos) (tCall sp dvs E0 t) := pe_caX C g hr hk gl pass0 ha db he pl
end
theorem Fun.okG {P : Program} {w : World} {K : PySem.W.Frag} {mg : Str → Option Value} {base : Heap} {x qual : Str} {st : Stmt} {f : Addr} {fd : FuncData} {N ps : List Str} {k : Nat} {sp : Sp} (F : L2.Fun K x qual st f fd) (S : FnScope N ps (defScope st)) (many : ∀ vs H Q E, sp vs H Q E → vs.length = ps.length)
    (walk : ∀ (cdv : Value) (A : Around) (out : List Env) (s : Shared) (H : Hp) (vs : List V) (Q : VK) (E : XK), A.guards = some [] → Room k (A.deeper (envOfC qual (defScope st) s.heap.objs.size f cdv)) → sp vs H Q E →
      ∃ t, PSs (cxOf CX0 P w K mg base N qual (defScope st) f cdv A out s H E).nox (defBody st) t ∧ t { nx := fun _ G => Q .non G, rt := Q } (start N vs) H) : FnG P w K mg base CX0 (k + 1) f fd ps sp := by
  obtain ⟨_, _, _, _, _, _, cdv, _, _, rfl, lk, hcd⟩ := F.ex
  exact fn_g lk hcd S many fun A out s H vs Q E g hr hs => (walk cdv A out s H vs Q E g hr hs).elim fun t z => ⟨t, z.1.nox, z.2⟩
end NF

namespace NF
open PySem PySem.Spec PyProof.Rows L2 Evl
/-! ### the end of a law row, from a promise that knows of guards -/
section
variable {P : Program} {w : World} {K : PySem.W.Frag} {mg mb : Str → Option Value} {CX : CXT} {k : Nat} {fa a : Addr} {fd : FuncData} {x : Str} {sp : Sp} {s₁ : Shared} {vs : List Value} {ns : List Int}
/-- the call, where the script alone may be tracked -/
theorem goes_from {H : Hp} (g : Heap) (KX : K.In g) (NX : g.Ns mainGlobals mg) (F : FnG P w K mg g CX k fa fd [x] sp) (hr : Room k callerA) (e0 : Env0 P w K mg g callerA [] s₁ H) (bd : ∀ (s : Shared) (u : Value), BindsTo s fd ⟨[u], []⟩ [(x, u)])
    (hO : Only H) (hsp : sp [.ref a] H (fun v _ => v = .bl true) fun _ _ _ => False) (hCX : ∀ H e s', CX [] H s₁ (fun _ _ _ => False) e s' → False) :
    codeAny (model P w) callerA (.call (.ref fa) ⟨[.ref a], []⟩) (fun r s' => r = .ok (.ret (.bool true)) ∧ OldK s₁.heap s'.heap ∧ s'.os = s₁.os ∧ AllBare s'.gens) s₁ := by
  refine codeAny_mono (F.goes callerA [] s₁ H ⟨[.ref a], []⟩ [.ref a] [.ref a] _ _ rfl hr e0 (bd s₁ _) (.cons rfl .nil) hsp) ?_
  intro r s2 z
  match r, z with
  | .error e, z => exact (hCX H e s2 z).elim
  | .ok (.ret u), z =>
    obtain ⟨v, G, h1, h2, un, ok2, rv, q⟩ := z
    cases (show v = .bl true from q)
    cases (show u = Value.bool true from rv)
    refine ⟨rfl, OldK.of_keep ?_, h1, h2⟩
    intro b o eb
    rcases hO b with n | ⟨ob, xs, y⟩
    · exact un.keep b o eb n (List.not_mem_nil) (List.not_mem_nil)
    · have y1 := (e0.hok b _ y).1
      have y2 := (ok2 b _ (un.frzs b ob _ y)).1
      rw [eb] at y1
      rw [y2, y1]
theorem law_goes (KX : K.In s₁.heap) (NX : s₁.heap.Ns mainGlobals mg) (BX : s₁.heap.Ns builtinsNs mb) (bb : ∀ x : Str, x ≠ "__name__" → mb x = bootBuiltins x) (nol : s₁.heap.NoLimit) (gn : s₁.gens = #[])
    (ea : s₁.heap.get? a = some { cls := .type "list", data := .seq vs.toArray }) (hi : IntsAre vs ns) (hl : ns.length ≤ sizeLine) (hr : Room k callerA)
    (F : ∀ base : Heap, K.In base → base.Ns mainGlobals mg → FnG P w K mg base CX k fa fd [x] sp) (bd : ∀ (s : Shared) (u : Value), BindsTo s fd ⟨[u], []⟩ [(x, u)])
    (hsp : ∀ H : Hp, Only H → SqL K H a (ns.map V.int) → sp [.ref a] H (fun v _ => v = .bl true) fun _ _ _ => False) (hCX : ∀ H e s', CX [] H s₁ (fun _ _ _ => False) e s' → False) :
    codeAny (model P w) callerA (.call (.ref fa) ⟨[.ref a], []⟩) (fun r s' => r = .ok (.ret (.bool true)) ∧ OldK s₁.heap s'.heap ∧ s'.os = s₁.os ∧ AllBare s'.gens) s₁ := by
  have rv := vals_ints hi
  by_cases inK : ∃ o, K.lookup a = some o
  · obtain ⟨o, lo⟩ := inK
    have eo := (KX a o lo).symm.trans ea
    cases eo
    have ok0 : HOk P w (fun _ => none) s₁.heap := fun _ _ z => nomatch (show (none : Option HO) = some _ from z)
    have m0 : Mod K mg s₁.heap := ⟨KX, NX, ⟨mb, BX, bb⟩, nol⟩
    exact goes_from s₁.heap KX NX (F _ KX NX) hr ⟨rfl, m0, fun b o e => ⟨e, rfl⟩, Nat.le_refl _, trivial, fun b z => absurd z List.not_mem_nil, ok0, .of_eq gn⟩ bd (fun _ => .inl rfl)
      (hsp _ (fun _ => .inl rfl) (.inr ⟨_, vs.toArray, _, lo, rfl, rfl, rfl, by rw [List.size_toArray, hi.length]; exact hl, rv⟩)) hCX
  · -- the script is tracked, known to the object
    have noK : K.lookup a = none := by
      cases c : K.lookup a with
      | none => rfl
      | some o => exact absurd ⟨o, c⟩ inK
    let H : Hp := fun b => if b = a then some (.frz { cls := .type "list", data := .seq vs.toArray } (.lst (ns.map V.int))) else none
    have Ha : H a = some (.frz { cls := .type "list", data := .seq vs.toArray } (.lst (ns.map V.int))) := if_pos rfl
    have Hn : ∀ {b}, b ≠ a → H b = none := fun n => if_neg n
    have hO : Only H := fun b => by
      by_cases c : b = a
      · exact .inr ⟨_, _, c ▸ Ha⟩
      · exact .inl (Hn c)
    have ok1 : HOk P w H s₁.heap := fun b u z => by
      by_cases c : b = a
      · subst c
        rw [Ha] at z
        cases z
        exact ⟨ea, by rw [List.length_map]; exact hl, vs, _, rv, ea⟩
      · rw [Hn c] at z
        cases z
    have up : ∀ {b o}, s₁.heap.get? b = some o → b ≠ a → (hidT s₁.heap H).get? b = some o := fun e n => hidT_get e (Hn n)
    have na : ∀ {b o es ep}, s₁.heap.get? b = some o → o.data = .dict es ep → b ≠ a := fun {b o es ep} e d c => by
      subst c
      rw [ea] at e
      cases e
      cases (show Data.seq vs.toArray _ = Data.dict es ep from d)
    have upN : ∀ {b m}, s₁.heap.Ns b m → (hidT s₁.heap H).Ns b m := fun ⟨o, es, ep, e, d, r⟩ => ⟨o, es, ep, up e (na e d), d, r⟩
    have KB : K.In (hidT s₁.heap H) := fun b o e => up (KX b o e) fun c => by
      rw [c, noK] at e
      cases e
    obtain ⟨mc, c1, c2⟩ := nol
    have m1 : Mod K mg (hidT s₁.heap H) := ⟨KB, upN NX, ⟨mb, upN BX, bb⟩, ⟨mc, upN c1, c2⟩⟩
    exact goes_from _ KB (upN NX) (F _ KB (upN NX)) hr ⟨rfl, m1, fun b o e => of_hidT e, Nat.le_of_eq (hidT_size _ _), trivial, fun b z => absurd z List.not_mem_nil, ok1, .of_eq gn⟩ bd hO (hsp H hO (.inl (.inr ⟨_, Ha⟩))) hCX
end
theorem walk_g {l : PySem.W.OpenLaw} {n k : Nat} {q : Program} {loose : List Str} {XP : (Str → Option Value) → Heap → Prop} {YP : World → Heap → Prop} {d : DefRec} {K : Params → PySem.W.Frag} {sp : World → Sp} {x : Str}
    (hn : l.most = some n) (hn2 : n ≤ sizeLine) (df : d.params.defaults = []) (hr : Room k callerA) (hY : ∀ (w : World) (h : Heap), YP w h → (K w.params).In h)
    (F : ∀ (w : World) (mg : Str → Option Value) (fa : Addr) (h : Heap), (K w.params).In h → h.Ns mainGlobals mg → mg d.name = some (.ref fa) →
      ∃ fd : FuncData, (∀ (s : Shared) (u : Value), BindsTo s fd ⟨[u], []⟩ [(x, u)]) ∧ ∀ base : Heap, (K w.params).In base → base.Ns mainGlobals mg → FnG l.prog w (K w.params) mg base CX0 k fa fd [x] (sp w))
    (hsp : ∀ (w : World) (H : Hp) (a : Addr) (ns : List Int), ns.length ≤ n → Only H → SqL (K w.params) H a (ns.map V.int) → sp w [.ref a] H (fun v _ => v = .bl true) fun _ _ _ => False) :
    PySem.W.WalkO q loose XP YP l.row.toRowW d [] (fun f vs => PySem.call f vs) := by
  refine Att.attach_call hn df ?_
  intro w s₀ s₁ mg mb fa o pm cd doc a vs ns G Y ho hd hcd hmg hobj hints hlen hg
  obtain ⟨fd, bd, hF⟩ := F w mg fa _ (hY w _ Y) G.T.g hmg
  exact law_goes (hY w _ Y) G.T.g G.T.b G.T.builtins G.T.nolimit hg hobj hints (Nat.le_trans hlen hn2) hr hF bd (fun H hO hS => hsp w H a ns hlen hO hS) fun _ _ _ z => z
end NF

namespace NF
open PySem PySem.Spec PyProof.Rows L2 Evl
/-! ### a caught exception that a local keeps beyond the suite -/
/-- an exception object of the class cls, raised and caught -/
def ExT (cls : Value) (d : Option Addr) (a : Addr) : HO := .ext fun h => ∃ (oe : Obj) (vs : Array Value), h.get? a = some oe ∧ Zc cls d oe ∧ oe.data = .fields vs
theorem exT_ok {P : Program} {w : World} {H : Hp} {h : Heap} {a : Addr} {cls : Value} {d : Option Addr} {oe : Obj} {vs : Array Value} (e : h.get? a = some oe) (z : Zc cls d oe) (dt : oe.data = .fields vs) : ObjOk P w H h a (ExT cls d a) :=
  ⟨⟨oe, vs, e, z, dt⟩, ⟨oe, e⟩, fun _ _ ⟨o1, v1, e1, z1, d1⟩ k => ⟨o1, v1, k _ e1, z1, d1⟩⟩
section
variable {X : Cx} {pins : List (Addr × Obj)} {σ : L2.St} {H : Hp} {s : Shared}
theorem Inv.track {a : Addr} {cls : Value} {d : Option Addr} {oe : Obj} {vs : Array Value} (I : Inv X pins σ H s) (na : H a = none) (ea : s.heap.get? a = some oe) (z : Zc cls d oe) (dt : oe.data = .fields vs)
    (fr : X.s_0.heap.get? a = none) (np : ∀ p ∈ X.pn ++ pins, p.1 ≠ a) (nL : a ≠ X.env.locals) : Inv X pins σ (upd H a (ExT cls d a)) s where
  ok := I.ok
  os := I.os
  bare := I.bare
  base := {
    keep := I.base.keep
    slot := I.base.slot
    free := fun b o e n x => by
      have nb : b ≠ a := fun c => by
        rw [c, fr] at e
        cases e
      rw [upd_ne nb]
      exact I.base.free b o e n x
    there := I.base.there
    tups := fun b xs e => by
      have e2 := I.base.tups b xs e
      rw [upd_ne (ne_of_none e2 na)]
      exact e2
    frzs := fun b o u e => by
      have e2 := I.base.frzs b o u e
      rw [upd_ne (ne_of_none e2 na)]
      exact e2
    tbls := fun b ps e => by
      obtain ⟨m, e2⟩ := I.base.tbls b ps e
      refine ⟨m, ?_⟩
      rw [upd_ne (ne_of_none e2 na)]
      exact e2 }
  loc := I.loc
  cell := I.cell
  free := by
    rw [upd_ne nL.symm]
    exact I.free
  freeC := fun x c e => by
    have nc : c ≠ a := fun q => by
      subst q
      obtain ⟨v, o, e1, e2⟩ := I.cell x c e
      rw [ea] at e1
      cases e1
      rw [dt] at e2
      cases e2
    rw [upd_ne nc]
    exact I.freeC x c e
  pin := fun p hp => by
    obtain ⟨p1, p2, p3⟩ := I.pin p hp
    refine ⟨p1, ?_, p3⟩
    rw [upd_ne (np p hp)]
    exact p2
  hok := fun b u e => by
    by_cases c : b = a
    · subst c
      rw [upd_same] at e
      cases e
      exact exT_ok ea z dt
    · rw [upd_ne c] at e
      refine (I.hok b u e).stay (fun _ _ _ q => q) (fun c q => ?_) (fun c xs q => ?_)
      · rw [upd_ne (ne_of_none q na)]
        exact q
      · rw [upd_ne (ne_of_none q na)]
        exact q
  len := I.len
end
/-- what 'except x as n' wishes of an exception of the body: it is caught; behind the suite it is tracked -/
def wKeep (K : PySem.W.Frag) (c : Value) (i : Nat) (ts : Addr → TS) (D : Ends) : WX := fun cls d σ H =>
  PySem.W.exmOne K cls c = some true ∧ ∀ a, H a = none → ts a { nx := fun σ' G => D.nx (σ'.set i none) (upd G a (ExT cls d a)), rt := fun _ _ => False, bk := fun _ _ => False, ct := fun _ _ => False } (σ.set i (some (.ref a))) H
section
variable {X : Cx} {x n : Str} {c : Value} {i : Nat} {body suite : List Stmt} {b₀ : Stmt} {np pos pos' : Pos} {tb : WX → TS} {ts : Addr → TS}
theorem ps_try_keep (stk : X.stack = X.env :: X.outer) (frm : X.env.frame = some X.env.locals) (nex : X.ex = []) (nd : X.N.Nodup) (hi : X.N[i]? = some n) (kn : X.env.kindOf n = some .local) (nm : Names X x c)
    (hb : ∀ (W : WX) (pn : List (Addr × Obj)) (xe : Value → Shared → Prop), Takes (X.tr pn xe) W → PassesOwn (model X.prog X.w) X.A X.env xe → PSs (X.tr pn xe) body (tb W))
    (hs : ∀ (a : Addr) (oe : Obj) (pn : List (Addr × Obj)), PSs (X.suite a ((a, oe) :: pn)) (b₀ :: suite) (ts a)) :
    PS X (.Try body [.ExceptHandler (some (.Name x np)) (some n) (b₀ :: suite) pos'] [] [] pos) (fun D σ H => tb (wKeep X.K c i ts D) D σ H) := by
  constructor
  intro pins s σ H D I h
  have ok := I.ok
  have frs0 : X.A.frames = some (X.env :: X.outer) := by rw [ok.frames, stk]
  refine wpAny_Try_except (wpAny_mono ((hb (wKeep X.K c i ts D) (X.pn ++ pins) _ ?caught PassesOwn.looking).run [] s σ H D (I.toTry _) h) ?_ fun _ _ z => z)
  case caught =>
    rintro u s2 ⟨a, B, sI, pins', σ', G, cls, d, rfl, J0, nb, up, sky, na, os2, bare2, hm, go⟩
    have J := J0.ofTry (pins := pins) ok
    rw [stk] at sky
    show wpAny (model X.prog X.w) X.A (noteFrame (.ref a) X.env) _ _ _
    refine Sky.land Zc.steady frs0 frm sky ?_
    intro h3 fl3 up3
    have J3 : Inv X pins σ' G { s2 with heap := h3 } := J.landed nb fl3.1 (up.trans up3) os2 bare2
    obtain ⟨o3, v3, e3, z3, d3⟩ := fl3.there
    have apart_ : a ∉ frs (X.env :: X.outer) := fun m => by
      obtain ⟨_, o', e', nf⟩ := fl3.2.2.1.mem m
      rw [e3] at e'
      cases e'
      exact nf _ d3
    have nL : a ≠ X.env.locals := fun q => apart_ (List.mem_filterMap.mpr ⟨X.env, List.mem_cons_self, by rw [frm, q]⟩)
    have nF : a ∉ X.fs := fun m => (List.mem_filterMap.mp m).elim fun e z => apart_ (List.mem_filterMap.mpr ⟨e, List.mem_cons_of_mem _ z.1, z.2⟩)
    have aB : B.get? a = none := fl3.2.1
    have toB : ∀ b o, sI.heap.get? b = some o → b ≠ X.env.locals → b ∉ X.fs → b ≠ a := fun b o e l f q => by
      have := nb b o e (fun m => by
        rw [stk] at m
        rcases List.mem_filterMap.mp m with ⟨ev, hv, q2⟩
        rcases List.mem_cons.mp hv with r | r
        · rw [r, frm] at q2
          exact l (Option.some.inj q2).symm
        · exact f (List.mem_filterMap.mpr ⟨ev, r, q2⟩))
      rw [q, aB] at this
      cases this
    have npn : ∀ p ∈ X.pn ++ pins, p.1 ≠ a := fun p hp => by
      obtain ⟨p1, _, p3, p4, _⟩ := J.pin p hp
      exact toB p.1 p.2 p1 p3 p4
    have fr0 : X.s_0.heap.get? a = none := by
      cases q : X.s_0.heap.get? a with
      | none => rfl
      | some o =>
        obtain ⟨o', e'⟩ := J.base.there a o q (by rw [nex]; exact List.not_mem_nil)
        exact absurd rfl (toB a o' e' nL nF)
    have S3 := J3.suite e3 d3 na nL nF
    refine wpAny_handleBy_cons (codeAny_handlers_test ?_) nofun
    have lt : PySem.W.Looks (model X.prog X.w) h3 (typeOf (.ref a)) cls := fun A Q E s k q => wpAny_typeOf_ref (k _ _ e3) (by rw [z3.1]; exact q)
    have ask : ∀ {Q E : Value → Shared → Prop}, Q c { s2 with heap := h3 } → wpAny (model X.prog X.w) (X.A.mark (some (.ref a))) (eval (.Name x np) X.env) Q E { s2 with heap := h3 } := fun q => by
      obtain ⟨g1, g2, g3⟩ := nm
      rcases g3 with g3 | ⟨g3, g4, g5⟩
      · exact ld_glob (X := X.suite a ((a, o3) :: (X.pn ++ pins))) S3 g1 g3 q g2
      · exact ld_blt (X := X.suite a ((a, o3) :: (X.pn ++ pins))) S3 g1 g3 g4 q g5 g2
    refine ask ((PySem.W.exm_one (M := model X.prog X.w) J3.kIn lt hm).here (codeAny_handlers_suite_as (HandSPX.lands_againZ fl3 ?_)))
    intro h4 fl4 up4
    have J4 : Inv X pins σ' G { s2 with heap := h4 } := J.landed nb fl4.1 ((up.trans up3).trans up4) os2 bare2
    obtain ⟨o4, v4, e4, z4, d4⟩ := fl4.there
    refine store_ok (X := X.suite a ((a, o4) :: (X.pn ++ pins))) (v := .ref a) (J4.suite e4 d4 na nL nF) nd hi (.inl kn) rfl ?_ (.inr kn)
    intro s5 S5
    refine wpAny_mono ((hs a o4 (X.pn ++ pins)).run [] s5 _ G _ S5 (go a na)) ?_ fun _ _ q => q.elim
    intro f s6 w6
    match f, w6 with
    | .next, ⟨σ6, G6, S6, q6⟩ =>
      obtain ⟨a1, a2, _⟩ := S6.pin (a, o4) (List.mem_append_left _ List.mem_cons_self)
      exact gone_ok (Inv.track (S6.unsuite ok) a2 a1 z4 d4 fr0 npn nL) nd hi kn fun s7 J7 => ⟨_, _, J7, q6⟩
    | .brk, ⟨_, _, _, q6⟩ => exact q6.elim
    | .cont, ⟨_, _, _, q6⟩ => exact q6.elim
    | .ret u, ⟨_, _, _, _, _, q6⟩ => exact q6.elim
  · intro f s1 w1
    match f, w1 with
    | .next, ⟨σ1, H1, J1, q1⟩ => exact wpAny_execs_nil ⟨σ1, H1, J1.ofTry ok, q1⟩
    | .brk, ⟨σ1, H1, J1, q1⟩ => exact ⟨σ1, H1, J1.ofTry ok, q1⟩
    | .cont, ⟨σ1, H1, J1, q1⟩ => exact ⟨σ1, H1, J1.ofTry ok, q1⟩
    | .ret u, ⟨v1, σ1, H1, J1, r1, q1⟩ => exact ⟨v1, σ1, H1, J1.ofTry ok, r1, q1⟩
end
/-- isinstance(e, c) of an exception that is kept -/
def rIsX (K : PySem.W.Frag) : List V → Hp → VK → Prop := fun xs H Q => ∃ (a D : Addr) (c : V) (cv : Value) (b : Bool), xs = [.ref a, c] ∧ H a = some (ExT (.ref D) none a) ∧ ExcC K D ∧ (∀ u, RelV c u → u = cv) ∧ PySem.W.kitOne K (.ref D) cv = some b ∧ Q (.bl b) H
theorem call_isX {X : Cx} : CallR X (.builtin "isinstance") (rIsX X.K) := by
  intro pins s σ H xs us Q I r h
  obtain ⟨a, D, c, cv, b, rfl, hH, C, hcv, e, q⟩ := h
  obtain ⟨u1, u2, rfl, r1, r2⟩ := vals2 r
  cases (show u1 = Value.ref a from r1)
  cases hcv _ r2
  obtain ⟨⟨⟨oc, od, oda, osl⟩, vs, e1, ⟨z1, z2⟩, d1⟩, _⟩ := (show ObjOk X.prog X.w H s.heap a (ExT (.ref D) none a) from I.hok a _ hH)
  dsimp only at z1 z2 d1
  subst z1 z2 d1
  exact PySem.W.kia_one (PySem.W.handS_kitx_exc C.hg C.hk C.hs C.hd C.ha C.hn C.ht C.hm) I.kIn ⟨e1, rfl, rfl, trivial⟩ e (fun z => nomatch z) fun tk => ⟨.bl b, H, I.kept (t' := tk) fun _ _ z => z, rfl, q⟩
end NF

namespace NF
open PySem PySem.Spec PyProof.Rows L2 Evl
/-! ### repr of data -/
def Fine (d : PyData) : Prop := d.showable = true ∧ d.hasDict = false ∧ d.depth ≤ 20 ∧ d.shown.length ≤ sizeLine
def rRep (K : PySem.W.Frag) : List V → Hp → VK → Prop := fun xs H Q => ∃ (x : V) (d : PyData), xs = [x] ∧ Dp K H x d ∧ Fine d ∧ Q (.str d.shown) H
theorem call_rep {X : Cx} (gd : X.A.guards = some []) (hu : X.A.units + 64 < cLine) : CallR X (.builtin "repr") (rRep X.K) := by
  intro pins s σ H xs us Q I r h
  obtain ⟨x, d, rfl, hd, ⟨f1, f2, f3, f4⟩, q⟩ := h
  obtain ⟨u, rfl, ru⟩ := vals1 r
  obtain ⟨as, rd⟩ := Dp.reads I d x u hd ru
  cases rd with
  | none => exact PySem.P.repr_of_none ⟨.str _, H, I.tok _, ⟨_, rfl⟩, q⟩
  | bool b => exact PySem.P.repr_of_bool ⟨.str _, H, I.tok _, ⟨_, rfl⟩, q⟩
  | int i t => exact PySem.P.repr_of_int (by simpa only [PyData.showable, decide_eq_true_eq] using f1) ⟨.str _, H, I.tok _, ⟨_, rfl⟩, q⟩
  | str y t => exact PySem.P.repr_of_str ⟨.str _, H, I.tok _, ⟨_, rfl⟩, q⟩ f4
  | list a1 a2 a3 a4 => exact repr_of_reads' (.list a1 a2 a3 a4) f1 (fun z => by rw [f2] at z; cases z) gd (by omega) (fun _ _ z => z) (fun h' t tk hk => ⟨.str _, H, I.kept hk, ⟨t, rfl⟩, q⟩) f4
  | tuple a1 a2 a3 a4 => exact repr_of_reads' (.tuple a1 a2 a3 a4) f1 (fun z => by rw [f2] at z; cases z) gd (by omega) (fun _ _ z => z) (fun h' t tk hk => ⟨.str _, H, I.kept hk, ⟨t, rfl⟩, q⟩) f4
  | dict a1 a2 a3 a4 a5 => cases hd
/-! ### data that is fine to show -/
def FineN (n : Nat) (d : PyData) : Prop := d.showable = true ∧ d.hasDict = false ∧ d.leavesShort 2000 = true ∧ d.weight ≤ n
theorem fine_of {n : Nat} {d : PyData} (h : FineN n d) (hn : n ≤ 4000) (hd : d.depth ≤ 20) : Fine d := by
  obtain ⟨h1, h2, h3, h4⟩ := h
  refine ⟨h1, h2, hd, ?_⟩
  have h5 := PyData.shown_le 2000 (by decide) d h3
  have h6 : (2000 + 2) * d.weight ≤ 2002 * 4000 := Nat.mul_le_mul_left _ (by omega)
  have h7 : 2002 * 4000 + 2000 ≤ sizeLine := by decide
  omega
theorem fineI {i : Int} (h : i.natAbs < 2 ^ 1900) : FineN 1900 (.int i) := by
  have hl : i.natAbs.log2 < 1900 := PySem.Flt.log2_lt_of (by decide) h
  refine ⟨?_, rfl, ?_, ?_⟩
  · simp only [PyData.showable, decide_eq_true_eq]
    omega
  · simp only [PyData.leavesShort, decide_eq_true_eq]
    show (Str.ofString (toString i)).length ≤ 2000
    have h1 := int_text_length_le (a := i) (k := 1900) (by decide) hl
    rw [PySem.ofString_length]
    omega
  · simp only [PyData.weight]
    split <;> omega
def fd (x : Rat) : PyData := .tuple [.int x.num, .int x.den]
/-- the bits of a fraction as shown -/
theorem weightI {i : Int} {B : Nat} (h : i.natAbs < 2 ^ B) (h0 : 0 < B) : PyData.weight (.int i) ≤ B := by
  have hl : i.natAbs.log2 < B := PySem.Flt.log2_lt_of h0 h
  simp only [PyData.weight]
  split <;> omega
theorem fineF {B : Nat} {x : Rat} (h : Sz B x) (h0 : 0 < B) (hB : B ≤ 1900) : FineN (2 * B + 2) (fd x) := by
  obtain ⟨a1, a2, a3, _⟩ := fineI (bits_up h.num hB)
  obtain ⟨b1, b2, b3, _⟩ := fineI (bits_up h.den hB)
  have a4 := weightI h.num h0
  have b4 := weightI h.den h0
  refine ⟨?_, ?_, ?_, ?_⟩
  · simp only [fd, PyData.showable, PyData.showableAll] at *
    simp only [a1, b1]
    rfl
  · rfl
  · simp only [fd, PyData.leavesShort, PyData.leavesShortAll] at *
    simp only [a3, b3]
    rfl
  · simp only [fd, PyData.weight, PyData.weightAll] at *
    omega
theorem fineL {B : Nat} (h0 : 0 < B) (hB : B ≤ 1900) : ∀ {xs : List Rat}, (∀ x ∈ xs, Sz B x) → FineN (xs.length * (2 * B + 3)) (.list (xs.map fd)) ∧ (PyData.list (xs.map fd)).depth ≤ 2
  | [], _ => ⟨⟨rfl, rfl, rfl, Nat.zero_le _⟩, by show 1 ≤ 2; decide⟩
  | x :: xs, h => by
    obtain ⟨⟨a1, a2, a3, a4⟩, a5⟩ := fineL h0 hB (xs := xs) fun y hy => h y (List.mem_cons_of_mem _ hy)
    obtain ⟨b1, b2, b3, b4⟩ := fineF (h x (List.mem_cons_self ..)) h0 hB
    simp only [PyData.showable, PyData.hasDict, PyData.leavesShort, PyData.weight, PyData.depth, List.map_cons, PyData.showableAll, PyData.hasDictAll, PyData.leavesShortAll, PyData.weightAll, PyData.depthAll, FineN] at *
    refine ⟨⟨by rw [a1, b1]; rfl, by rw [a2, b2]; rfl, by rw [a3, b3]; rfl, ?_⟩, ?_⟩
    · rw [List.length_cons, Nat.succ_mul]
      omega
    · have : (fd x).depth ≤ 1 := by show 1 ≤ 1; decide
      omega
theorem fine_rt {B : Nat} {x : Rat} (h : Sz B x) (h0 : 0 < B) (hB : B ≤ 1900) : Fine (fd x) := fine_of (fineF h h0 hB) (by omega) (by show 1 ≤ 20; decide)
theorem fine_rts {B : Nat} {xs : List Rat} (h : ∀ x ∈ xs, Sz B x) (h0 : 0 < B) (hB : B ≤ 1900) (hn : xs.length * (2 * B + 3) ≤ 4000) : Fine (.list (xs.map fd)) := by
  obtain ⟨a, b⟩ := fineL h0 hB h
  exact fine_of a hn (by omega)
theorem fine_bl (b : Bool) : Fine (.bool b) := by cases b <;> exact ⟨rfl, rfl, by decide, by decide +kernel⟩
/-! ### what repr evaluates to -/
section
variable {K : PySem.W.Frag} {H H1 H2 : Hp} {σ : L2.St} {ta tb te tl : TE} {x y z : Rat} {v w u : V} {B : Nat} {E : XK}
theorem dp_rts : ∀ {us : List V} {xs : List Rat}, RtAll K H us xs → DpAll K H us (xs.map fd)
  | _, _, .nil => .nil
  | _, _, .cons h t => .cons (dp_rt h) (dp_rts t)
theorem ev_repF (h : EvF K ta σ H x) (sx : Sz B x) (h0 : 0 < B) (hB : B ≤ 1900) : Ev (tCB (rRep K) (tCons ta tNil)) σ H (.str (fd x).shown) := fun H1 e Q q =>
  h H1 e _ fun v H2 e2 r => ⟨v, fd x, rfl, dp_rt r, fine_rt sx h0 hB, q H2 e2⟩
theorem ev_repL {a : Addr} {us : List V} {xs : List Rat} (h : Ev ta σ H (.ref a)) (ha : SqL K H a us) (hx : RtAll K H us xs) (hf : Fine (.list (xs.map fd))) : Ev (tCB (rRep K) (tCons ta tNil)) σ H (.str (PyData.list (xs.map fd)).shown) := fun H1 e Q q =>
  h H1 e _ fun H2 e2 => ⟨_, _, rfl, .lst (ex_l (e.trans e2) ha) (dp_rts (hx.mono (e.trans e2))), hf, q H2 e2⟩
theorem ev_repB {b : Bool} (h : Ev ta σ H (.bl b)) : Ev (tCB (rRep K) (tCons ta tNil)) σ H (.str (PyData.bool b).shown) := fun H1 e Q q =>
  h H1 e _ fun H2 e2 => ⟨_, .bool b, rfl, .bl b, fine_bl b, q H2 e2⟩
/-- fractions made one after another, then a list of them -/
def EvFs (K : PySem.W.Frag) (tA : TA) (σ : L2.St) (H : Hp) (xs : List Rat) : Prop := ∀ H1, Ex H H1 → ∀ Q : List V → Hp → Prop, (∀ vs H2, Ex H1 H2 → RtAll K H2 vs xs → Q vs H2) → tA σ H1 Q
theorem efs_nil : EvFs K tNil σ H [] := fun H1 _ Q q => q [] H1 (Ex.refl H1) .nil
theorem efs_cons {tA : TA} {xs : List Rat} (h : EvF K ta σ H x) (hr : EvFs K tA σ H xs) : EvFs K (tCons ta tA) σ H (x :: xs) := fun H1 e Q q =>
  h H1 e _ fun v H2 e2 r => hr H2 (e.trans e2) _ fun vs H3 e3 rs => q (v :: vs) H3 (e2.trans e3) (.cons (r.mono e3) rs)
/-- such a list -/
def EvR (K : PySem.W.Frag) (te : TE) (σ : L2.St) (H : Hp) (xs : List Rat) : Prop := ∀ H1, Ex H H1 → ∀ Q : VK, (∀ p us H2, H1 p = none → Ex H1 H2 → H2 p = some (.lst us) → RtAll K H2 us xs → Q (.ref p) H2) → te σ H1 Q
theorem er_lst {tA : TA} {xs : List Rat} (h : EvFs K tA σ H xs) (hl : xs.length ≤ 100000) : EvR K (tLst tA) σ H xs := fun H1 e Q q =>
  h H1 e _ fun vs H2 e2 r => ⟨sz_of (by rw [r.length]; exact hl), fun p hp => q p vs _ (fresh_back e2 hp) (e2.trans (Ex.new hp)) upd_same (r.mono (Ex.new hp))⟩
end
/-! ### f(k = v, ..) -/
structure CaK (P : Program) (w : World) (K : PySem.W.Frag) (mg : Str → Option Value) (base : Heap) (k : Nat) (x : Str) (ps ks : List Str) (g : {α : Type} → List α → List α) (sp : Sp) : Prop where
  ex : ∃ (f : Addr) (fd : FuncData), FnG P w K mg base CX0 k f fd ps sp ∧ mg x = some (.ref f) ∧ PySem.W.keepIn K (.ref f) = true ∧ (∀ (s : Shared) (ws : List Value), K.In s.heap → ws.length = ks.length → BindsTo s fd ⟨[], ks.zip ws⟩ (ps.zip (g ws)))
  rel : ∀ {vs : List V} {us : List Value}, Vals vs us → Vals (g vs) (g us)
def tCallW (n : Nat) (sp : Sp) (g : {α : Type} → List α → List α) (E : XK) (tk : TA) : TE := fun σ H Q => tk σ H fun zs H2 => zs.length = n ∧ sp (g zs) H2 Q E
theorem pe_caK {X : Cx} {j k : Nat} {x : Str} {ps ks : List Str} {g : {α : Type} → List α → List α} {sp : Sp} {p pos : Pos} {kws : List Keyword} {tk : TA} (C : CaK X.prog X.w X.K X.mg X.base k x ps ks g sp) (gd : X.A.guards = some []) (hr : Room j X.A) (hk : k ≤ j) (gl : Gl X x) (hkw : PK X kws tk)
    (hall : (backToKw pos (keywordEach kws X.env)).all (·.1.isSome) = true := by rfl) (hks : (backToKw pos (keywordEach kws X.env)).filterMap (·.1) = ks := by rfl) (db : (x == ("__debug__" : Str)) = false := by decide)
    (pl : ((backTo pos (starEach [] X.env)).any (·.1) || (backToKw pos (keywordEach kws X.env)).any (·.1.isNone)) = false := by rfl) : PE X (.Call (.Name x p) [] kws pos) (tCallW ks.length sp g E0 tk) := by
  obtain ⟨f, fd, F, hm, kp, b⟩ := C.ex
  constructor
  intro pins s σ H Q I h
  refine wpAny_Call_Name_kw (ld_glob I gl hm (PySem.W.callWith_KW0 (h₀ := X.base) I.ok.mod.kin kp hall (thn (hkw.run pos pins s σ H _ I h) ?_) pl) db)
  rintro ws s1 ⟨zs, G, J, r, hl, q⟩
  refine ⟨J.kIn, ?_⟩
  rw [hks]
  refine wpAny_call (codeAny_mono (F.goes X.A X.stack s1 G ⟨[], ks.zip ws⟩ _ _ Q E0 gd (hr.mono hk) J.env0 (b s1 ws J.kIn (r.length.symm.trans hl)) (C.rel r) q) ?_)
  intro r2 s2 z
  match r2, z with
  | .error y, z => exact z.elim
  | .ok (.ret u), z => exact J.after z
end NF

namespace NF
open PySem PySem.Spec PyProof.Rows L2 Evl
theorem call_listK {X : Cx} {K : PySem.W.Frag} (h : X.K = K) : CallR X (.type "list") (rListS K) := h ▸ call_list_of
theorem ix_listK {X : Cx} {K : PySem.W.Frag} (h : X.K = K) : IxR X (rIxL K) := h ▸ ix_list
theorem ix_tupK {X : Cx} {K : PySem.W.Frag} (h : X.K = K) : IxR X (rIxT K) := h ▸ ix_tup
/-! ### a op b op c op d -/
def tChain3 (r1 r2 r3 : R2) (ta tb tc td : TE) : TE := fun σ H Q => ta σ H fun x H1 => tb σ H1 fun y H2 => r1 x y H2 fun z H3 => ∃ k, z = .bl k ∧ (if k = true then tc σ H3 fun u H4 => r2 y u H4 fun z2 H5 => ∃ k2, z2 = .bl k2 ∧ (if k2 = true then td σ H5 fun v H6 => r3 u v H6 Q else Q (.bl false) H5) else Q (.bl false) H3)
theorem pe_chain3 {X : Cx} {a b c d : Expr} {pos : Pos} {ta tb tc td : TE} {o1 o2 o3 : CmpOp} {r1 r2 r3 : R2} (h1 : OpR X (compareOp o1) r1) (h2 : OpR X (compareOp o2) r2) (h3 : OpR X (compareOp o3) r3) (ha : PE X a ta) (hb : PE X b tb) (hc : PE X c tc) (hd : PE X d td)
    (hm : lastMarks [o1, o2, o3] [b, c, d] = false := by with_unfolding_all rfl) : PE X (.Compare a [o1, o2, o3] [b, c, d] pos) (tChain3 r1 r2 r3 ta tb tc td) := by
  constructor
  intro pins s σ H Q I h
  refine Compare_chain (thn (ha.run pins s σ H _ I h) ?_) hm
  rintro va s1 ⟨x, H1, I1, q1, p1⟩
  refine chain_link (thn (hb.run pins s1 σ H1 _ I1 p1) ?_)
  rintro vb s2 ⟨y, H2, I2, q2, p2⟩
  refine thn (h1 pins s2 σ H2 x y va vb _ I2 q1 q2 p2) ?_
  rintro vz s3 ⟨z, H3, I3, q3, k, rfl, p3⟩
  cases q3
  refine wpAny_truthy_bool ?_
  cases k with
  | false => exact ⟨.bl false, H3, I3, rfl, p3⟩
  | true =>
    refine chain_link (thn (hc.run pins s3 σ H3 _ I3 p3) ?_)
    rintro vc s4 ⟨u, H4, I4, q4, p4⟩
    refine thn (h2 pins s4 σ H4 y u vb vc _ I4 q2 q4 p4) ?_
    rintro vy s5 ⟨z2, H5, I5, q5, k2, rfl, p5⟩
    cases q5
    refine wpAny_truthy_bool ?_
    cases k2 with
    | false => exact ⟨.bl false, H5, I5, rfl, p5⟩
    | true => exact chain_last (thn (hd.run pins s5 σ H5 _ I5 p5) fun vd s6 ⟨v, H6, I6, q6, p6⟩ => h3 pins s6 σ H6 u v vc vd Q I6 q4 q6 p6)
section
variable {K : PySem.W.Frag} {H H1 H2 : Hp} {σ : L2.St} {ta tb tc td te tl : TE} {t : TT} {v w x y z u : V} {r1 r2 r3 : R2} {k k2 k3 : Bool}
theorem ev_chain (ha : Ev ta σ H x) (hb : Ev tb σ H y) (hr : RV r1 x y H (.bl k)) (hc : k = true → Ev tc σ H z) (hr2 : k = true → RV r2 y z H (.bl k2)) : Ev (tChain r1 r2 ta tb tc) σ H (.bl (k && k2)) := fun H1 e Q q =>
  ha H1 e _ fun H2 e2 => hb H2 (e.trans e2) _ fun H3 e3 => hr H3 ((e.trans e2).trans e3) _ fun H4 e4 => ⟨k, rfl, by
    have E4 := ((e.trans e2).trans e3).trans e4
    cases k with
    | false => exact q H4 ((e2.trans e3).trans e4)
    | true => exact hc rfl H4 E4 _ fun H5 e5 => hr2 rfl H5 (E4.trans e5) Q fun H6 e6 => q H6 ((((e2.trans e3).trans e4).trans e5).trans e6)⟩
theorem ev_chain3 (ha : Ev ta σ H x) (hb : Ev tb σ H y) (hr : RV r1 x y H (.bl true)) (hc : Ev tc σ H z) (hr2 : RV r2 y z H (.bl true)) (hd : Ev td σ H u) (hr3 : RV r3 z u H (.bl true)) : Ev (tChain3 r1 r2 r3 ta tb tc td) σ H (.bl true) := fun H1 e Q q =>
  ha H1 e _ fun H2 e2 => hb H2 (e.trans e2) _ fun H3 e3 => hr H3 ((e.trans e2).trans e3) _ fun H4 e4 => ⟨true, rfl, by
    have E4 := ((e.trans e2).trans e3).trans e4
    have F4 := (e2.trans e3).trans e4
    exact hc H4 E4 _ fun H5 e5 => hr2 H5 (E4.trans e5) _ fun H6 e6 => ⟨true, rfl, hd H6 ((E4.trans e5).trans e6) _ fun H7 e7 => hr3 H7 (((E4.trans e5).trans e6).trans e7) Q fun H8 e8 => q H8 ((((F4.trans e5).trans e6).trans e7).trans e8)⟩⟩
/-! ### [.. for c in text], all([..]) -/
theorem el_lcS {zs : Str} {j : Nat} {vs : List Nat} (f : Nat → Bool) (g : Nat → V) (h : Ev tl σ H (.str zs)) (hz : zs.cps.size ≤ 40000) (hw : ∀ x, wipe ((wipe σ vs).set j (some x)) vs = wipe σ vs)
    (ht : ∀ (i c : Nat) H1, Ex H H1 → zs.cps[i]? = some c → EvT t ((wipe σ vs).set j (some (.str ⟨#[c]⟩))) H1 (f i)) (he : ∀ (i c : Nat) H1, Ex H H1 → zs.cps[i]? = some c → f i = true → Ev te ((wipe σ vs).set j (some (.str ⟨#[c]⟩))) H1 (g i)) :
    EvL (tLc (iStr tl) (gName j) t te vs) σ H (given zs.cps.size f g) := fun H0 e Q q => h H0 e _ fun H1 e1 => ⟨zs, rfl, fun Dl hD => by
  refine ⟨fun i m G => m = zs.cps.size - i ∧ i ≤ zs.cps.size ∧ Cw H1 f g Dl i G, ⟨_, rfl, Nat.zero_le _, hD, Ex.new hD, upd_same⟩, ?_⟩
  rintro i m G ⟨rfl, hi, p⟩
  by_cases hlt : i < zs.cps.size
  · refine .inr ⟨hlt, Cw H1 f g Dl (i + 1), fun G' p' => ⟨zs.cps.size - (i + 1), by omega, rfl, hlt, p'⟩, ?_⟩
    rintro x G' ⟨rfl, c, hc, rfl⟩
    exact ⟨hw _, cw_turn p (by omega) (ht i c H1 (e.trans e1) hc) fun hf => he i c H1 (e.trans e1) hc hf⟩
  · have ei : i = zs.cps.size := by omega
    subst ei
    exact .inl ⟨Nat.le_refl _, q Dl G (fresh_back e1 p.1) (e1.trans p.2.1) p.2.2⟩⟩
theorem given_all (n : Nat) (g : Nat → V) : given n (fun _ => true) g = (List.range n).map g := by
  unfold given
  rw [List.filter_eq_self.mpr (fun _ _ => rfl)]
theorem given_bl (n : Nat) (b : Nat → Bool) : given n (fun _ => true) (fun i => V.bl (b i)) = ((List.range n).map b).map V.bl := by
  rw [given_all, List.map_map]
  rfl
theorem ev_allN {bs : List Bool} (h : EvL te σ H (bs.map V.bl)) : Ev (tCB (rAll K) (tCons te tNil)) σ H (.bl (bs.all id)) := fun H1 e Q q =>
  h H1 e _ fun p H2 _ e2 hp => ⟨p, bs, rfl, SqL.of hp, q H2 e2⟩
theorem ev_allT {n : Nat} (h : EvL te σ H (given n (fun _ => true) fun _ => V.bl true)) : Ev (tCB (rAll K) (tCons te tNil)) σ H (.bl true) := by
  rw [given_bl n fun _ => true] at h
  have := ev_allN (K := K) h
  have e : (((List.range n).map fun _ => true).all id) = true := by
    rw [List.all_eq_true]
    intro x hx
    obtain ⟨_, _, rfl⟩ := List.mem_map.mp hx
    rfl
  rw [e] at this
  exact this
end
/-! ### marks, shares -/
def Mk (z : Str) : Prop := 1 ≤ z.cps.size ∧ z.cps.size ≤ 4 ∧ ∀ c ∈ z.cps.toList, 97 ≤ c ∧ c ≤ 122
def Shr (x : Rat) : Prop := 0 ≤ x.num ∧ x.num ≤ x.den ∧ x.den ≤ 999
theorem Shr.sz {x : Rat} (h : Shr x) : Sz 10 x := by
  obtain ⟨h1, h2, h3⟩ := h
  constructor <;> omega
def spMark (K : PySem.W.Frag) : Sp := fun vs H Q _ => ∃ z : Str, vs = [.str z] ∧ Mk z ∧ ∀ H', Ex H H' → Q (.bl true) H'
def spShare (K : PySem.W.Frag) : Sp := fun vs H Q _ => ∃ (v : V) (x : Rat), vs = [v] ∧ Rt K H v x ∧ Shr x ∧ ∀ H', Ex H H' → Q (.bl true) H'
/-- the shares of a room: fractions, each a share, together one -/
def Shs (xs : List Rat) (n : Nat) : Prop := xs.length = n ∧ (∀ x ∈ xs, Shr x) ∧ sumF 0 xs = 1
def spRoom (K : PySem.W.Frag) : Sp := fun vs H Q _ => ∃ (a : Addr) (us : List V) (xs : List Rat) (n : Nat), vs = [.int (n : Int), .ref a] ∧ SqL K H a us ∧ RtAll K H us xs ∧ Shs xs n ∧ n ≤ 6 ∧ ∀ H', Ex H H' → Q (.bl true) H'
/-- rows of shares -/
inductive Rows (K : PySem.W.Frag) (H : Hp) : List V → List (List Rat) → Prop
  | nil : Rows K H [] []
  | cons {p : Addr} {us vs : List V} {xs : List Rat} {xss : List (List Rat)} : SqL K H p us → RtAll K H us xs → Rows K H vs xss → Rows K H (.ref p :: vs) (xs :: xss)
theorem Rows.mono {K : PySem.W.Frag} {H H1 : Hp} (e : Ex H H1) : ∀ {vs : List V} {xss : List (List Rat)}, Rows K H vs xss → Rows K H1 vs xss
  | _, _, .nil => .nil
  | _, _, .cons h r t => .cons (ex_l e h) (r.mono e) (Rows.mono e t)
theorem Rows.length {K : PySem.W.Frag} {H : Hp} : ∀ {vs : List V} {xss : List (List Rat)}, Rows K H vs xss → vs.length = xss.length
  | _, _, .nil => rfl
  | _, _, .cons _ _ t => congrArg Nat.succ (Rows.length t)
theorem Rows.get {K : PySem.W.Frag} {H : Hp} : ∀ {vs : List V} {xss : List (List Rat)} {i : Nat} {v : V}, Rows K H vs xss → vs[i]? = some v → ∃ p us xs, v = .ref p ∧ xss[i]? = some xs ∧ SqL K H p us ∧ RtAll K H us xs
  | _, _, _, _, .nil, e => by simp at e
  | _, _, 0, _, .cons h r _, e => by
    have e' := Option.some.inj e
    subst e'
    exact ⟨_, _, _, rfl, rfl, h, r⟩
  | _, _, i + 1, _, .cons _ _ t, e => Rows.get (i := i) t e
def spMarks (K : PySem.W.Frag) : Sp := fun vs H Q _ => ∃ (a : Addr) (zs : List Str), vs = [.ref a] ∧ SqL K H a (zs.map V.str) ∧ 1 ≤ zs.length ∧ zs.length ≤ 6 ∧ (∀ z ∈ zs, Mk z) ∧ ∀ H', Ex H H' → Q .non H'
def spShares (K : PySem.W.Frag) : Sp := fun vs H Q _ => ∃ (a : Addr) (us : List V) (xss : List (List Rat)) (n : Nat), vs = [.int (n : Int), .ref a] ∧ SqL K H a us ∧ Rows K H us xss ∧ xss.length = n ∧ n ≤ 6 ∧ (∀ xs ∈ xss, Shs xs n) ∧ ∀ H', Ex H H' → Q .non H'
end NF

namespace NF
open PySem PySem.Spec PyProof.Rows L2 Evl
/-! ### len(x), x an instance whose class has a __len__ of its own -/
structure LenO (P : Program) (w : World) (K : PySem.W.Frag) (mg : Str → Option Value) (base : Heap) (C : Addr) (k : Nat) (sp : Sp) : Prop where
  ex : ∃ (f : Addr) (fd : FuncData), PySem.W.findIn K (.ref C) "__len__" = some (some (.ref f)) ∧ PySem.W.isFn K (.ref f) = true ∧ FnOk P w K mg base CX0 k f fd ["self"] sp ∧ Binds K fd ["self"] []
def rLenO (C : Addr) (sp : Sp) : List V → Hp → VK → Prop := fun xs H Q => ∃ (a dx : Addr) (fs : List (Str × V)), xs = [.ref a] ∧ H a = some (.ins C dx fs) ∧ sp [.ref a] H (fun v H' => ∃ n : Int, v = .int n ∧ 0 ≤ n ∧ n < 2 ^ 63 ∧ Q (.int n) H') E0
theorem call_lenO {X : Cx} {C : Addr} {k j : Nat} {sp : Sp} (L : LenO X.prog X.w X.K X.mg X.base C k sp) (hr : Room j X.A) (hk : k + 1 ≤ j) : CallR X (.builtin "len") (rLenO C sp) := by
  obtain ⟨f, fd, hl, hf, F, hb⟩ := L.ex
  intro pins s σ H xs us Q I r h
  obtain ⟨a, dx, fs, rfl, ea, hs⟩ := h
  obtain ⟨u, rfl, ru⟩ := vals1 r
  cases (show u = Value.ref a from ru)
  obtain ⟨mA, O, _⟩ := ins_get I.hok ea
  obtain ⟨od, J, _⟩ := O.look
  obtain ⟨m, fr⟩ := I.fr
  have b := hb s [.ref a] I.kIn rfl
  refine PySem.W.len_K fr I.ok.mod.kin J hl hf (wpAny_call (codeAny_mono (F.run X.A.in1 X.stack s H ⟨[.ref a], []⟩ [.ref a] [.ref a] _ E0 (hr.mono hk).in1 I.env0.in1 b (.cons rfl .nil) hs) ?_))
  intro rr s2 z
  match rr, z with
  | .error y, z => exact z.elim
  | .ok (.ret u), z =>
    obtain ⟨v, H', I', rv, n, rfl, h0, h1, q⟩ := I.after z
    obtain ⟨t, rfl⟩ := rv
    exact ⟨⟨h0, h1⟩, .int n, H', I'.tok _, ⟨_, rfl⟩, q⟩
/-! ### o.m(..) -/
structure CalM (P : Program) (w : World) (K : PySem.W.Frag) (mg : Str → Option Value) (base : Heap) (C : Addr) (k : Nat) (m : Str) (ps : List Str) (sp : Sp) : Prop where
  ex : ∃ (f : Addr) (fd : FuncData), Meth K C m f ∧ FnOk P w K mg base CX0 k f fd ps sp ∧ Binds K fd ps []
  cl : Cls K C
section
variable {X : Cx} {C : Addr} {j k : Nat} {m : Str} {ps : List Str} {sp : Sp} {o e : Expr} {es : List Expr} {ta : TE} {t : TA} {pos apos : Pos} {pl : Sem Bool}
theorem pe_calM (M : CalM X.prog X.w X.K X.mg X.base C k m ps sp) (hr : Room j X.A) (hk : k ≤ j) (he : PE X o ta) (ha : PA X (e :: es) t)
    (hst : starEach (e :: es) X.env = (false, eval e X.env) :: starEach es X.env := by rfl) (hpl : (backTo pos (starEach es X.env)).any (·.1) = false := by rfl)
    (ht : eval (.Call (.Attribute o m apos) (e :: es) [] pos) X.env = (do
      let ov ← eval o X.env
      standAt apos.atName
      let (g, first) ← holding [ov] (getMethod ov m pl)
      callWith pos g first (backTo pos (starEach (e :: es) X.env)) (backToKw pos (keywordEach [] X.env))) := by rfl) : PE X (.Call (.Attribute o m apos) (e :: es) [] pos) (tMeth C m sp [] E0 ta t) := by
  obtain ⟨f, fd, hm, F, b⟩ := M.ex
  exact pe_meth he M.cl hm F (hr.mono hk) b .nil pass0 ha hst hpl ht
end
/-! ### a Machine -/
def MaAt (K : PySem.W.Frag) (C : Addr) (H : Hp) (m : Addr) (zs : List Str) (xss : List (List Rat)) : Prop := ∃ (dx am as : Addr) (us : List V), H m = some (.ins C dx [("kept_marks", .ref am), ("kept_shares", .ref as)]) ∧ H am = some (.lst (zs.map V.str)) ∧ H as = some (.lst us) ∧ Rows K H us xss
theorem MaAt.mono {K : PySem.W.Frag} {C m : Addr} {H H1 : Hp} {zs : List Str} {xss : List (List Rat)} (h : MaAt K C H m zs xss) (e : Ex H H1) : MaAt K C H1 m zs xss := by
  obtain ⟨dx, am, as, us, h1, h2, h3, h4⟩ := h
  exact ⟨dx, am, as, us, e _ _ h1, e _ _ h2, e _ _ h3, h4.mono e⟩
/-- a machine as the document has it -/
def Good (zs : List Str) (xss : List (List Rat)) : Prop := 1 ≤ zs.length ∧ zs.length ≤ 6 ∧ (∀ z ∈ zs, NF.Mk z) ∧ xss.length = zs.length ∧ ∀ xs ∈ xss, Shs xs zs.length
theorem RtAll.sq {K : PySem.W.Frag} {H H1 : Hp} (e : ∀ {a xs}, SqT K H a xs → SqT K H1 a xs) : ∀ {vs : List V} {xs : List Rat}, RtAll K H vs xs → RtAll K H1 vs xs
  | _, _, .nil => .nil
  | _, _, .cons ⟨p, e1, h⟩ t => .cons ⟨p, e1, e h⟩ (RtAll.sq e t)
theorem Rows.snoc {K : PySem.W.Frag} {H : Hp} {p : Addr} {us : List V} {xs : List Rat} (h : SqL K H p us) (r : RtAll K H us xs) : ∀ {vs : List V} {xss : List (List Rat)}, Rows K H vs xss → Rows K H (vs ++ [.ref p]) (xss ++ [xs])
  | _, _, .nil => .cons h r .nil
  | _, _, .cons h' r' t => .cons h' r' (Rows.snoc h r t)
section
variable {K : PySem.W.Frag} {H H1 H2 : Hp} {σ : L2.St} {ta tb te tl : TE} {E : XK} {D : Ends} {tz : TS}
/-- rows may stand where an object that is no tuple and no row of theirs changes -/
theorem Rows.exN {st : Addr} {o : HO} (e : Exs st H H1) (hs : H st = some o) (nt : ∀ xs, o ≠ .tup xs) (nf : ∀ ob xs, o ≠ .frz ob (.tup xs)) (nl : ∀ xs, o ≠ .lst xs) (nk : ∀ ob xs, o ≠ .frz ob (.lst xs)) : ∀ {vs : List V} {xss : List (List Rat)}, Rows K H vs xss → Rows K H1 vs xss := by
  have et : ∀ {a xs}, SqT K H a xs → SqT K H1 a xs := fun {a xs} h => by
    rcases h with (h | ⟨ob, h⟩) | h
    · exact .inl (.inl (e _ _ (ne_of h hs fun z => nt _ z.symm) h))
    · exact .inl (.inr ⟨ob, e _ _ (ne_of h hs fun z => nf _ _ z.symm) h⟩)
    · exact .inr h
  have el : ∀ {a xs}, SqL K H a xs → SqL K H1 a xs := fun {a xs} h => by
    rcases h with (h | ⟨ob, h⟩) | h
    · exact .inl (.inl (e _ _ (ne_of h hs fun z => nl _ z.symm) h))
    · exact .inl (.inr ⟨ob, e _ _ (ne_of h hs fun z => nk _ _ z.symm) h⟩)
    · exact .inr h
  have er : ∀ {vs xs}, RtAll K H vs xs → RtAll K H1 vs xs := by
    intro vs xs h
    induction h with
    | nil => exact .nil
    | cons r _ ih =>
      obtain ⟨p, e1, h⟩ := r
      exact .cons ⟨p, e1, et h⟩ ih
  intro vs xss h
  induction h with
  | nil => exact .nil
  | cons h r _ ih => exact .cons (el h) (er r) ih
def EvRows (K : PySem.W.Frag) (te : TE) (σ : L2.St) (H : Hp) (xss : List (List Rat)) : Prop := ∀ H1, Ex H H1 → ∀ Q : VK, (∀ p vs H2, H1 p = none → Ex H1 H2 → H2 p = some (.lst vs) → Rows K H2 vs xss → Q (.ref p) H2) → te σ H1 Q
/-- [list(row) for row in rows] -/
theorem er_copy {a : Addr} {us : List V} {xss : List (List Rat)} {j : Nat} {vs : List Nat} (h : Ev tl σ H (.ref a)) (ha : SqL K H a us) (hr : Rows K H us xss) (hz : us.length ≤ 1000) (hw : ∀ x, wipe ((wipe σ vs).set j (some x)) vs = wipe σ vs) (hj : ∀ x, ((wipe σ vs).set j (some x))[j]? = some (some x)) :
    EvRows K (tLc (iList K tl) (gName j) tYes (tCB (fun xs H Q => ∃ p ys, xs = [V.ref p] ∧ (SqL K H p ys ∨ SqT K H p ys) ∧ ∀ l, H l = none → Q (.ref l) (upd H l (.lst ys))) (tCons (tVar j) tNil)) vs) σ H xss := fun H0 e Q q => h H0 e _ fun H1 e1 => ⟨a, rfl, ⟨us, ex_l (e.trans e1) ha⟩, fun Dl hD => by
  have E1 := e.trans e1
  refine lc_list (xs := us) (fun i G => ∃ ws, H1 Dl = none ∧ Ex H1 G ∧ G Dl = some (.lst ws) ∧ ws.length = i ∧ Rows K (fun b => if b = Dl then none else G b) ws (xss.take i)) ⟨[], hD, Ex.new hD, upd_same, rfl, .nil⟩ (fun i G _ p => p.elim fun ws p => ex_l (E1.trans p.2.1) ha) ?_ ?_
  · rintro i x G hi ⟨ws, n1, x1, hDl, hl, hR⟩
    obtain ⟨p, ys, xs, rfl, hx, hp, hxs⟩ := (hr.mono (E1.trans x1)).get hi
    refine ⟨hw _, ?_⟩
    refine ⟨_, hj _, p, ys, rfl, .inl hp, fun l nl => ?_⟩
    have nlD : l ≠ Dl := fun z => by rw [z, hDl] at nl; cases nl
    have hlt : i < us.length := (List.getElem?_eq_some_iff.mp hi).1
    refine ⟨ws, by rw [upd_ne nlD.symm]; exact hDl, Nat.lt_of_lt_of_le (show ws.length < 1001 by omega) (by decide), ws ++ [.ref l], n1, fun b o hb => ?_, upd_same, by simp [hl], ?_⟩
    · rw [upd_ne (ne_of_none hb n1), upd_ne (fun z => by rw [z] at hb; have := x1 _ _ hb; rw [nl] at this; cases this)]
      exact x1 _ _ hb
    · have ex2 : Ex (fun b => if b = Dl then none else G b) (fun b => if b = Dl then none else (upd (upd G l (.lst ys)) Dl (.lst (ws ++ [.ref l]))) b) := fun b o hb => by
        by_cases c : b = Dl
        · simp [c] at hb
        · simp only [c, if_false] at hb ⊢
          rw [upd_ne c, upd_ne (fun z => by rw [z, nl] at hb; cases hb)]
          exact hb
      have hlx : (fun b => if b = Dl then none else (upd (upd G l (.lst ys)) Dl (.lst (ws ++ [.ref l]))) b) l = some (.lst ys) := by
        simp only [nlD, if_false]
        rw [upd_ne nlD, upd_same]
      have hys : RtAll K (fun b => if b = Dl then none else (upd (upd G l (.lst ys)) Dl (.lst (ws ++ [.ref l]))) b) ys xs := by
        have noD : ∀ {a xs}, SqT K G a xs → SqT K (fun b => if b = Dl then none else (upd (upd G l (.lst ys)) Dl (.lst (ws ++ [.ref l]))) b) a xs := fun {a xs} ht => by
          rcases ht with (ht | ⟨ob, ht⟩) | ht
          · have c1 : a ≠ Dl := ne_of ht hDl (fun z => by cases z)
            have c2 : a ≠ l := fun z => by rw [z, nl] at ht; cases ht
            exact .inl (.inl (by show (if a = Dl then none else _) = _; rw [if_neg c1, upd_ne c1, upd_ne c2]; exact ht))
          · have c1 : a ≠ Dl := ne_of ht hDl (fun z => by cases z)
            have c2 : a ≠ l := fun z => by rw [z, nl] at ht; cases ht
            exact .inl (.inr ⟨ob, by show (if a = Dl then none else _) = _; rw [if_neg c1, upd_ne c1, upd_ne c2]; exact ht⟩)
          · exact .inr ht
        exact hxs.sq noD
      rw [List.take_add_one, hx]
      exact (hR.mono ex2).snoc (SqL.of hlx) hys
  · rintro G ⟨ws, n1, x1, hDl, hl, hR⟩
    rw [hr.length, List.take_length] at hR
    refine q Dl ws G (fresh_back e1 n1) (e1.trans x1) hDl (hR.mono fun b o hb => ?_)
    by_cases c : b = Dl
    · simp [c] at hb
    · simpa [c] using hb⟩
end
end NF

namespace NF
open PySem PySem.Spec PyProof.Rows L2 Evl
theorem pi_listK {X : Cx} {K : PySem.W.Frag} {tg l : Expr} {tl : TE} (h : X.K = K) (hl : PE X l tl) : PI X tg l (iList K tl) := h ▸ pi_list hl
section
variable {K : PySem.W.Frag} {H H1 H2 : Hp} {σ : L2.St} {ta tb te tl : TE} {E : XK} {D : Ends} {tz : TS} {B : Nat}
theorem rt_map {v : Nat → V} {x : Nat → Rat} : ∀ {l : List Nat}, (∀ i ∈ l, Rt K H (v i) (x i)) → RtAll K H (l.map v) (l.map x)
  | [], _ => .nil
  | a :: l, h => .cons (h a (List.mem_cons_self ..)) (rt_map fun i hi => h i (List.mem_cons_of_mem _ hi))
theorem RtAll.exLst {st : Addr} {ys : List V} (e : Exs st H H1) (hs : H st = some (.lst ys)) {vs : List V} {xs : List Rat} (h : RtAll K H vs xs) : RtAll K H1 vs xs := h.sq fun {a xs} ht => by
  rcases ht with (ht | ⟨ob, ht⟩) | ht
  · exact .inl (.inl (e _ _ (ne_of ht hs (fun z => by cases z)) ht))
  · exact .inl (.inr ⟨ob, e _ _ (ne_of ht hs (fun z => by cases z)) ht⟩)
  · exact .inr ht
theorem RtAll.push : ∀ {vs : List V} {xs : List Rat} {v : V} {x : Rat}, RtAll K H vs xs → Rt K H v x → RtAll K H (vs ++ [v]) (xs ++ [x])
  | _, _, _, _, .nil, r => .cons r .nil
  | _, _, _, _, .cons h t, r => .cons h (RtAll.push t r)
/-- [fraction for w in a list] -/
theorem er_lcL {a : Addr} {ws : List V} {xs : List Rat} {j : Nat} {vs : List Nat} (h : Ev tl σ H (.ref a)) (ha : SqL K H a ws) (hl : ws.length = xs.length) (hz : ws.length ≤ 1000) (hw : ∀ x, wipe ((wipe σ vs).set j (some x)) vs = wipe σ vs)
    (he : ∀ (i : Nat) (w : V) (x : Rat) H1, Ex H H1 → ws[i]? = some w → xs[i]? = some x → EvF K te ((wipe σ vs).set j (some w)) H1 x) : EvR K (tLc (iList K tl) (gName j) tYes te vs) σ H xs := fun H0 e Q q => h H0 e _ fun H1 e1 => ⟨a, rfl, ⟨ws, ex_l (e.trans e1) ha⟩, fun Dl hD => by
  have E1 := e.trans e1
  refine lc_list (xs := ws) (fun i G => ∃ us, H1 Dl = none ∧ Ex H1 G ∧ G Dl = some (.lst us) ∧ us.length = i ∧ RtAll K G us (xs.take i)) ⟨[], hD, Ex.new hD, upd_same, rfl, .nil⟩ (fun i G _ p => p.elim fun us p => ex_l (E1.trans p.2.1) ha) ?_ ?_
  · rintro i w G hi ⟨us, n1, x1, hDl, hl1, hR⟩
    have hlt : i < ws.length := (List.getElem?_eq_some_iff.mp hi).1
    have hx : xs[i]? = some xs[i] := List.getElem?_eq_getElem (by omega)
    refine ⟨hw _, ?_⟩
    show te _ G _
    refine he i w xs[i] G (E1.trans x1) hi hx G (Ex.refl G) _ fun u G2 x2 ru => ?_
    have hD2 := x2 _ _ hDl
    refine ⟨us, hD2, Nat.lt_of_lt_of_le (show us.length < 1001 by omega) (by decide), us ++ [u], n1, fun b o hb => ?_, upd_same, by simp [hl1], ?_⟩
    · rw [upd_ne (ne_of_none hb n1)]
      exact (x1.trans x2) _ _ hb
    · rw [List.take_add_one, hx]
      exact ((hR.mono x2).push ru).exLst Exs.upd hD2
  · rintro G ⟨us, n1, x1, hDl, hl1, hR⟩
    rw [hl, List.take_length] at hR
    exact q Dl us G (fresh_back e1 n1) (e1.trans x1) hDl hR⟩
theorem ef_totR {xs : List Rat} (h : EvR K tl σ H xs) (hs : ∀ x ∈ xs, Sz B x) (hB : (xs.length + 2) * (B + 1) ≤ 4000) (h0 : 0 < B) : EvF K (tCall (spTot K) [.non] E (tCons tl tNil)) σ H (sumF 0 xs) := fun H1 e Q q =>
  h H1 e _ fun p us H2 _ e2 hp hx => ⟨p, us, xs, .non, 0, B, rfl, SqL.of hp, hx, .inl ⟨rfl, rfl⟩, ⟨Nat.pow_pos (by decide), by show 1 < 2 ^ B; exact Nat.one_lt_two_pow (by omega)⟩, hs, hB, fun u H' e3 r => q u H' (e2.trans e3) r⟩
/-- an item of a list of fractions, of a row of rows -/
theorem ef_at {a : Addr} {us : List V} {xs : List Rat} {x : Rat} {j : Nat} (h1 : Ev ta σ H (.ref a)) (h2 : Ev tb σ H (.int (j : Int))) (ha : SqL K H a us) (hr : RtAll K H us xs) (hj : xs[j]? = some x) : EvF K (tOp (rIxL K) ta tb) σ H x := fun H1 e Q q =>
  h1 H1 e _ fun H2 e2 => h2 H2 (e.trans e2) _ fun H3 e3 => by
    have E3 := (e.trans e2).trans e3
    have hl : j < us.length := by
      rw [hr.length]
      exact (List.getElem?_eq_some_iff.mp hj).1
    obtain ⟨x', e1, r1⟩ := hr.get (List.getElem?_eq_getElem hl)
    rw [hj] at e1
    cases e1
    exact ⟨a, us, j, us[j], rfl, rfl, ex_l E3 ha, atI_nat (List.getElem?_eq_getElem hl), q _ H3 (e2.trans e3) (r1.mono E3)⟩
theorem ev_row {a : Addr} {us : List V} {xss : List (List Rat)} {xs : List Rat} {j : Nat} (h1 : Ev ta σ H (.ref a)) (h2 : Ev tb σ H (.int (j : Int))) (ha : SqL K H a us) (hr : Rows K H us xss) (hj : xss[j]? = some xs) : ∃ p ws, Ev (tOp (rIxL K) ta tb) σ H (.ref p) ∧ SqL K H p ws ∧ RtAll K H ws xs := by
  have hl : j < us.length := by
    rw [hr.length]
    exact (List.getElem?_eq_some_iff.mp hj).1
  obtain ⟨p, ws, xs', e1, e2, h3, h4⟩ := hr.get (List.getElem?_eq_getElem hl)
  rw [hj] at e2
  cases e2
  exact ⟨p, ws, ev_op h1 h2 (rv_ixL ha (atI_nat (by rw [List.getElem?_eq_getElem hl, e1]))), h3, h4⟩
end
/-! ### a step of a machine -/
def dot (xss : List (List Rat)) (cs : List Rat) (to : Nat) : Rat := sumF 0 ((List.range xss.length).map fun r => cs.getD r 0 * (xss.getD r []).getD to 0)
def step1 (xss : List (List Rat)) (cs : List Rat) : List Rat := (List.range xss.length).map (dot xss cs)
def unit (n r : Nat) : List Rat := (List.range n).map fun i => if i = r then 1 else 0
def walk (xss : List (List Rat)) (r : Nat) : Nat → List Rat
  | 0 => unit xss.length r
  | k + 1 => step1 xss (walk xss r k)
theorem walk_len (xss : List (List Rat)) (r k : Nat) : (walk xss r k).length = xss.length := by
  cases k with
  | zero => simp [walk, unit]
  | succ k => simp [walk, step1]
def spStand (K : PySem.W.Frag) : Sp := fun vs H Q _ => ∃ n r : Nat, vs = [.int (n : Int), .int (r : Int)] ∧ n ≤ 6 ∧ ∀ p us H', H p = none → Ex H H' → H' p = some (.lst us) → RtAll K H' us (unit n r) → Q (.ref p) H'
def spStep (K : PySem.W.Frag) : Sp := fun vs H Q _ => ∃ (a b : Addr) (us ws : List V) (xss : List (List Rat)) (cs : List Rat), vs = [.ref a, .ref b] ∧ SqL K H a us ∧ Rows K H us xss ∧ SqL K H b ws ∧ RtAll K H ws cs ∧ xss.length ≤ 6 ∧ cs.length = xss.length ∧ (∀ xs ∈ xss, Shs xs xss.length) ∧ (∀ c ∈ cs, Sz 245 c) ∧
  ∀ p us' H', H p = none → Ex H H' → H' p = some (.lst us') → RtAll K H' us' (step1 xss cs) → Q (.ref p) H'
end NF

namespace NF
open PySem PySem.Spec PyProof.Rows L2 Evl
/-! ### the other laws' state: a list of two ints -/
def Bg (st : Addr) (H : Hp) : Prop := ∃ g m : Int, H st = some (.lst [.int g, .int m])
theorem Bg.mono {st : Addr} {H H1 : Hp} (e : Ex H H1) (h : Bg st H) : Bg st H1 := by
  obtain ⟨g, m, h⟩ := h
  exact ⟨g, m, e _ _ h⟩
def ExS (st : Addr) (H H' : Hp) : Prop := ∀ b o, b ≠ st → H b = some o → H' b = some o
theorem ExS.refl (st : Addr) (H : Hp) : ExS st H H := fun _ _ _ h => h
theorem ExS.trans {st : Addr} {H H1 H2 : Hp} (a : ExS st H H1) (b : ExS st H1 H2) : ExS st H H2 := fun c o n h => b c o n (a c o n h)
theorem ExS.of {st : Addr} {H H1 : Hp} (e : Ex H H1) : ExS st H H1 := fun c o _ h => e c o h
theorem ExS.upd {st : Addr} {H : Hp} {o : HO} : ExS st H (upd H st o) := fun c u n h => by rw [upd_ne n]; exact h
theorem ExS.ex {st : Addr} {H H1 : Hp} (h : H st = none) (e : ExS st H H1) : Ex H H1 := fun b o hb => e b o (ne_of_none hb h) hb
theorem ExS.tup {K : PySem.W.Frag} {st a : Addr} {H H1 : Hp} {xs : List V} (e : ExS st H H1) (hs : Bg st H) (h : SqT K H a xs) : SqT K H1 a xs := by
  obtain ⟨g, m, hs⟩ := hs
  rcases h with (h | ⟨o, h⟩) | h
  · exact .inl (.inl (e _ _ (ne_of h hs (fun z => by cases z)) h))
  · exact .inl (.inr ⟨o, e _ _ (ne_of h hs (fun z => by cases z)) h⟩)
  · exact .inr h
theorem Rt.exS {K : PySem.W.Frag} {st : Addr} {H H1 : Hp} {v : V} {x : Rat} (r : Rt K H v x) (e : ExS st H H1) (hs : Bg st H) : Rt K H1 v x := by
  obtain ⟨p, e1, h⟩ := r
  exact ⟨p, e1, e.tup hs h⟩
theorem RtAll.exS {K : PySem.W.Frag} {st : Addr} {H H1 : Hp} {vs : List V} {xs : List Rat} (h : RtAll K H vs xs) (e : ExS st H H1) (hs : Bg st H) : RtAll K H1 vs xs := h.sq fun ht => e.tup hs ht
def spBag (K : PySem.W.Frag) : Sp := fun vs H Q _ => ∃ (a : Addr) (ns : List Int) (k : Nat), vs = [.ref a, .int (k : Int)] ∧ SqL K H a (ns.map V.int) ∧ ns.length ≤ 1000 ∧ k ≤ 1000 ∧ ∀ st H', H st = none → Ex H H' → Bg st H' → Q (.ref st) H'
def spOut : Sp := fun vs H Q _ => ∃ (st : Addr) (many : Int), vs = [.ref st, .int many] ∧ Bg st H ∧ 0 < many ∧ many < 2 ^ 60 ∧ ∀ d H', 0 ≤ d → d < many → Bg st H' → ExS st H H' → Q (.int d) H'
def spLow (K : PySem.W.Frag) : Sp := fun vs H Q _ => ∃ (a b : Int) (B : Nat), vs = [.int a, .int b] ∧ 0 < b ∧ a.natAbs < 2 ^ B ∧ b.natAbs < 2 ^ B ∧ 0 < B ∧ B ≤ 9000 ∧ ∀ v H', Ex H H' → Rt K H' v (Rat.divInt a b) → Q v H'
section
variable {K : PySem.W.Frag} {H H1 H2 : Hp} {σ : L2.St} {ta tb te tl : TE} {E : XK} {D : Ends} {tz : TS} {B : Nat} {st : Addr}
theorem ef_low {a b : Int} (ha : Ev ta σ H (.int a)) (hb : Ev tb σ H (.int b)) (hn : 0 < b) (ba : a.natAbs < 2 ^ B) (bb : b.natAbs < 2 ^ B) (h0 : 0 < B) (h4 : B ≤ 9000) : EvF K (tCall (spLow K) [] E (tCons ta (tCons tb tNil))) σ H (Rat.divInt a b) := fun H1 e Q q =>
  ha H1 e _ fun H2 e2 => hb H2 (e.trans e2) _ fun H3 e3 => ⟨a, b, B, rfl, hn, ba, bb, h0, h4, fun u H' e4 ru => q u H' ((e2.trans e3).trans e4) ru⟩
theorem out_ev {i : Nat} {Q : VK} (many : Int) (h1 : σ[i]? = some (some (.ref st))) (hb : Ev tb σ H (.int many)) (hs : Bg st H) (h0 : 0 < many) (hm : many < 2 ^ 60) (q : ∀ d H', 0 ≤ d → d < many → Bg st H' → ExS st H H' → Q (.int d) H') : tCall spOut [] E (tCons (tVar i) (tCons tb tNil)) σ H Q :=
  ⟨_, h1, hb H (Ex.refl H) _ fun H1 e => ⟨st, many, rfl, hs.mono e, h0, hm, fun d H' a b c x => q d H' a b c ((ExS.of e).trans x)⟩⟩
end
end NF

namespace NF
/-! ### whole numbers of Nths -/
def Ml (N : Nat) (x : Rat) : Prop := ∃ t : Int, x * (N : Rat) = (t : Rat)
theorem Ml.add {N : Nat} {x y : Rat} (h : Ml N x) (g : Ml N y) : Ml N (x + y) := by
  obtain ⟨s, hs⟩ := h
  obtain ⟨t, ht⟩ := g
  exact ⟨s + t, by rw [Rat.add_mul, hs, ht, Rat.intCast_add]⟩
theorem Ml.mul {M N : Nat} {x y : Rat} (h : Ml M x) (g : Ml N y) : Ml (M * N) (x * y) := by
  obtain ⟨s, hs⟩ := h
  obtain ⟨t, ht⟩ := g
  refine ⟨s * t, ?_⟩
  rw [Rat.intCast_mul, ← hs, ← ht, Rat.natCast_mul]
  grind
theorem Ml.zero {N : Nat} : Ml N 0 := ⟨0, by simp⟩
theorem Ml.one {N : Nat} : Ml N 1 := ⟨(N : Int), by rw [Rat.one_mul]; rfl⟩
theorem Ml.up {M N : Nat} {x : Rat} (h : Ml M x) (d : M ∣ N) : Ml N x := by
  obtain ⟨s, hs⟩ := h
  obtain ⟨k, rfl⟩ := d
  refine ⟨s * k, ?_⟩
  rw [Rat.intCast_mul, ← hs, Rat.natCast_mul]
  have e : ((k : Int) : Rat) = (k : Rat) := rfl
  grind
theorem div_eq (t : Int) {b : Nat} (hb : 0 < b) : Rat.divInt t b * (b : Rat) = (t : Rat) := by
  have hb' : (b : Rat) ≠ 0 := by
    intro z
    have : b = 0 := by exact_mod_cast z
    omega
  rw [Rat.divInt_eq_div]
  have e : ((b : Int) : Rat) = (b : Rat) := rfl
  rw [e]
  grind
theorem ml_div (t : Int) {b : Nat} (hb : 0 < b) : Ml b (Rat.divInt t b) := ⟨t, div_eq t hb⟩
theorem Ml.eq {N : Nat} {x : Rat} (h : Ml N x) (hN : 0 < N) : ∃ t : Int, x = Rat.divInt t N := by
  obtain ⟨t, ht⟩ := h
  refine ⟨t, ?_⟩
  have h2 := div_eq t hN
  have hb' : (N : Rat) ≠ 0 := by
    intro z
    have : N = 0 := by exact_mod_cast z
    omega
  grind
theorem den_le {t : Int} {N : Nat} (hN : 0 < N) : (Rat.divInt t N).den ≤ N := by
  rw [Rat.den_divInt, if_neg (by omega)]
  exact Nat.le_trans (Nat.div_le_self ..) (by omega)
theorem num01 {x : Rat} (h0 : 0 ≤ x) (h1 : x ≤ 1) : 0 ≤ x.num ∧ x.num ≤ x.den := by
  constructor
  · exact Rat.num_nonneg.mpr h0
  · have h := (not_congr (lt_rt 1 x)).mp (by grind)
    have e1 : (1 : Rat).num = 1 := rfl
    have e2 : (1 : Rat).den = 1 := rfl
    rw [e1, e2] at h
    omega
theorem of01 {x : Rat} (h0 : 0 ≤ x.num) (h1 : x.num ≤ x.den) : 0 ≤ x ∧ x ≤ 1 := by
  constructor
  · exact Rat.num_nonneg.mp h0
  · have h := (not_congr (lt_rt 1 x)).mpr (by
      have e1 : (1 : Rat).num = 1 := rfl
      have e2 : (1 : Rat).den = 1 := rfl
      rw [e1, e2]
      omega)
    grind
theorem Ml.sz {N B : Nat} {x : Rat} (h : Ml N x) (hN : 0 < N) (h0 : 0 ≤ x) (h1 : x ≤ 1) (hb : N < 2 ^ B) : Sz B x := by
  obtain ⟨t, rfl⟩ := h.eq hN
  have hd := den_le (t := t) hN
  obtain ⟨a, b⟩ := num01 h0 h1
  constructor <;> omega
/-! ### sums -/
theorem sumF_snoc (x0 : Rat) (xs : List Rat) (x : Rat) : sumF x0 (xs ++ [x]) = sumF x0 xs + x := by simp [sumF]
theorem sumF_shift (f : Rat) : ∀ (x0 : Rat) (xs : List Rat), sumF (x0 + f) xs = sumF x0 xs + f
  | _, [] => rfl
  | x0, x :: xs => by
    show sumF (x0 + f + x) xs = sumF (x0 + x) xs + f
    rw [show x0 + f + x = x0 + x + f by grind]
    exact sumF_shift f (x0 + x) xs
theorem sumF_first (f : Rat) (xs : List Rat) : sumF f xs = sumF 0 xs + f := by
  rw [← sumF_shift, show (0 : Rat) + f = f by grind]
theorem sumF_cons (x : Rat) (xs : List Rat) : sumF 0 (x :: xs) = x + sumF 0 xs := by
  show sumF (0 + x) xs = _
  rw [sumF_first]
  grind
theorem sumF_app : ∀ (xs ys : List Rat), sumF 0 (xs ++ ys) = sumF 0 xs + sumF 0 ys
  | [], ys => by show sumF 0 ys = 0 + _; grind
  | x :: xs, ys => by
    rw [List.cons_append, sumF_cons, sumF_cons, sumF_app xs ys]
    grind
theorem sumF_rot (xs : List Rat) (k : Nat) : sumF 0 (xs.drop k ++ xs.take k) = sumF 0 xs := by
  rw [sumF_app]
  have h := sumF_app (xs.take k) (xs.drop k)
  rw [List.take_append_drop] at h
  grind
theorem ml_sum {N : Nat} : ∀ {xs : List Rat}, (∀ x ∈ xs, Ml N x) → Ml N (sumF 0 xs)
  | [], _ => Ml.zero
  | x :: xs, h => by
    rw [sumF_cons]
    exact (h x (List.mem_cons_self ..)).add (ml_sum fun y hy => h y (List.mem_cons_of_mem _ hy))
theorem sum_nn : ∀ {xs : List Rat}, (∀ x ∈ xs, 0 ≤ x) → 0 ≤ sumF 0 xs
  | [], _ => by decide
  | x :: xs, h => by
    rw [sumF_cons]
    have h1 := h x (List.mem_cons_self ..)
    have h2 := sum_nn fun y hy => h y (List.mem_cons_of_mem x hy)
    grind
theorem le_sum : ∀ {xs : List Rat}, (∀ x ∈ xs, 0 ≤ x) → ∀ x ∈ xs, x ≤ sumF 0 xs
  | [], _, _, hx => by cases hx
  | y :: ys, h, x, hx => by
    rw [sumF_cons]
    have h1 := h y (List.mem_cons_self ..)
    have h2 := sum_nn fun z hz => h z (List.mem_cons_of_mem y hz)
    rcases List.mem_cons.mp hx with rfl | hx
    · grind
    · have h3 := le_sum (fun z hz => h z (List.mem_cons_of_mem y hz)) x hx
      grind
/-- the sum of f 0 .. f (n - 1) -/
def Su (n : Nat) (f : Nat → Rat) : Rat := sumF 0 ((List.range n).map f)
theorem su_succ (n : Nat) (f : Nat → Rat) : Su (n + 1) f = Su n f + f n := by
  unfold Su
  rw [List.range_succ, List.map_append]
  exact sumF_snoc ..
theorem su_zero (f : Nat → Rat) : Su 0 f = 0 := rfl
theorem su_add (f g : Nat → Rat) : ∀ n, Su n (fun i => f i + g i) = Su n f + Su n g
  | 0 => by simp [su_zero]; grind
  | n + 1 => by
    rw [su_succ, su_succ, su_succ, su_add f g n]
    grind
theorem su_mul (c : Rat) (f : Nat → Rat) : ∀ n, Su n (fun i => c * f i) = c * Su n f
  | 0 => by simp [su_zero]
  | n + 1 => by
    rw [su_succ, su_succ, su_mul c f n]
    grind
theorem su_swap (f : Nat → Nat → Rat) (n : Nat) : ∀ m, Su n (fun j => Su m fun i => f i j) = Su m fun i => Su n fun j => f i j
  | 0 => by
    simp only [su_zero]
    have : ∀ n, Su n (fun _ => (0 : Rat)) = 0 := fun n => by
      induction n with
      | zero => rfl
      | succ n ih => rw [su_succ, ih]; grind
    exact this n
  | m + 1 => by
    simp only [su_succ]
    rw [su_add (fun j => Su m fun i => f i j) (fun j => f m j) n, su_swap f n m]
theorem su_congr {f g : Nat → Rat} : ∀ {n : Nat}, (∀ i, i < n → f i = g i) → Su n f = Su n g
  | 0, _ => rfl
  | n + 1, h => by
    rw [su_succ, su_succ, h n (by omega), su_congr fun i hi => h i (by omega)]
theorem su_list (xs : List Rat) : sumF 0 xs = Su xs.length fun i => xs.getD i 0 := by
  unfold Su
  congr 1
  apply List.ext_getElem?
  intro i
  by_cases h : i < xs.length
  · simp [h]
  · simp [h]
/-! ### the chances of a walk -/
theorem Shr.le {x : Rat} (h : Shr x) : 0 ≤ x ∧ x ≤ 1 := of01 h.1 h.2.1
theorem step_sum {xss : List (List Rat)} {cs : List Rat} (hl : cs.length = xss.length) (hs : ∀ xs ∈ xss, Shs xs xss.length) : sumF 0 (step1 xss cs) = sumF 0 cs := by
  show Su xss.length (fun to => Su xss.length fun r => cs.getD r 0 * (xss.getD r []).getD to 0) = _
  rw [su_swap (fun r to => cs.getD r 0 * (xss.getD r []).getD to 0), su_list cs, hl]
  refine su_congr fun r hr => ?_
  rw [su_mul]
  have hx : xss.getD r [] ∈ xss := by
    rw [List.getD_eq_getElem?_getD, List.getElem?_eq_getElem hr]
    exact List.getElem_mem hr
  obtain ⟨h1, _, h3⟩ := hs _ hx
  rw [su_list, h1] at h3
  rw [h3]
  grind
theorem getD_ok {P : Rat → Prop} {xs : List Rat} (h0 : P 0) (h : ∀ x ∈ xs, P x) (i : Nat) : P (xs.getD i 0) := by
  rw [List.getD_eq_getElem?_getD]
  by_cases hi : i < xs.length
  · rw [List.getElem?_eq_getElem hi]
    exact h _ (List.getElem_mem hi)
  · rw [List.getElem?_eq_none (by omega)]
    exact h0
theorem getD_row {P : Rat → Prop} {xss : List (List Rat)} (h0 : P 0) (h : ∀ xs ∈ xss, ∀ x ∈ xs, P x) (r i : Nat) : P ((xss.getD r []).getD i 0) := by
  rw [List.getD_eq_getElem?_getD (l := xss)]
  by_cases hi : r < xss.length
  · rw [List.getElem?_eq_getElem hi]
    exact getD_ok h0 (h _ (List.getElem_mem hi)) i
  · rw [List.getElem?_eq_none (by omega)]
    simpa using h0
theorem walk_ok {xss : List (List Rat)} {N r : Nat} (hs : ∀ xs ∈ xss, Shs xs xss.length) (hm : ∀ xs ∈ xss, ∀ x ∈ xs, Ml N x) (hr : r < xss.length) : ∀ k, sumF 0 (walk xss r k) = 1 ∧ ∀ c ∈ walk xss r k, 0 ≤ c ∧ c ≤ 1 ∧ Ml (N ^ k) c
  | 0 => by
    have e : sumF 0 (walk xss r 0) = 1 := by
      show Su xss.length (fun i => if i = r then 1 else 0) = 1
      have : ∀ n, Su n (fun i => if i = r then (1 : Rat) else 0) = if r < n then 1 else 0 := fun n => by
        induction n with
        | zero => rfl
        | succ n ih =>
          rw [su_succ, ih]
          by_cases h1 : r < n
          · rw [if_pos h1, if_neg (show n ≠ r by omega), if_pos (by omega)]
            grind
          · rw [if_neg h1]
            by_cases h2 : n = r
            · rw [if_pos h2, if_pos (by omega)]
              grind
            · rw [if_neg h2, if_neg (by omega)]
              grind
      rw [this, if_pos hr]
    refine ⟨e, fun c hc => ?_⟩
    obtain ⟨i, _, rfl⟩ := List.mem_map.mp hc
    split
    · exact ⟨by decide, by decide, Ml.one⟩
    · exact ⟨by decide, by decide, Ml.zero⟩
  | k + 1 => by
    obtain ⟨e, h⟩ := walk_ok hs hm hr k
    have e1 : sumF 0 (walk xss r (k + 1)) = 1 := by
      show sumF 0 (step1 xss (walk xss r k)) = 1
      rw [step_sum (walk_len xss r k) hs, e]
    have c0 : ∀ i, 0 ≤ (walk xss r k).getD i 0 := getD_ok (P := fun c => 0 ≤ c) (by decide) fun c hc => (h c hc).1
    have cm : ∀ i, Ml (N ^ k) ((walk xss r k).getD i 0) := getD_ok Ml.zero fun c hc => (h c hc).2.2
    have s0 : ∀ i j, 0 ≤ (xss.getD i []).getD j 0 := getD_row (P := fun c => 0 ≤ c) (by decide) fun xs hx x h => ((hs xs hx).2.1 x h).le.1
    have sm : ∀ i j, Ml N ((xss.getD i []).getD j 0) := getD_row Ml.zero hm
    have nn : ∀ c ∈ walk xss r (k + 1), 0 ≤ c := by
      intro c hc
      obtain ⟨to, _, rfl⟩ := List.mem_map.mp hc
      refine sum_nn fun x hx => ?_
      obtain ⟨i, _, rfl⟩ := List.mem_map.mp hx
      exact Rat.mul_nonneg (c0 i) (s0 i to)
    refine ⟨e1, fun c hc => ⟨nn c hc, ?_, ?_⟩⟩
    · have := le_sum nn c hc
      rw [e1] at this
      exact this
    · obtain ⟨to, _, rfl⟩ := List.mem_map.mp hc
      refine ml_sum fun x hx => ?_
      obtain ⟨i, _, rfl⟩ := List.mem_map.mp hx
      rw [Nat.pow_succ]
      exact (cm i).mul (sm i to)
/-- a bottom for all rows: those of rows multiplied -/
theorem rows_ml {b : Nat} : ∀ {xss : List (List Rat)}, (∀ xs ∈ xss, ∃ d : Nat, 0 < d ∧ d ≤ b ∧ ∀ x ∈ xs, Ml d x) → ∃ N : Nat, 0 < N ∧ N ≤ b ^ xss.length ∧ ∀ xs ∈ xss, ∀ x ∈ xs, Ml N x
  | [], _ => ⟨1, by decide, Nat.le_refl _, nofun⟩
  | xs :: xss, h => by
    obtain ⟨d, d0, db, hd⟩ := h xs (List.mem_cons_self ..)
    obtain ⟨N, n0, nb, hN⟩ := rows_ml fun ys hy => h ys (List.mem_cons_of_mem _ hy)
    refine ⟨d * N, Nat.mul_pos d0 n0, ?_, fun ys hy => ?_⟩
    · rw [List.length_cons, Nat.pow_succ, Nat.mul_comm]
      exact Nat.mul_le_mul nb db
    · rcases List.mem_cons.mp hy with rfl | hy
      · exact fun x hx => (hd x hx).up ⟨N, rfl⟩
      · exact fun x hx => (hN ys hy x hx).up ⟨d, Nat.mul_comm ..⟩
theorem small_ml {x : Rat} {d : Nat} (h0 : 0 < d) (h : d ≤ 12) (hx : Ml d x) : Ml 27720 x := by
  refine hx.up ?_
  have : d = 1 ∨ d = 2 ∨ d = 3 ∨ d = 4 ∨ d = 5 ∨ d = 6 ∨ d = 7 ∨ d = 8 ∨ d = 9 ∨ d = 10 ∨ d = 11 ∨ d = 12 := by omega
  rcases this with rfl | rfl | rfl | rfl | rfl | rfl | rfl | rfl | rfl | rfl | rfl | rfl <;> decide
/-- the machines that the laws draw: their bottoms are small, or there are few steps -/
def Bot (b : Nat) (xss : List (List Rat)) : Prop := ∀ xs ∈ xss, ∃ d : Nat, 0 < d ∧ d ≤ b ∧ ∀ x ∈ xs, Ml d x
theorem walk_small {xss : List (List Rat)} {r k : Nat} (hs : ∀ xs ∈ xss, Shs xs xss.length) (hb : Bot 12 xss) (hr : r < xss.length) (hk : k ≤ 12) : ∀ c ∈ walk xss r k, Sz 245 c := by
  have hm : ∀ xs ∈ xss, ∀ x ∈ xs, Ml 27720 x := fun xs hx x h => by
    obtain ⟨d, d0, db, hd⟩ := hb xs hx
    exact small_ml d0 db (hd x h)
  intro c hc
  obtain ⟨h0, h1, h2⟩ := (walk_ok hs hm hr k).2 c hc
  refine h2.sz (Nat.pow_pos (by decide)) h0 h1 ?_
  exact Nat.lt_of_le_of_lt (Nat.pow_le_pow_right (by decide) hk) (by decide)
theorem walk_great {xss : List (List Rat)} {r k : Nat} (hs : ∀ xs ∈ xss, Shs xs xss.length) (hb : Bot 999 xss) (h6 : xss.length ≤ 6) (hr : r < xss.length) (hk : k ≤ 4) : ∀ c ∈ walk xss r k, Sz 245 c := by
  obtain ⟨N, n0, nb, hN⟩ := rows_ml hb
  intro c hc
  obtain ⟨h0, h1, h2⟩ := (walk_ok hs hN hr k).2 c hc
  refine h2.sz (Nat.pow_pos n0) h0 h1 ?_
  have a1 : N ≤ 999 ^ 6 := Nat.le_trans nb (Nat.pow_le_pow_right (by decide) h6)
  exact Nat.lt_of_le_of_lt (Nat.le_trans (Nat.pow_le_pow_left a1 k) (Nat.pow_le_pow_right (by decide) hk)) (by decide)
/-- behind one step: the room's shares -/
theorem walk_one {xss : List (List Rat)} {r : Nat} {xs : List Rat} (hx : xss[r]? = some xs) (hs : ∀ xs ∈ xss, Shs xs xss.length) : walk xss r 1 = xs := by
  obtain ⟨hr, e⟩ := List.getElem?_eq_some_iff.mp hx
  have hl : xs.length = xss.length := (hs xs (e ▸ List.getElem_mem hr)).1
  show (List.range xss.length).map (dot xss (unit xss.length r)) = xs
  have hd : ∀ to, dot xss (unit xss.length r) to = xs.getD to 0 := fun to => by
    show Su xss.length (fun i => (unit xss.length r).getD i 0 * (xss.getD i []).getD to 0) = _
    have e1 : Su xss.length (fun i => (unit xss.length r).getD i 0 * (xss.getD i []).getD to 0) = Su xss.length (fun i => if i = r then xs.getD to 0 else 0) := su_congr fun i hi => by
      have : (unit xss.length r).getD i 0 = if i = r then 1 else 0 := by
        unfold unit
        simp [List.getD_eq_getElem?_getD, hi]
      rw [this]
      by_cases c : i = r
      · subst c
        rw [if_pos rfl, if_pos rfl, List.getD_eq_getElem?_getD (l := xss), hx]
        grind
      · rw [if_neg c, if_neg c]
        grind
    rw [e1]
    have : ∀ n, Su n (fun i => if i = r then xs.getD to 0 else 0) = if r < n then xs.getD to 0 else 0 := fun n => by
      induction n with
      | zero => rfl
      | succ n ih =>
        rw [su_succ, ih]
        by_cases h1 : r < n
        · rw [if_pos h1, if_neg (show n ≠ r by omega), if_pos (by omega)]
          grind
        · rw [if_neg h1]
          by_cases h2 : n = r
          · rw [if_pos h2, if_pos (by omega)]
            grind
          · rw [if_neg h2, if_neg (by omega)]
            grind
    rw [this, if_pos hr]
  rw [← hl]
  apply List.ext_getElem?
  intro i
  by_cases h : i < xs.length
  · rw [List.getElem?_map, List.getElem?_range h, Option.map_some, hl, hd, List.getD_eq_getElem?_getD, List.getElem?_eq_getElem h]
    rfl
  · rw [List.getElem?_eq_none (by simpa using h), List.getElem?_eq_none (by omega)]
end NF

namespace NF
open PySem PySem.Spec PyProof.Rows L2 Evl
/-! ### "".join of signs -/
theorem foldl_cps : ∀ (cs : List Nat) (acc : Array Nat), ((cs.map fun c => (⟨#[c]⟩ : Str)).foldl (fun (acc : Array Nat) p => acc ++ (Str.ofString "").cps ++ p.cps) acc).toList = acc.toList ++ cs
  | [], acc => by simp
  | c :: cs, acc => by
    rw [List.map_cons, List.foldl_cons, foldl_cps cs]
    have : (Str.ofString "").cps = #[] := by decide +kernel
    simp [this]
theorem glue_cps (cs : List Nat) : (Txt.join (Str.ofString "") (cs.map fun c => ⟨#[c]⟩)).cps.toList = cs := by
  cases cs with
  | nil => rfl
  | cons c cs =>
    show ((cs.map fun c => (⟨#[c]⟩ : Str)).foldl (fun (acc : Array Nat) p => acc ++ (Str.ofString "").cps ++ p.cps) #[c]).toList = _
    rw [foldl_cps]
    rfl
theorem mk_glue {cs : List Nat} (h1 : 1 ≤ cs.length) (h4 : cs.length ≤ 4) (hc : ∀ c ∈ cs, 97 ≤ c ∧ c ≤ 122) : NF.Mk (Txt.join (Str.ofString "") (cs.map fun c => ⟨#[c]⟩)) := by
  have e := glue_cps cs
  have el : (Txt.join (Str.ofString "") (cs.map fun c => ⟨#[c]⟩)).cps.size = cs.length := by
    rw [← Array.length_toList, e]
  exact ⟨by omega, by omega, by rw [e]; exact hc⟩
/-! ### raw steps -/
section
variable {K : PySem.W.Frag} {H H1 H2 : Hp} {σ : L2.St} {ta tb te tl : TE} {v w u : V} {x y : Rat} {E : XK} {D : Ends} {tz t1 t2 : TS} {tc : TT} {tA : TA} {Q : VK} {l st : Addr} {xs ys : List V}
theorem q_raw {i : Nat} (h : te σ H fun x H1 => tz D (σ.set i (some x)) H1) : tSeq (tAsg te (gName i)) tz D σ H := h
theorem s_raw (h : te σ H D.rt) : tRet te D σ H := h
theorem a_raw {i : Nat} (h : te σ H fun x H1 => D.nx (σ.set i (some x)) H1) : tAsg te (gName i) D σ H := h
theorem op_raw {r : R2} (h : ta σ H fun x H1 => tb σ H1 fun y H2 => r x y H2 Q) : tOp r ta tb σ H Q := h
theorem call_raw {sp : Sp} {dvs : List V} (h : tA σ H fun vs H1 => sp (vs ++ dvs) H1 Q E) : tCall sp dvs E tA σ H Q := h
theorem cons_raw {Q : List V → Hp → Prop} (h : ta σ H fun x H1 => tA σ H1 fun xs H2 => Q (x :: xs) H2) : tCons ta tA σ H Q := h
theorem nil_raw {Q : List V → Hp → Prop} (h : Q [] H) : tNil σ H Q := h
theorem c_raw (h : Q v H) : tC v σ H Q := h
theorem v_raw {i : Nat} (e : σ[i]? = some (some v)) (h : Q v H) : tVar i σ H Q := ⟨v, e, h⟩
theorem cb_raw {r : List V → Hp → VK → Prop} (h : tA σ H fun vs H1 => r vs H1 Q) : tCB r tA σ H Q := h
theorem lst_raw (h : tA σ H fun xs H1 => xs.length ≤ sizeLine ∧ ∀ p, H1 p = none → Q (.ref p) (upd H1 p (.lst xs))) : tLst tA σ H Q := h
theorem if_raw (h : tc σ H fun b H1 => if b = true then t1 { D with nx := tz D } σ H1 else t2 { D with nx := tz D } σ H1) : tSeq (tIfS tc t1 t2) tz D σ H := h
theorem test_raw {Q : Bool → Hp → Prop} (h : te σ H fun x H' => ∃ k, x = .bl k ∧ Q k H') : tTest te σ H Q := h
theorem not_raw {Q : Bool → Hp → Prop} (h : tc σ H fun b H1 => Q (!b) H1) : tNot tc σ H Q := h
theorem app_eq {Q : Hp → Prop} : (fun (y : V) (H2 : Hp) => rAppend (.ref l) [y] H2 fun _ H3 => Q H3) = fun y H2 => ∃ xs, H2 l = some (.lst xs) ∧ xs.length < sizeLine ∧ Q (upd H2 l (.lst (xs ++ [y]))) := by
  funext y H2
  apply propext
  constructor
  · rintro ⟨l', xs, y', e1, e2, h1, h2, h3⟩
    cases e1
    cases e2
    exact ⟨xs, h1, h2, h3⟩
  · rintro ⟨xs, h1, h2, h3⟩
    exact ⟨l, xs, y, rfl, rfl, h1, h2, h3⟩
theorem qapp_raw {i : Nat} (e : σ[i]? = some (some (.ref l))) (hl : H l = some (.lst xs)) (h : te σ H fun y H2 => ∃ xs, H2 l = some (.lst xs) ∧ xs.length < sizeLine ∧ tz D σ (upd H2 l (.lst (xs ++ [y])))) : tSeq (tDrop (tBM K "list" rAppend (tVar i) (tCons te tNil))) tz D σ H := by
  refine ⟨_, e, .inl ⟨rfl, xs, SqL.of hl⟩, ?_⟩
  show te σ H fun y H2 => rAppend (.ref l) [y] H2 fun _ H3 => tz D σ H3
  rw [app_eq]
  exact h
theorem sapp_raw {i : Nat} (e : σ[i]? = some (some (.ref l))) (hl : H l = some (.lst xs)) (h : te σ H fun y H2 => ∃ xs, H2 l = some (.lst xs) ∧ xs.length < sizeLine ∧ D.nx σ (upd H2 l (.lst (xs ++ [y])))) : tDrop (tBM K "list" rAppend (tVar i) (tCons te tNil)) D σ H :=
  qapp_raw (K := K) (tz := fun D => D.nx) (D := D) e hl h
theorem sz_lt' {n : Nat} (h : n < 100000) : n < sizeLine := Nat.lt_of_lt_of_le h (by decide)
theorem q_appF {i : Nat} (e : σ[i]? = some (some (.ref l))) (hl : H l = some (.lst xs)) (h : EvF K te σ H x) (hx : xs.length < 100000) (k : ∀ u H1, Ex H H1 → Rt K H1 u x → tz D σ (upd H1 l (.lst (xs ++ [u])))) : tSeq (tDrop (tBM K "list" rAppend (tVar i) (tCons te tNil))) tz D σ H :=
  qapp_raw e hl (h H (Ex.refl H) _ fun u H1 e1 r => ⟨xs, e1 _ _ hl, sz_lt' hx, k u H1 e1 r⟩)
theorem s_appF {i : Nat} (e : σ[i]? = some (some (.ref l))) (hl : H l = some (.lst xs)) (h : EvF K te σ H x) (hx : xs.length < 100000) (k : ∀ u H1, Ex H H1 → Rt K H1 u x → D.nx σ (upd H1 l (.lst (xs ++ [u])))) : tDrop (tBM K "list" rAppend (tVar i) (tCons te tNil)) D σ H :=
  sapp_raw e hl (h H (Ex.refl H) _ fun u H1 e1 r => ⟨xs, e1 _ _ hl, sz_lt' hx, k u H1 e1 r⟩)
theorem el_cat (ha : EvL ta σ H xs) (hb : EvL tb σ H ys) (hl : xs.length + ys.length ≤ 100000) : EvL (tOp rCat ta tb) σ H (xs ++ ys) := fun H1 e Q q =>
  ha H1 e _ fun p H2 np e2 hp => hb H2 (e.trans e2) _ fun p' H3 np' e3 hp' => ⟨p, p', xs, ys, rfl, rfl, e3 _ _ hp, hp', Nat.le_trans hl (by decide), fun r nr => q r _ (fresh_back (e2.trans e3) nr) ((e2.trans e3).trans (Ex.new nr)) upd_same⟩
/-! ### fractions in lists -/
theorem RtAll.append : ∀ {vs ws : List V} {xs ys : List Rat}, RtAll K H vs xs → RtAll K H ws ys → RtAll K H (vs ++ ws) (xs ++ ys)
  | _, _, _, _, .nil, h => h
  | _, _, _, _, .cons r t, h => .cons r (RtAll.append t h)
theorem RtAll.drop : ∀ {vs : List V} {xs : List Rat} (k : Nat), RtAll K H vs xs → RtAll K H (vs.drop k) (xs.drop k)
  | _, _, 0, h => h
  | _, _, k + 1, .nil => .nil
  | _, _, k + 1, .cons _ t => RtAll.drop k t
theorem RtAll.take : ∀ {vs : List V} {xs : List Rat} (k : Nat), RtAll K H vs xs → RtAll K H (vs.take k) (xs.take k)
  | _, _, 0, _ => .nil
  | _, _, k + 1, .nil => .nil
  | _, _, k + 1, .cons r t => .cons r (RtAll.take k t)
theorem cut_rot {α : Type} {k : Nat} : True := trivial
theorem cutV_hi {vs : List V} {k : Nat} (h : k ≤ vs.length) : cutV vs (some (k : Int)) none = vs.drop k := by
  unfold cutV HT.sIx
  simp only
  rw [if_neg (by omega), Int.toNat_natCast, Nat.min_eq_left h, ← List.length_drop, List.take_length]
theorem cutV_lo {vs : List V} {k : Nat} (h : k ≤ vs.length) : cutV vs none (some (k : Int)) = vs.take k := by
  unfold cutV HT.sIx
  simp only
  rw [if_neg (by omega), Int.toNat_natCast, Nat.min_eq_left h]
  simp
/-! ### a heap without some of its objects -/
def Off (S : List Addr) (H : Hp) : Hp := fun b => if b ∈ S then none else H b
theorem Off.ex {S : List Addr} (h : ∀ b o, b ∉ S → H b = some o → H1 b = some o) : Ex (Off S H) (Off S H1) := fun b o e => by
  unfold Off at e ⊢
  by_cases c : b ∈ S
  · rw [if_pos c] at e
    cases e
  · rw [if_neg c] at e ⊢
    exact h b o c e
theorem Off.le {S : List Addr} : Ex (Off S H) H := fun b o e => by
  unfold Off at e
  by_cases c : b ∈ S
  · rw [if_pos c] at e
    cases e
  · rw [if_neg c] at e
    exact e
theorem Off.lst {S : List Addr} {a : Addr} {us : List V} (n : a ∉ S) (h : SqL K H a us) : SqL K (Off S H) a us := by
  have e : ∀ {o}, H a = some o → Off S H a = some o := fun h => by
    unfold Off
    rw [if_neg n]
    exact h
  rcases h with (h | ⟨ob, h⟩) | h
  · exact .inl (.inl (e h))
  · exact .inl (.inr ⟨ob, e h⟩)
  · exact .inr h
theorem Off.rt {S : List Addr} (hS : ∀ b ∈ S, ∃ xs, H b = some (.lst xs)) {vs : List V} {xs : List Rat} (h : RtAll K H vs xs) : RtAll K (Off S H) vs xs := h.sq fun {a zs} ht => by
  have e : ∀ {o}, (∀ xs, o ≠ .lst xs) → H a = some o → Off S H a = some o := fun hn h => by
    unfold Off
    rw [if_neg fun c => ?_]
    · exact h
    · obtain ⟨xs, hx⟩ := hS a c
      rw [hx] at h
      cases h
      exact hn _ rfl
  rcases ht with (h | ⟨ob, h⟩) | h
  · exact .inl (.inl (e (fun _ z => by cases z) h))
  · exact .inl (.inr ⟨ob, e (fun _ z => by cases z) h⟩)
  · exact .inr h
/-! ### what stays where the state changes -/
theorem SqL.exS {a : Addr} {us : List V} (e : ExS st H H1) (hs : Bg st H) (hn : ∀ g m : Int, us ≠ [.int g, .int m]) (h : SqL K H a us) : SqL K H1 a us := by
  obtain ⟨g, m, hs⟩ := hs
  rcases h with (h | ⟨ob, h⟩) | h
  · exact .inl (.inl (e _ _ (fun z => by rw [z, hs] at h; cases h; exact hn _ _ rfl) h))
  · exact .inl (.inr ⟨ob, e _ _ (ne_of h hs (fun z => by cases z)) h⟩)
  · exact .inr h
theorem RtAll.noInt {us : List V} {xs : List Rat} {g m : Int} (h : RtAll K H us xs) : us ≠ [.int g, .int m] := by
  rintro rfl
  cases h with
  | cons r _ =>
    obtain ⟨p, e, _⟩ := r
    cases e
theorem Rows.exS (e : ExS st H H1) (hs : Bg st H) : ∀ {vs : List V} {xss : List (List Rat)}, Rows K H vs xss → Rows K H1 vs xss
  | _, _, .nil => .nil
  | _, _, .cons h r t => .cons (SqL.exS e hs (fun _ _ => r.noInt) h) (r.exS e hs) (Rows.exS e hs t)
theorem Rows.noInt {us : List V} {xss : List (List Rat)} {g m : Int} (h : Rows K H us xss) : us ≠ [.int g, .int m] := by
  rintro rfl
  cases h
theorem strs_noInt {zs : List Str} {g m : Int} : zs.map V.str ≠ [.int g, .int m] := by
  intro h
  cases zs with
  | nil => cases h
  | cons z zs => cases h
theorem MaAt.exS {C m : Addr} {zs : List Str} {xss : List (List Rat)} (h : MaAt K C H m zs xss) (e : ExS st H H1) (hs : Bg st H) : MaAt K C H1 m zs xss := by
  obtain ⟨dx, am, as, us, h1, h2, h3, h4⟩ := h
  obtain ⟨g, n, hst⟩ := id hs
  refine ⟨dx, am, as, us, e _ _ (ne_of h1 hst (fun z => by cases z)) h1, e _ _ (fun z => ?_) h2, e _ _ (fun z => ?_) h3, h4.exS e hs⟩
  · rw [z, hst] at h2
    have h2' := HO.lst.inj (Option.some.inj h2)
    exact strs_noInt h2'.symm
  · rw [z, hst] at h3
    have h3' := HO.lst.inj (Option.some.inj h3)
    exact h4.noInt h3'.symm
theorem Bg.new {p : Addr} {o : HO} (h : Bg st H) (np : H p = none) : Bg st (upd H p o) := h.mono (Ex.new np)
theorem Bg.upd {p : Addr} {o : HO} (h : Bg st H) (n : p ≠ st) : Bg st (upd H p o) := by
  obtain ⟨g, m, h⟩ := h
  exact ⟨g, m, by rw [upd_ne n.symm]; exact h⟩
/-! ### what the laws draw -/
def spWord : Sp := fun vs H Q _ => ∃ st : Addr, vs = [.ref st] ∧ Bg st H ∧ ∀ z H', NF.Mk z → Bg st H' → ExS st H H' → Q (.str z) H'
def spGoes (K : PySem.W.Frag) : Sp := fun vs H Q _ => ∃ (st : Addr) (n wide : Nat), vs = [.ref st, .int (n : Int), .int (wide : Int)] ∧ Bg st H ∧ 1 ≤ n ∧ n ≤ 6 ∧ 6 ≤ wide ∧ wide ≤ 999 ∧
  ∀ p us xs H', H p = none → Bg st H' → ExS st H H' → H' p = some (.lst us) → RtAll K H' us xs → Shs xs n → (∃ d : Nat, 0 < d ∧ d ≤ wide ∧ ∀ x ∈ xs, Ml d x) → Q (.ref p) H'
/-- names and rows of a machine in the heap -/
def KitAt (K : PySem.W.Frag) (H : Hp) (a b : Addr) (zs : List Str) (us : List V) (xss : List (List Rat)) : Prop := H a = some (.lst (zs.map V.str)) ∧ H b = some (.lst us) ∧ Rows K H us xss ∧ Good zs xss
theorem KitAt.mono {a b : Addr} {zs : List Str} {us : List V} {xss : List (List Rat)} (h : KitAt K H a b zs us xss) (e : Ex H H1) : KitAt K H1 a b zs us xss := ⟨e _ _ h.1, e _ _ h.2.1, h.2.2.1.mono e, h.2.2.2⟩
theorem KitAt.exS {a b : Addr} {zs : List Str} {us : List V} {xss : List (List Rat)} (h : KitAt K H a b zs us xss) (e : ExS st H H1) (hs : Bg st H) : KitAt K H1 a b zs us xss := by
  obtain ⟨h1, h2, h3, h4⟩ := h
  obtain ⟨g, n, hst⟩ := id hs
  refine ⟨e _ _ (fun z => ?_) h1, e _ _ (fun z => ?_) h2, h3.exS e hs, h4⟩
  · rw [z, hst] at h1
    exact strs_noInt (HO.lst.inj (Option.some.inj h1)).symm
  · rw [z, hst] at h2
    exact h3.noInt (HO.lst.inj (Option.some.inj h2)).symm
def spKit (K : PySem.W.Frag) : Sp := fun vs H Q _ => ∃ (st : Addr) (wide : Nat), vs = [.ref st, .int 6, .int (wide : Int)] ∧ Bg st H ∧ 6 ≤ wide ∧ wide ≤ 999 ∧
  ∀ p a b zs us xss H', H p = none → H a = none → H b = none → Bg st H' → ExS st H H' → H' p = some (.tup [.ref a, .ref b]) → KitAt K H' a b zs us xss → Bot wide xss → Q (.ref p) H'
theorem word_ev {i : Nat} (h1 : σ[i]? = some (some (.ref st))) (hs : Bg st H) (q : ∀ z H', NF.Mk z → Bg st H' → ExS st H H' → Q (.str z) H') : tCall spWord [] E (tCons (tVar i) tNil) σ H Q := ⟨_, h1, st, rfl, hs, q⟩
theorem goes_ev {i j k n wide : Nat} (h1 : σ[i]? = some (some (.ref st))) (h2 : σ[j]? = some (some (.int (n : Int)))) (h3 : σ[k]? = some (some (.int (wide : Int)))) (hs : Bg st H) (n1 : 1 ≤ n) (n6 : n ≤ 6) (w6 : 6 ≤ wide) (w9 : wide ≤ 999)
    (q : ∀ p us xs H', H p = none → Bg st H' → ExS st H H' → H' p = some (.lst us) → RtAll K H' us xs → Shs xs n → (∃ d : Nat, 0 < d ∧ d ≤ wide ∧ ∀ x ∈ xs, Ml d x) → Q (.ref p) H') : tCall (spGoes K) [] E (tCons (tVar i) (tCons (tVar j) (tCons (tVar k) tNil))) σ H Q :=
  ⟨_, h1, _, h2, _, h3, st, n, wide, rfl, hs, n1, n6, w6, w9, q⟩
end
/-! ### the mathematics of a row -/
theorem shr_div {p : Int} {b : Nat} (h0 : 0 ≤ p) (h1 : p ≤ b) (hb : 0 < b) (h9 : b ≤ 999) : Shr (Rat.divInt p b) := by
  have h := div_eq p hb
  have hb' : (0 : Rat) < (b : Rat) := by exact_mod_cast hb
  have p0 : (0 : Rat) ≤ (p : Rat) := by exact_mod_cast h0
  have p1 : (p : Rat) ≤ (b : Rat) := by
    have : (p : Rat) ≤ ((b : Int) : Rat) := by exact_mod_cast h1
    exact this
  have x0 : 0 ≤ Rat.divInt p b := by
    rw [← Rat.num_nonneg, Rat.num_divInt]
    apply Int.ediv_nonneg
    · rw [Int.sign_eq_one_of_pos (by omega)]
      omega
    · omega
  have x1 : Rat.divInt p b ≤ 1 := by
    apply Rat.not_lt.mp
    intro c
    have : (1 : Rat) * b < Rat.divInt p b * b := Rat.mul_lt_mul_of_pos_right c hb'
    grind
  obtain ⟨a, c⟩ := num01 x0 x1
  exact ⟨a, c, by have := den_le (t := p) hb; omega⟩
end NF

namespace NF
open PySem PySem.Spec PyProof.Rows L2 Evl
/-! ### lists of fractions compared -/
theorem eqv_rts : ∀ (xs : List Rat), PyData.eqvAll (xs.map fd) (xs.map fd) = true
  | [] => by simp [PyData.eqvAll]
  | x :: xs => by
    have := eqv_rts xs
    have e : PyData.eqv (fd x) (fd x) = true := by
      unfold fd
      rw [eqv_rt]
      simp
    simp [PyData.eqvAll, this, e]
theorem eqv_rtL (xs : List Rat) : PyData.eqv (.list (xs.map fd)) (.list (xs.map fd)) = true := by
  simp [PyData.eqv, eqv_rts]
theorem shaped_rts (xs : List Rat) : SeqAt.shaped (.list (xs.map fd)) = true := by
  have h1 : PyData.canLayAll0 (xs.map fd) = true := by
    induction xs with
    | nil => rfl
    | cons x xs ih =>
      rw [List.map_cons]
      simp only [PyData.canLayAll0, ih, Bool.and_true]
      rfl
  have h2 : (PyData.list (xs.map fd)).depth ≤ 2 := by
    induction xs with
    | nil => show 1 ≤ 2; decide
    | cons x xs ih =>
      have := ih (by simp only [List.map_cons, PyData.canLayAll0, Bool.and_eq_true] at h1; exact h1.2)
      have hx : (fd x).depth ≤ 1 := by show 1 ≤ 1; decide
      simp only [PyData.depth, List.map_cons, PyData.depthAll] at *
      omega
  unfold SeqAt.shaped
  simp [PyData.canLay0, h1]
  omega
section
variable {K : PySem.W.Frag} {H H1 H2 : Hp} {σ : L2.St} {ta tb te tl : TE} {v w u : V} {x y : Rat} {E : XK} {D : Ends} {tz t1 t2 : TS} {tc : TT} {tA : TA} {Q : VK} {l st C m : Addr} {xs ys : List Rat} {zs : List Str} {xss : List (List Rat)}
/-- a list of fractions, old or new -/
def EvLs (K : PySem.W.Frag) (te : TE) (σ : L2.St) (H : Hp) (xs : List Rat) : Prop := ∀ H1, Ex H H1 → ∀ Q : VK, (∀ p us H2, Ex H1 H2 → SqL K H2 p us → RtAll K H2 us xs → Q (.ref p) H2) → te σ H1 Q
theorem EvR.ls (h : EvR K te σ H xs) : EvLs K te σ H xs := fun H1 e Q q => h H1 e _ fun p us H2 _ e2 hp hr => q p us H2 e2 (SqL.of hp) hr
theorem els_of {a : Addr} {us : List V} (h : Ev te σ H (.ref a)) (ha : SqL K H a us) (hr : RtAll K H us xs) : EvLs K te σ H xs := fun H1 e Q q =>
  h H1 e _ fun H2 e2 => q a us H2 e2 (ex_l (e.trans e2) ha) (hr.mono (e.trans e2))
theorem els_row {a : Addr} {us : List V} {j : Nat} (h1 : Ev ta σ H (.ref a)) (h2 : Ev tb σ H (.int (j : Int))) (ha : SqL K H a us) (hr : Rows K H us xss) (hj : xss[j]? = some xs) : EvLs K (tOp (rIxL K) ta tb) σ H xs := by
  obtain ⟨p, ws, h3, h4, h5⟩ := ev_row h1 h2 ha hr hj
  exact els_of h3 h4 h5
theorem ev_neLs (ha : EvLs K ta σ H xs) (hb : EvLs K tb σ H xs) : Ev (tOp (rNeD K) ta tb) σ H (.bl false) := fun H1 e Q q =>
  ha H1 e _ fun p us H2 e2 hp hr => hb H2 (e.trans e2) _ fun p' us' H3 e3 hp' hr' => ⟨_, _, .lst (ex_l e3 hp) (dp_rts (hr.mono e3)), .lst hp' (dp_rts hr'), shaped_rts _, shaped_rts _, by
    rw [eqv_rtL]
    exact q H3 (e2.trans e3)⟩
/-- [fraction for i in range(n)] -/
theorem er_lcR {n j : Nat} {vs : List Nat} (h : EvA tA σ H [.int (n : Int)]) (hl : xs.length = n) (hn : n ≤ 1000) (hw : ∀ x, wipe ((wipe σ vs).set j (some x)) vs = wipe σ vs)
    (he : ∀ (i : Nat) (x : Rat) H1, Ex H H1 → xs[i]? = some x → EvF K te ((wipe σ vs).set j (some (.int (i : Int)))) H1 x) : EvR K (tLc (iRng1 tA) (gName j) tYes te vs) σ H xs := fun H0 e Q q => h H0 e _ fun H1 e1 => ⟨(n : Int), rfl, by omega, by omega, fun Dl hD => by
  have E1 := e.trans e1
  refine lc_range (lo := 0) (n := (n : Int).toNat) (fun i G => ∃ us, H1 Dl = none ∧ Ex H1 G ∧ G Dl = some (.lst us) ∧ us.length = i ∧ RtAll K G us (xs.take i)) ⟨[], hD, Ex.new hD, upd_same, rfl, .nil⟩ ?_ ?_
  · rintro i G hi ⟨us, n1, x1, hDl, hl1, hR⟩
    rw [Int.toNat_natCast] at hi
    have hx : xs[i]? = some xs[i] := List.getElem?_eq_getElem (by omega)
    refine ⟨hw _, ?_⟩
    show te _ G _
    have hz : (0 : Int) + (i : Int) = (i : Int) := Int.zero_add _
    rw [hz]
    refine he i xs[i] G (E1.trans x1) hx G (Ex.refl G) _ fun u G2 x2 ru => ?_
    have hD2 := x2 _ _ hDl
    refine ⟨us, hD2, Nat.lt_of_lt_of_le (show us.length < 1001 by omega) (by decide), us ++ [u], n1, fun b o hb => ?_, upd_same, by simp [hl1], ?_⟩
    · rw [upd_ne (ne_of_none hb n1)]
      exact (x1.trans x2) _ _ hb
    · rw [List.take_add_one, hx]
      exact ((hR.mono x2).push ru).exLst Exs.upd hD2
  · rintro G ⟨us, n1, x1, hDl, hl1, hR⟩
    rw [Int.toNat_natCast, ← hl, List.take_length] at hR
    exact q Dl us G (fresh_back e1 n1) (e1.trans x1) hDl hR⟩
theorem asg_raw {g : TG} (h : te σ H fun x H1 => g x σ H1 fun σ2 H2 => tz D σ2 H2) : tSeq (tAsg te g) tz D σ H := h
theorem drop_raw (h : te σ H fun _ H1 => tz D σ H1) : tSeq (tDrop te) tz D σ H := h
theorem bag_ev {i j : Nat} {a : Addr} {ns : List Int} {k : Nat} (h1 : σ[i]? = some (some (.ref a))) (h2 : σ[j]? = some (some (.int (k : Int)))) (ha : SqL K H a (ns.map V.int)) (hl : ns.length ≤ 1000) (hk : k ≤ 1000) (q : ∀ st H', H st = none → Ex H H' → Bg st H' → Q (.ref st) H') :
    tCall (spBag K) [] E (tCons (tVar i) (tCons (tVar j) tNil)) σ H Q := ⟨_, h1, _, h2, a, ns, k, rfl, ha, hl, hk, q⟩
theorem kit_ev {i wide : Nat} (h1 : σ[i]? = some (some (.ref st))) (hb : Ev tb σ H (.int (wide : Int))) (hs : Bg st H) (w6 : 6 ≤ wide) (w9 : wide ≤ 999)
    (q : ∀ p a b zs us xss H', H p = none → H a = none → H b = none → Bg st H' → ExS st H H' → H' p = some (.tup [.ref a, .ref b]) → KitAt K H' a b zs us xss → Bot wide xss → Q (.ref p) H') : tCall (spKit K) [] E (tCons (tVar i) (tCons (tC (.int 6)) (tCons tb tNil))) σ H Q :=
  ⟨_, h1, hb H (Ex.refl H) _ fun H1 e1 => ⟨st, wide, rfl, hs.mono e1, w6, w9, fun p a b zs us xss H' np na nb hs' x' hp hk hB => q p a b zs us xss H' (fresh_back e1 np) (fresh_back e1 na) (fresh_back e1 nb) hs' ((ExS.of e1).trans x') hp hk hB⟩⟩
theorem ev_min2 {i j : Int} (ha : Ev ta σ H (.int i)) (hb : Ev tb σ H (.int j)) : Ev (tCB (fun xs H Q => ∃ i j, xs = [V.int i, V.int j] ∧ Q (.int (if j < i then j else i)) H) (tCons ta (tCons tb tNil))) σ H (.int (if j < i then j else i)) := fun H1 e Q q =>
  ha H1 e _ fun H2 e2 => hb H2 (e.trans e2) _ fun H3 e3 => ⟨i, j, rfl, q H3 (e2.trans e3)⟩
theorem ev_intB {b : Bool} (h : Ev ta σ H (.bl b)) : Ev (tCB (fun xs H Q => (∃ i, xs = [V.int i] ∧ Q (.int i) H) ∨ ∃ k, xs = [V.bl k] ∧ Q (.int (if k = true then 1 else 0)) H) (tCons ta tNil)) σ H (.int (if b = true then 1 else 0)) := fun H1 e Q q =>
  h H1 e _ fun H2 e2 => .inr ⟨b, rfl, q H2 e2⟩
theorem Ex.updN {p : Addr} {o : HO} (e : Ex H H1) (n : H p = none) : Ex H (upd H1 p o) := fun b ob hb => by
  rw [upd_ne (ne_of_none hb n)]
  exact e _ _ hb
end
/-! ### C(..), f(a, k = v) -/
structure CalK (P : Program) (w : World) (K : PySem.W.Frag) (mg : Str → Option Value) (base : Heap) (k : Nat) (x : Str) (C : Addr) (ps : List Str) (sp : Sp) : Prop where
  ex : ∃ (f : Addr) (fd : FuncData), L2.Mk K C f ∧ FnOk P w K mg base CX0 k f fd ps sp ∧ Binds K fd ps []
  nm : mg x = some (.ref C)
theorem pe_calK {X : Cx} {j k : Nat} {x : Str} {C : Addr} {ps : List Str} {sp : Sp} {e : Expr} {es : List Expr} {t : TA} {p pos : Pos} (M : CalK X.prog X.w X.K X.mg X.base k x C ps sp) (hr : Room j X.A) (hk : k + 1 ≤ j) (hg : Gl X x)
    (ha : PA X (e :: es) t) (hdb : (x == ("__debug__" : Str)) = false := by decide) (he : starEach (e :: es) X.env = (false, eval e X.env) :: starEach es X.env := by rfl) (hpl : (backTo pos (starEach es X.env)).any (·.1) = false := by rfl) :
    PE X (.Call (.Name x p) (e :: es) [] pos) (tMake C sp [] E0 t) := by
  obtain ⟨f, fd, m, F, b⟩ := M.ex
  exact pe_make m F (hr.mono hk) hg M.nm b .nil pass0 ha hdb he hpl
structure CaN (P : Program) (w : World) (K : PySem.W.Frag) (mg : Str → Option Value) (base : Heap) (k : Nat) (x : Str) (ps : List Str) (n : Nat) (ks : List Str) (gV : List V → List V → List V) (sp : Sp) : Prop where
  ex : ∃ (f : Addr) (fd : FuncData) (g : List Value → List Value → List Value), FnOk P w K mg base CX0 k f fd ps sp ∧ mg x = some (.ref f) ∧ PySem.W.keepIn K (.ref f) = true ∧ KBn K fd ps n ks g gV
theorem pe_caN {X : Cx} {j k n : Nat} {x : Str} {ps ks : List Str} {gV : List V → List V → List V} {sp : Sp} {e : Expr} {es : List Expr} {kws : List Keyword} {t tk : TA} {p pos : Pos} (C : CaN X.prog X.w X.K X.mg X.base k x ps n ks gV sp) (hr : Room j X.A) (hk : k ≤ j) (hg : Gl X x)
    (ha : PA X (e :: es) t) (hkw : PK X kws tk) (hall : ((backToKw pos (keywordEach kws X.env)).all (·.1.isSome)) = true := by rfl) (hks : (backToKw pos (keywordEach kws X.env)).filterMap (·.1) = ks := by rfl) (hdb : (x == ("__debug__" : Str)) = false := by decide)
    (he : starEach (e :: es) X.env = (false, eval e X.env) :: starEach es X.env := by rfl) (hpl : ((backTo pos (starEach (e :: es) X.env)).any (·.1) || (backToKw pos (keywordEach kws X.env)).any (·.1.isNone)) = false := by rfl) :
    PE X (.Call (.Name x p) (e :: es) kws pos) (tCallN n ks.length sp gV E0 t tk) := by
  obtain ⟨f, fd, g, F, hm, kp, b⟩ := C.ex
  exact pe_callN F (hr.mono hk) hg hm kp b pass0 ha hkw hall hks hdb he hpl
end NF

namespace WL
open PySem PySem.Spec PyProof.Rows L2 Evl NF
/-! ### predicates that stay where the heap grows; worlds: what is settled (r) within what stands (h) -/
structure MP where
  p : Hp → V → Prop
  mono : ∀ {H H' : Hp} {v : V}, Ex H H' → p H v → p H' v
structure Wd where
  r : Hp
  h : Hp
/-- no tuple: what may change -/
def nt : HO → Bool
  | .tup _ => false
  | .frz _ (.tup _) => false
  | _ => true
def Ow (W : Wd) (p : Addr) : Prop := (∃ o, W.h p = some o ∧ nt o = true) ∧ W.r p = none
structure Le (M : Addr → Prop) (W W2 : Wd) : Prop where
  r : Ex W.r W2.r
  h : ∀ p o, ¬ M p → W.h p = some o → W2.h p = some o
  w : ∀ p, Ow W p → Ow W2 p
theorem Le.refl {M : Addr → Prop} (W : Wd) : Le M W W := ⟨Ex.refl _, fun _ _ _ h => h, fun _ h => h⟩
theorem Le.trans {M : Addr → Prop} {W W1 W2 : Wd} (a : Le M W W1) (b : Le M W1 W2) : Le M W W2 := ⟨a.r.trans b.r, fun p o n h => b.h p o n (a.h p o n h), fun p h => b.w p (a.w p h)⟩
theorem Le.more {M N : Addr → Prop} {W W2 : Wd} (a : Le M W W2) (s : ∀ p, M p → N p) : Le N W W2 := ⟨a.r, fun p o n h => a.h p o (fun z => n (s p z)) h, a.w⟩
def Bg (H : Hp) (p : Addr) : Prop := ∃ g m : Int, H p = some (.lst [.int g, .int m])
inductive Al (H : Hp) : List V → List MP → Prop
  | nil : Al H [] []
  | cons {v : V} {vs : List V} {P : MP} {Ps : List MP} : P.p H v → Al H vs Ps → Al H (v :: vs) (P :: Ps)
theorem Al.mono {H H' : Hp} (e : Ex H H') : ∀ {vs : List V} {Ps : List MP}, Al H vs Ps → Al H' vs Ps
  | _, _, .nil => .nil
  | _, _, .cons h t => .cons (MP.mono _ e h) (Al.mono e t)
theorem Al.length {H : Hp} : ∀ {vs : List V} {Ps : List MP}, Al H vs Ps → vs.length = Ps.length
  | _, _, .nil => rfl
  | _, _, .cons _ t => congrArg Nat.succ (Al.length t)
theorem Al.get {H : Hp} : ∀ {vs : List V} {Ps : List MP} {i : Nat} {P : MP}, Al H vs Ps → Ps[i]? = some P → ∃ v, vs[i]? = some v ∧ P.p H v
  | _, _, _, _, .nil, e => by simp at e
  | _, _, 0, _, .cons h _, e => by
    have e' := Option.some.inj e
    subst e'
    exact ⟨_, rfl, h⟩
  | _, _, i + 1, _, .cons _ t, e => Al.get (i := i) t e
theorem Al.getV {H : Hp} : ∀ {vs : List V} {Ps : List MP} {i : Nat} {v : V}, Al H vs Ps → vs[i]? = some v → ∃ P, Ps[i]? = some P ∧ P.p H v
  | _, _, _, _, .nil, e => by simp at e
  | _, _, 0, _, .cons h _, e => by
    have e' := Option.some.inj e
    subst e'
    exact ⟨_, rfl, h⟩
  | _, _, i + 1, _, .cons _ t, e => Al.getV (i := i) t e
theorem Al.app {H : Hp} : ∀ {vs ws : List V} {Ps Qs : List MP}, Al H vs Ps → Al H ws Qs → Al H (vs ++ ws) (Ps ++ Qs)
  | _, _, _, _, .nil, r => r
  | _, _, _, _, .cons h t, r => .cons h (Al.app t r)
theorem Al.one {H : Hp} {v : V} {P : MP} (h : P.p H v) : Al H [v] [P] := .cons h .nil
theorem Al.set {H : Hp} {v : V} {P : MP} (h : P.p H v) : ∀ {vs : List V} {Ps : List MP} (i : Nat), Al H vs Ps → Al H (vs.set i v) (Ps.set i P)
  | _, _, _, .nil => .nil
  | _, _, 0, .cons _ t => .cons h t
  | _, _, i + 1, .cons g t => .cons g (Al.set h i t)
theorem Al.drop {H : Hp} : ∀ {vs : List V} {Ps : List MP} (n : Nat), Al H vs Ps → Al H (vs.drop n) (Ps.drop n)
  | _, _, 0, h => h
  | _, _, n + 1, .nil => .nil
  | _, _, n + 1, .cons _ t => Al.drop n t
theorem Al.take {H : Hp} : ∀ {vs : List V} {Ps : List MP} (n : Nat), Al H vs Ps → Al H (vs.take n) (Ps.take n)
  | _, _, 0, h => .nil
  | _, _, n + 1, .nil => .nil
  | _, _, n + 1, .cons h t => .cons h (Al.take n t)
theorem Al.erase {H : Hp} : ∀ {vs : List V} {Ps : List MP} (n : Nat), Al H vs Ps → Al H (vs.eraseIdx n) (Ps.eraseIdx n)
  | _, _, _, .nil => .nil
  | _, _, 0, .cons _ t => t
  | _, _, n + 1, .cons h t => .cons h (Al.erase n t)
theorem Al.rev {H : Hp} : ∀ {vs : List V} {Ps : List MP}, Al H vs Ps → Al H vs.reverse Ps.reverse
  | _, _, .nil => .nil
  | _, _, .cons h t => by
    rw [List.reverse_cons, List.reverse_cons]
    exact (Al.rev t).app (Al.one h)
/-! ### what a slot, an argument, an answer is -/
inductive Sl where
  | un
  | val (P : MP)
  | own (Ps : List MP)
  | bag
def SlOk (W0 : Wd) (M : Addr → Prop) (W : Wd) (u : Option V) : Sl → Prop
  | .un => True
  | .val P => ∃ v, u = some v ∧ P.p W.r v
  | .own Ps => ∃ p vs, u = some (.ref p) ∧ W.h p = some (.lst vs) ∧ W.r p = none ∧ W0.h p = none ∧ Al W.r vs Ps
  | .bag => ∃ p, u = some (.ref p) ∧ Bg W.h p ∧ W.r p = none ∧ (W0.h p = none ∨ M p)
def Sl.ow : Sl → Bool
  | .own _ => true
  | .bag => true
  | _ => false
structure En (W0 : Wd) (M : Addr → Prop) (W : Wd) (σ : L2.St) (ρ : List Sl) : Prop where
  sub : Ex W.r W.h
  le : Le M W0 W
  old : ∀ p, M p → Bg W0.h p
  bags : ∀ p, M p → Bg W.h p
  len : σ.length = ρ.length
  ok : ∀ (i : Nat) s, ρ[i]? = some s → ∃ u, σ[i]? = some u ∧ SlOk W0 M W u s
  ne : ∀ (i j : Nat) s t, i ≠ j → ρ[i]? = some s → ρ[j]? = some t → s.ow = true → t.ow = true → σ[i]? ≠ σ[j]?
def Bags (σ : L2.St) (ρ : List Sl) (p : Addr) : Prop := ∃ i : Nat, ρ[i]? = some .bag ∧ σ[i]? = some (some (.ref p))
/-- a step of an expression: bags may turn, all else stands -/
structure Go (σ : L2.St) (ρ : List Sl) (W W2 : Wd) : Prop where
  sub : Ex W2.r W2.h
  le : Le (Bags σ ρ) W W2
  bg : ∀ p, Bags σ ρ p → Bg W2.h p
theorem Go.trans {σ : L2.St} {ρ : List Sl} {W W1 W2 : Wd} (a : Go σ ρ W W1) (b : Go σ ρ W1 W2) : Go σ ρ W W2 := ⟨b.sub, a.le.trans b.le, b.bg⟩
section
variable {W0 W W1 W2 W3 : Wd} {M : Addr → Prop} {σ : L2.St} {ρ : List Sl} {i : Nat}
theorem En.bag (e : En W0 M W σ ρ) {p : Addr} (h : Bags σ ρ p) : Bg W.h p ∧ W.r p = none ∧ (W0.h p = none ∨ M p) := by
  obtain ⟨i, h1, h2⟩ := h
  obtain ⟨u, e1, q, e2, r⟩ := e.ok i _ h1
  rw [h2] at e1
  cases e1
  cases e2
  exact r
theorem En.go (e : En W0 M W σ ρ) (g : Go σ ρ W W2) : En W0 M W2 σ ρ := by
  have st : ∀ p o, ¬ M p → W0.h p = some o → W2.h p = some o := fun p o n h => g.le.h p o (fun b => (e.bag b).2.2.elim (fun z => by rw [z] at h; cases h) n) (e.le.h p o n h)
  refine ⟨g.sub, ⟨e.le.r.trans g.le.r, st, fun p h => g.le.w p (e.le.w p h)⟩, e.old, fun p m => ?_, e.len, fun i s hs => ?_, e.ne⟩
  · by_cases b : Bags σ ρ p
    · exact g.bg p b
    · obtain ⟨x, y, h⟩ := e.bags p m
      exact ⟨x, y, g.le.h _ _ b h⟩
  · obtain ⟨u, h1, h2⟩ := e.ok i s hs
    refine ⟨u, h1, ?_⟩
    cases s with
    | un => trivial
    | val P =>
      obtain ⟨v, rfl, h⟩ := h2
      exact ⟨v, rfl, P.mono g.le.r h⟩
    | own Ps =>
      obtain ⟨p, vs, rfl, h3, h4, h5, h6⟩ := h2
      refine ⟨p, vs, rfl, g.le.h _ _ (fun b => ?_) h3, (g.le.w p ⟨⟨_, h3, rfl⟩, h4⟩).2, h5, h6.mono g.le.r⟩
      obtain ⟨j, j1, j2⟩ := b
      by_cases c : i = j
      · subst c
        rw [hs] at j1
        cases j1
      · exact e.ne i j _ _ c hs j1 rfl rfl (by rw [h1, j2])
    | bag =>
      obtain ⟨p, rfl, h3, h4, h5⟩ := h2
      obtain ⟨_, _, h3'⟩ := id h3
      exact ⟨p, rfl, g.bg p ⟨i, hs, h1⟩, (g.le.w p ⟨⟨_, h3', rfl⟩, h4⟩).2, h5⟩
theorem En.id (e : En W0 M W σ ρ) : Go σ ρ W W := ⟨e.sub, Le.refl W, fun p b => (e.bag b).1⟩
end
/-! ### answers -/
def ROk (W W2 : Wd) (v : V) : Sl → Prop
  | .val P => P.p W2.r v
  | .own Ps => ∃ p vs, v = .ref p ∧ W2.h p = some (.lst vs) ∧ W2.r p = none ∧ W.h p = none ∧ Al W2.r vs Ps
  | _ => False
def E (ρ : List Sl) (te : TE) (Ψ : Sl → Prop) : Prop := ∀ W0 M W σ, En W0 M W σ ρ → ∀ Q : VK, (∀ s v W2, Go σ ρ W W2 → ROk W W2 v s → Ψ s → Q v W2.h) → te σ W.h Q
def T (ρ : List Sl) (tt : TT) (Ψ : Bool → Prop) : Prop := ∀ W0 M W σ, En W0 M W σ ρ → ∀ Q : Bool → Hp → Prop, (∀ b W2, Go σ ρ W W2 → Ψ b → Q b W2.h) → tt σ W.h Q
def D (ρ : List Sl) (te : TE) (P : MP) : Prop := ∀ W0 M W σ, En W0 M W σ ρ → ∀ Q : VK, (∀ v W2, Go σ ρ W W2 → P.p W2.r v → Q v W2.h) → te σ W.h Q
section
variable {K : PySem.W.Frag} {W0 W W1 W2 W3 : Wd} {M : Addr → Prop} {σ : L2.St} {ρ : List Sl} {i j : Nat} {P P1 P2 P3 : MP} {Ps Qs : List MP} {ta tb tc te : TE} {tt t1 t2 : TT} {Ψ : Sl → Prop} {Φ : Bool → Prop} {v w u : V} {b b1 b2 : Bool} {r r1 r2 : R2}
def sc (v : V) : MP := ⟨fun _ u => u = v, fun _ h => h⟩
def lst (K : PySem.W.Frag) (Ps : List MP) : MP := ⟨fun H v => ∃ p vs, v = .ref p ∧ SqL K H p vs ∧ Al H vs Ps, fun e h => by
  obtain ⟨p, vs, h1, h2, h3⟩ := h
  exact ⟨p, vs, h1, ex_l e h2, h3.mono e⟩⟩
def tup (K : PySem.W.Frag) (Ps : List MP) : MP := ⟨fun H v => ∃ p vs, v = .ref p ∧ SqT K H p vs ∧ Al H vs Ps, fun e h => by
  obtain ⟨p, vs, h1, h2, h3⟩ := h
  exact ⟨p, vs, h1, ex_t e h2, h3.mono e⟩⟩
def rat (K : PySem.W.Frag) (x : Rat) : MP := ⟨fun H v => Rt K H v x, fun e h => h.mono e⟩
theorem E.of (h : D ρ te P) (q : Ψ (.val P)) : E ρ te Ψ := fun W0 M W σ e Q k => h W0 M W σ e Q fun v W2 g r => k (.val P) v W2 g r q
theorem E.mono {Ψ2 : Sl → Prop} (h : E ρ te Ψ) (q : ∀ s, Ψ s → Ψ2 s) : E ρ te Ψ2 := fun W0 M W σ e Q k => h W0 M W σ e Q fun s v W2 g r z => k s v W2 g r (q s z)
theorem T.mono {Φ2 : Bool → Prop} (h : T ρ tt Φ) (q : ∀ s, Φ s → Φ2 s) : T ρ tt Φ2 := fun W0 M W σ e Q k => h W0 M W σ e Q fun s W2 g z => k s W2 g (q s z)
theorem d_var (h : ρ[i]? = some (.val P)) : D ρ (tVar i) P := fun W0 M W σ e Q k => by
  obtain ⟨u, h1, v, rfl, h2⟩ := e.ok i _ h
  exact ⟨v, h1, k v W e.id h2⟩
theorem d_c : D ρ (tC v) (sc v) := fun W0 M W σ e Q k => k v W e.id rfl
/-- a written object -/
theorem d_k (h : ∀ H, P.p H v) : D ρ (tC v) P := fun W0 M W σ e Q k => k v W e.id (h _)
theorem D.is (h : D ρ te P) (e : P = P2) : D ρ te P2 := e ▸ h
theorem D.imp (h : D ρ te P) (q : ∀ H v, P.p H v → P2.p H v) : D ρ te P2 := fun W0 M W σ e Q k => h W0 M W σ e Q fun v W2 g r => k v W2 g (q _ _ r)
/-- an operation that reads -/
def OpV (r : R2) (P Q T : MP) : Prop := ∀ (R H : Hp) x y, Ex R H → P.p R x → Q.p R y → ∀ C : VK, (∀ v, T.p R v → C v H) → r x y H C
theorem d_op (ha : D ρ ta P1) (hb : D ρ tb P2) (hr : OpV r P1 P2 P3) : D ρ (tOp r ta tb) P3 := fun W0 M W σ e Q k =>
  ha W0 M W σ e _ fun x W1 g1 px => hb W0 M W1 σ (e.go g1) _ fun y W2 g2 py => hr W2.r W2.h x y g2.sub (P1.mono g2.le.r px) py _ fun v pv => k v W2 (g1.trans g2) pv
theorem e_op (h : E ρ ta fun s => ∃ P1, s = .val P1 ∧ E ρ tb fun t => ∃ P2 P3, t = .val P2 ∧ OpV r P1 P2 P3 ∧ Ψ (.val P3)) : E ρ (tOp r ta tb) Ψ := fun W0 M W σ e Q k => h W0 M W σ e _ fun s x W1 g1 px q => by
  obtain ⟨P1, rfl, h2⟩ := q
  refine h2 W0 M W1 σ (e.go g1) _ fun t y W2 g2 py q => ?_
  obtain ⟨P2, P3, rfl, hr, hq⟩ := q
  exact hr W2.r W2.h x y g2.sub (P1.mono g2.le.r px) py _ fun v pv => k (.val P3) v W2 (g1.trans g2) pv hq
theorem ov_v (h : ∀ H (C : VK), C w H → r u v H C) : OpV r (sc u) (sc v) (sc w) := fun R H x y _ px py C k => by
  cases px
  cases py
  exact h H C (k w rfl)
theorem ov_i0 {g : Int → Int → V} {a b : Int} : OpV (rI0 g) (sc (.int a)) (sc (.int b)) (sc (g a b)) := ov_v fun H C c => ⟨a, b, rfl, rfl, c⟩
theorem ov_i {C : Int → Int → Prop} {g : Int → Int → V} {a b : Int} (hc : C a b) : OpV (rI C g) (sc (.int a)) (sc (.int b)) (sc (g a b)) := ov_v fun H _ c => ⟨a, b, rfl, rfl, hc, c⟩
theorem ov_eqv (h : scal u v = true) : OpV rEq (sc u) (sc v) (sc (.bl (decide (u = v)))) := ov_v fun H C c => ⟨h, c⟩
theorem ov_nev (h : scal u v = true) : OpV rNe (sc u) (sc v) (sc (.bl (!decide (u = v)))) := ov_v fun H C c => ⟨h, c⟩
theorem ov_r0 {x : Rat} : OpV (rIxT K) (rat K x) (sc (.int 0)) (sc (.int x.num)) := fun R H a c s px py C k => by
  cases py
  obtain ⟨p, rfl, hs⟩ := px
  exact ⟨p, _, 0, _, rfl, rfl, ex_t s hs, atI_nat (j := 0) rfl, k _ rfl⟩
theorem ov_r1 {x : Rat} : OpV (rIxT K) (rat K x) (sc (.int 1)) (sc (.int x.den)) := fun R H a c s px py C k => by
  cases py
  obtain ⟨p, rfl, hs⟩ := px
  exact ⟨p, _, 1, _, rfl, rfl, ex_t s hs, atI_nat (j := 1) rfl, k _ rfl⟩
theorem ov_ixL {n : Nat} (h : Ps[n]? = some P) : OpV (rIxL K) (lst K Ps) (sc (.int (n : Int))) P := fun R H a c s px py C k => by
  cases py
  obtain ⟨p, vs, rfl, hs, ha⟩ := px
  obtain ⟨v, hv, pv⟩ := ha.get h
  exact ⟨p, _, n, v, rfl, rfl, ex_l s hs, atI_nat hv, k _ pv⟩
theorem ov_ixT {n : Nat} (h : Ps[n]? = some P) : OpV (rIxT K) (tup K Ps) (sc (.int (n : Int))) P := fun R H a c s px py C k => by
  cases py
  obtain ⟨p, vs, rfl, hs, ha⟩ := px
  obtain ⟨v, hv, pv⟩ := ha.get h
  exact ⟨p, _, n, v, rfl, rfl, ex_t s hs, atI_nat hv, k _ pv⟩
theorem ov_eqR {x y : Rat} : OpV (rEqD K) (rat K x) (rat K y) (sc (.bl (decide (x = y)))) := fun R H a c s px py C k =>
  ⟨_, _, dp_rt (Rt.mono px s), dp_rt (Rt.mono py s), rfl, rfl, by rw [eqv_rt]; exact k _ rfl⟩
theorem ov_neR {x y : Rat} : OpV (rNeD K) (rat K x) (rat K y) (sc (.bl (!decide (x = y)))) := fun R H a c s px py C k =>
  ⟨_, _, dp_rt (Rt.mono px s), dp_rt (Rt.mono py s), rfl, rfl, by rw [eqv_rt]; exact k _ rfl⟩
/-- an own list that is read where it stands -/
theorem own_at {n : Nat} (h : ρ[i]? = some (.own Ps)) (hb : D ρ tb (sc (.int (n : Int)))) (hn : Ps[n]? = some P) : D ρ (tOp (rIxL K) (tVar i) tb) P := fun W0 M W σ e Q k => by
  obtain ⟨u, h1, p, vs, rfl, _⟩ := e.ok i _ h
  refine ⟨_, h1, hb W0 M W σ e _ fun y W2 g py => ?_⟩
  cases py
  obtain ⟨u, h1', p', vs', e1, h3, h4, h5, h6⟩ := (e.go g).ok i _ h
  rw [h1] at h1'
  cases h1'
  cases e1
  obtain ⟨v, hv, pv⟩ := h6.get hn
  exact ⟨p, _, n, v, rfl, rfl, SqL.of h3, atI_nat hv, k v W2 g pv⟩
theorem d_un {r : V → Hp → VK → Prop} (ha : D ρ ta (sc u)) (hr : ∀ H (C : VK), C v H → r u H C) : D ρ (tUn r ta) (sc v) := fun W0 M W σ e Q k =>
  ha W0 M W σ e _ fun x W1 g1 px => by
    cases px
    exact hr _ _ (k v W1 g1 rfl)
/-! ### tests -/
theorem T.of (h : D ρ te (sc (.bl b))) (q : Φ b) : T ρ (tTest te) Φ := fun W0 M W σ e Q k => h W0 M W σ e _ fun v W2 g r => by
  cases r
  exact ⟨b, rfl, k b W2 g q⟩
theorem T.ofB (h : D ρ te (sc (.bl b))) (q : Φ b) : T ρ (tB te) Φ := T.of h q
theorem t_test (h : E ρ te fun s => ∃ b, s = .val (sc (.bl b)) ∧ Φ b) : T ρ (tTest te) Φ := fun W0 M W σ e Q k => h W0 M W σ e _ fun s v W2 g r q => by
  obtain ⟨b, rfl, hq⟩ := q
  cases r
  exact ⟨b, rfl, k b W2 g hq⟩
theorem t_B (h : E ρ te fun s => ∃ b, s = .val (sc (.bl b)) ∧ Φ b) : T ρ (tB te) Φ := t_test h
theorem t_and (h : T ρ t1 fun b => if b = true then T ρ t2 Φ else Φ false) : T ρ (tAnd t1 t2) Φ := fun W0 M W σ e Q k => h W0 M W σ e _ fun b W2 g q => by
  cases b with
  | true => exact q W0 M W2 σ (e.go g) _ fun c W3 g2 z => k c W3 (g.trans g2) z
  | false => exact k false W2 g q
theorem t_or (h : T ρ t1 fun b => if b = true then Φ true else T ρ t2 Φ) : T ρ (tOr t1 t2) Φ := fun W0 M W σ e Q k => h W0 M W σ e _ fun b W2 g q => by
  cases b with
  | false => exact q W0 M W2 σ (e.go g) _ fun c W3 g2 z => k c W3 (g.trans g2) z
  | true => exact k true W2 g q
theorem t_not (h : T ρ t1 fun b => Φ (!b)) : T ρ (tNot t1) Φ := fun W0 M W σ e Q k => h W0 M W σ e _ fun b W2 g q => k (!b) W2 g q
theorem t_yes (q : Φ true) : T ρ tYes Φ := fun W0 M W σ e Q k => k true W e.id q
theorem d_and (ha : D ρ ta (sc (.bl b1))) (hb : b1 = true → D ρ tb (sc (.bl b2))) : D ρ (tAndV ta tb) (sc (.bl (b1 && b2))) := fun W0 M W σ e Q k => ha W0 M W σ e _ fun v W1 g1 r => by
  cases r
  refine ⟨b1, rfl, ?_⟩
  cases b1 with
  | true => exact hb rfl W0 M W1 σ (e.go g1) _ fun v W2 g2 r => k v W2 (g1.trans g2) r
  | false => exact k _ W1 g1 rfl
theorem d_or (ha : D ρ ta (sc (.bl b1))) (hb : b1 = false → D ρ tb (sc (.bl b2))) : D ρ (tOrV ta tb) (sc (.bl (b1 || b2))) := fun W0 M W σ e Q k => ha W0 M W σ e _ fun v W1 g1 r => by
  cases r
  refine ⟨b1, rfl, ?_⟩
  cases b1 with
  | false => exact hb rfl W0 M W1 σ (e.go g1) _ fun v W2 g2 r => k v W2 (g1.trans g2) r
  | true => exact k _ W1 g1 rfl
theorem d_not (ha : D ρ ta (sc (.bl b))) : D ρ (tNotV ta) (sc (.bl (!b))) := fun W0 M W σ e Q k => ha W0 M W σ e _ fun v W1 g1 r => by
  cases r
  exact ⟨b, rfl, k _ W1 g1 rfl⟩
theorem e_if (h : T ρ tt fun b => if b = true then E ρ ta Ψ else E ρ tb Ψ) : E ρ (tIf tt ta tb) Ψ := fun W0 M W σ e Q k => h W0 M W σ e _ fun b W1 g1 q => by
  have up : ∀ {s v W2}, Go σ ρ W1 W2 → ROk W1 W2 v s → ROk W W2 v s := fun {s v W2} g2 r => by
    cases s with
    | val P => exact r
    | own Ps =>
      obtain ⟨p, vs, h1, h2, h3, h4, h5⟩ := r
      refine ⟨p, vs, h1, h2, h3, ?_, h5⟩
      cases c : W.h p with
      | none => rfl
      | some o =>
        by_cases bb : Bags σ ρ p
        · obtain ⟨_, _, z⟩ := g1.bg p bb
          rw [h4] at z
          cases z
        · have := g1.le.h p o bb c
          rw [h4] at this
          cases this
    | un => exact r
    | bag => exact r
  cases b with
  | true => exact q W0 M W1 σ (e.go g1) _ fun s v W2 g2 r z => k s v W2 (g1.trans g2) (up g2 r) z
  | false => exact q W0 M W1 σ (e.go g1) _ fun s v W2 g2 r z => k s v W2 (g1.trans g2) (up g2 r) z
theorem d_if (h : T ρ tt fun b => if b = true then D ρ ta P else D ρ tb P) : D ρ (tIf tt ta tb) P := fun W0 M W σ e Q k => h W0 M W σ e _ fun b W1 g1 q => by
  cases b with
  | true => exact q W0 M W1 σ (e.go g1) _ fun v W2 g2 r => k v W2 (g1.trans g2) r
  | false => exact q W0 M W1 σ (e.go g1) _ fun v W2 g2 r => k v W2 (g1.trans g2) r
theorem d_chain (ha : D ρ ta P1) (hb : D ρ tb P2) (hr : OpV r1 P1 P2 (sc (.bl b1))) (hc : b1 = true → ∃ P3, D ρ tc P3 ∧ OpV r2 P2 P3 (sc (.bl b2))) : D ρ (tChain r1 r2 ta tb tc) (sc (.bl (b1 && b2))) := fun W0 M W σ e Q k =>
  ha W0 M W σ e _ fun x W1 g1 px => hb W0 M W1 σ (e.go g1) _ fun y W2 g2 py => hr W2.r W2.h x y g2.sub (P1.mono g2.le.r px) py _ fun v pv => by
    cases pv
    refine ⟨b1, rfl, ?_⟩
    cases b1 with
    | false => exact k _ W2 (g1.trans g2) rfl
    | true =>
      obtain ⟨P3, hc, hr2⟩ := hc rfl
      exact hc W0 M W2 σ ((e.go g1).go g2) _ fun z W3 g3 pz => hr2 W3.r W3.h y z g3.sub (P2.mono g3.le.r py) pz _ fun v pv => k v W3 ((g1.trans g2).trans g3) pv
end
end WL

namespace WL
open PySem PySem.Spec PyProof.Rows L2 Evl NF
/-! ### what is made on the way is settled -/
inductive Set (K : PySem.W.Frag) : Sl → MP → Prop
  | val {P : MP} : Set K (.val P) P
  | own {Ps : List MP} : Set K (.own Ps) (lst K Ps)
section
variable {K : PySem.W.Frag} {W0 W W1 W2 W3 : Wd} {M : Addr → Prop} {σ : L2.St} {ρ : List Sl} {i j : Nat} {P P1 P2 P3 : MP} {Ps Qs : List MP} {ta tb tc te : TE} {tt t1 t2 : TT} {Ψ : Sl → Prop} {Φ : Bool → Prop} {v w u : V} {b b1 b2 : Bool} {r r1 r2 : R2} {s : Sl}
theorem settle (e : En W0 M W σ ρ) (g : Go σ ρ W W2) (h : ROk W W2 v s) (q : Set K s P) : ∃ W3, W3.h = W2.h ∧ Ex W2.r W3.r ∧ Go σ ρ W W3 ∧ P.p W3.r v := by
  cases q with
  | val => exact ⟨W2, rfl, Ex.refl _, g, h⟩
  | own =>
    obtain ⟨p, vs, rfl, h1, h2, h3, h4⟩ := h
    have ex : Ex W2.r (upd W2.r p (.lst vs)) := Ex.new h2
    refine ⟨⟨upd W2.r p (.lst vs), W2.h⟩, rfl, ex, ⟨fun a o (ha : upd W2.r p (.lst vs) a = some o) => ?_, ⟨g.le.r.trans ex, g.le.h, fun q hq => ?_⟩, g.bg⟩, p, vs, rfl, SqL.of upd_same, h4.mono ex⟩
    · by_cases c : a = p
      · subst c
        rw [upd_same] at ha
        cases ha
        exact h1
      · rw [upd_ne c] at ha
        exact g.sub _ _ ha
    · have c : q ≠ p := fun z => by
        obtain ⟨⟨xs, hx, _⟩, _⟩ := hq
        rw [z, h3] at hx
        cases hx
      exact ⟨(g.le.w q hq).1, by show upd W2.r p _ q = none; rw [upd_ne c]; exact (g.le.w q hq).2⟩
theorem ROk.back (e : En W0 M W σ ρ) (g : Go σ ρ W W1) (r : ROk W1 W2 v s) : ROk W W2 v s := by
  cases s with
  | val P => exact r
  | own Ps =>
    obtain ⟨p, vs, h1, h2, h3, h4, h5⟩ := r
    refine ⟨p, vs, h1, h2, h3, ?_, h5⟩
    cases c : W.h p with
    | none => rfl
    | some o =>
      by_cases bb : Bags σ ρ p
      · obtain ⟨_, _, z⟩ := g.bg p bb
        rw [h4] at z
        cases z
      · have := g.le.h p o bb c
        rw [h4] at this
        cases this
  | un => exact r
  | bag => exact r
theorem D.of (h : E ρ te fun s => Set K s P) : D ρ te P := fun W0 M W σ e Q k => h W0 M W σ e _ fun s v W2 g r q => by
  obtain ⟨W3, e1, _, g3, p3⟩ := settle e g r q
  rw [← e1]
  exact k v W3 g3 p3
/-! ### arguments -/
def AOk (σ : L2.St) (ρ : List Sl) (W : Wd) (v : V) : Sl → Prop
  | .val P => P.p W.r v
  | .bag => ∃ i : Nat, ρ[i]? = some .bag ∧ σ[i]? = some (some v)
  | _ => False
inductive AOks (σ : L2.St) (ρ : List Sl) (W : Wd) : List V → List Sl → Prop
  | nil : AOks σ ρ W [] []
  | cons {v : V} {s : Sl} {vs : List V} {ss : List Sl} : AOk σ ρ W v s → AOks σ ρ W vs ss → AOks σ ρ W (v :: vs) (s :: ss)
theorem AOk.mono (e : Ex W.r W2.r) (h : AOk σ ρ W v s) : AOk σ ρ W2 v s := by
  cases s with
  | val P => exact P.mono e h
  | bag => exact h
  | un => exact h
  | own _ => exact h
def EA (ρ : List Sl) (ta : TA) (Φ : List Sl → Prop) : Prop := ∀ W0 M W σ, En W0 M W σ ρ → ∀ Q : List V → Hp → Prop, (∀ ss vs W2, Go σ ρ W W2 → AOks σ ρ W2 vs ss → Φ ss → Q vs W2.h) → ta σ W.h Q
def DA (ρ : List Sl) (ta : TA) (Ps : List MP) : Prop := ∀ W0 M W σ, En W0 M W σ ρ → ∀ Q : List V → Hp → Prop, (∀ vs W2, Go σ ρ W W2 → Al W2.r vs Ps → Q vs W2.h) → ta σ W.h Q
variable {tA tr : TA} {ΦA : List Sl → Prop}
theorem da_nil : DA ρ tNil [] := fun W0 M W σ e Q k => k [] W e.id .nil
theorem da_cons (h : D ρ ta P) (t : DA ρ tr Ps) : DA ρ (tCons ta tr) (P :: Ps) := fun W0 M W σ e Q k => h W0 M W σ e _ fun v W1 g1 p => t W0 M W1 σ (e.go g1) _ fun vs W2 g2 ps => k _ W2 (g1.trans g2) (.cons (P.mono g2.le.r p) ps)
theorem ea_nil (q : ΦA []) : EA ρ tNil ΦA := fun W0 M W σ e Q k => k [] [] W e.id .nil q
theorem ea_cons (h : E ρ ta fun s => ∃ P, Set K s P ∧ EA ρ tr fun ss => ΦA (.val P :: ss)) : EA ρ (tCons ta tr) ΦA := fun W0 M W σ e Q k => h W0 M W σ e _ fun s v W1 g1 r q => by
  obtain ⟨P, hs, q⟩ := q
  obtain ⟨W3, e1, _, g3, p3⟩ := settle e g1 r hs
  show tr σ W1.h _
  rw [← e1]
  exact q W0 M W3 σ (e.go g3) _ fun ss vs W2 g2 as q => k _ _ W2 (g3.trans g2) (.cons (s := .val P) (P.mono g2.le.r p3) as) q
theorem ea_d (h : D ρ ta P) (q : EA ρ tr fun ss => ΦA (.val P :: ss)) : EA ρ (tCons ta tr) ΦA := fun W0 M W σ e Q k => h W0 M W σ e _ fun v W1 g1 p =>
  q W0 M W1 σ (e.go g1) _ fun ss vs W2 g2 as q => k _ _ W2 (g1.trans g2) (.cons (s := .val P) (P.mono g2.le.r p) as) q
theorem ea_bag (h : ρ[i]? = some .bag) (q : EA ρ tr fun ss => ΦA (.bag :: ss)) : EA ρ (tCons (tVar i) tr) ΦA := fun W0 M W σ e Q k => by
  obtain ⟨u, h1, p, rfl, _⟩ := e.ok i _ h
  exact ⟨_, h1, q W0 M W σ e _ fun ss vs W2 g2 as q => k _ _ W2 g2 (.cons (s := .bag) ⟨i, h, h1⟩ as) q⟩
theorem EA.of (h : DA ρ tA Ps) (q : ΦA (Ps.map .val)) : EA ρ tA ΦA := fun W0 M W σ e Q k => h W0 M W σ e _ fun vs W2 g a => by
  refine k (Ps.map .val) vs W2 g ?_ q
  clear q k h
  induction a with
  | nil => exact .nil
  | cons p _ ih => exact .cons p ih
/-! ### builtin calls that read -/
def CbV (r : List V → Hp → VK → Prop) (Ps : List MP) (T : MP) : Prop := ∀ (R H : Hp) vs, Ex R H → Al R vs Ps → ∀ C : VK, (∀ v, T.p R v → C v H) → r vs H C
theorem d_cb {r : List V → Hp → VK → Prop} (ha : DA ρ tA Ps) (hr : CbV r Ps P) : D ρ (tCB r tA) P := fun W0 M W σ e Q k => ha W0 M W σ e _ fun vs W2 g a => hr W2.r W2.h vs g.sub a _ fun v p => k v W2 g p
theorem Al.inv1 {H : Hp} {vs : List V} (h : Al H vs [P]) : ∃ v, vs = [v] ∧ P.p H v := by
  cases h with
  | cons p t =>
    cases t
    exact ⟨_, rfl, p⟩
theorem Al.inv2 {H : Hp} {vs : List V} (h : Al H vs [P, P2]) : ∃ v w, vs = [v, w] ∧ P.p H v ∧ P2.p H w := by
  cases h with
  | cons p t =>
    obtain ⟨w, rfl, q⟩ := t.inv1
    exact ⟨_, w, rfl, p, q⟩
theorem cb_len : CbV (rLenS K) [lst K Ps] (sc (.int (Ps.length : Int))) := fun R H vs s a C k => by
  obtain ⟨v, rfl, p, ws, rfl, h1, h2⟩ := a.inv1
  exact ⟨p, ws, rfl, .inl (ex_l s h1), by rw [h2.length]; exact k _ rfl⟩
theorem cb_lenT : CbV (rLenS K) [tup K Ps] (sc (.int (Ps.length : Int))) := fun R H vs s a C k => by
  obtain ⟨v, rfl, p, ws, rfl, h1, h2⟩ := a.inv1
  exact ⟨p, ws, rfl, .inr (ex_t s h1), by rw [h2.length]; exact k _ rfl⟩
theorem cb_v {r : List V → Hp → VK → Prop} (h : ∀ H (C : VK), C w H → r [v] H C) : CbV r [sc v] (sc w) := fun R H vs s a C k => by
  obtain ⟨x, rfl, e⟩ := a.inv1
  cases e
  exact h H C (k w rfl)
theorem cb_v2 {r : List V → Hp → VK → Prop} (h : ∀ H (C : VK), C w H → r [v, u] H C) : CbV r [sc v, sc u] (sc w) := fun R H vs s a C k => by
  obtain ⟨x, y, rfl, e, e2⟩ := a.inv2
  cases e
  cases e2
  exact h H C (k w rfl)
theorem own_len (h : ρ[i]? = some (.own Ps)) : D ρ (tCB (rLenS K) (tCons (tVar i) tNil)) (sc (.int (Ps.length : Int))) := fun W0 M W σ e Q k => by
  obtain ⟨u, h1, p, vs, rfl, h3, h4, h5, h6⟩ := e.ok i _ h
  exact ⟨_, h1, p, vs, rfl, .inl (SqL.of h3), by rw [h6.length]; exact k _ W e.id rfl⟩
/-! ### tuples, lists made -/
theorem d_tup (h : DA ρ tA Ps) (hl : Nat.ble Ps.length 100000 = true := by rfl) : D ρ (tTup tA) (tup K Ps) := fun W0 M W σ e Q k => h W0 M W σ e _ fun vs W2 g a => by
  refine ⟨sz_of (by rw [a.length]; exact Nat.le_of_ble_eq_true hl), fun p hp => ?_⟩
  have rp : W2.r p = none := by
    cases c : W2.r p with
    | none => rfl
    | some o => rw [g.sub _ _ c] at hp; cases hp
  have ex : Ex W2.r (upd W2.r p (.tup vs)) := Ex.new rp
  refine k _ ⟨upd W2.r p (.tup vs), upd W2.h p (.tup vs)⟩ ⟨fun q o hq => ?_, ⟨g.le.r.trans ex, fun q o n hq => Ex.new hp _ _ (g.le.h q o n hq), fun q hq => ?_⟩, fun q b => ?_⟩ ⟨p, vs, rfl, SqT.of upd_same, a.mono ex⟩
  · by_cases c : q = p
    · subst c
      rw [show (⟨upd W2.r q (.tup vs), upd W2.h q (.tup vs)⟩ : Wd).r q = some (.tup vs) from upd_same] at hq
      cases hq
      exact upd_same
    · show upd W2.h p _ q = _
      rw [upd_ne c]
      have hq' : upd W2.r p (.tup vs) q = some o := hq
      rw [upd_ne c] at hq'
      exact g.sub _ _ hq'
  · obtain ⟨⟨xs, h1, hnt⟩, h2⟩ := g.le.w q hq
    have c : q ≠ p := fun z => by rw [z, hp] at h1; cases h1
    exact ⟨⟨xs, by show upd W2.h p _ q = _; rw [upd_ne c]; exact h1, hnt⟩, by show upd W2.r p _ q = _; rw [upd_ne c]; exact h2⟩
  · obtain ⟨x, y, h1⟩ := g.bg q b
    exact ⟨x, y, Ex.new hp _ _ h1⟩
theorem tup_rat {n d : Int} {x : Rat} (en : n = x.num) (ed : d = x.den) (H : Hp) (v : V) (h : (tup K [sc (.int n), sc (.int d)]).p H v) : (rat K x).p H v := by
  obtain ⟨p, vs, rfl, hs, ha⟩ := h
  obtain ⟨a, b, rfl, e1, e2⟩ := ha.inv2
  cases e1
  cases e2
  subst en ed
  exact ⟨p, rfl, hs⟩
/-- a new list, from where the heap stands -/
theorem e_new (e : En W0 M W σ ρ) (g : Go σ ρ W W2) {p : Addr} {vs : List V} (hp : W2.h p = none) (a : Al W2.r vs Ps) : ∃ W3, W3.h = upd W2.h p (.lst vs) ∧ W3.r = W2.r ∧ Go σ ρ W W3 ∧ ROk W W3 (.ref p) (.own Ps) := by
  have rp : W2.r p = none := by
    cases c : W2.r p with
    | none => rfl
    | some o => rw [g.sub _ _ c] at hp; cases hp
  have wp : W.h p = none := by
    cases c : W.h p with
    | none => rfl
    | some o =>
      by_cases bb : Bags σ ρ p
      · obtain ⟨_, _, z⟩ := g.bg p bb
        rw [hp] at z
        cases z
      · have := g.le.h p o bb c
        rw [hp] at this
        cases this
  refine ⟨⟨W2.r, upd W2.h p (.lst vs)⟩, rfl, rfl, ⟨fun q o hq => Ex.new hp _ _ (g.sub _ _ hq), ⟨g.le.r, fun q o n hq => Ex.new hp _ _ (g.le.h q o n hq), fun q hq => ?_⟩, fun q b => ?_⟩, p, vs, rfl, upd_same, rp, wp, a⟩
  · obtain ⟨⟨xs, h1, hnt⟩, h2⟩ := g.le.w q hq
    exact ⟨⟨xs, Ex.new hp _ _ h1, hnt⟩, h2⟩
  · obtain ⟨x, y, h1⟩ := g.bg q b
    exact ⟨x, y, Ex.new hp _ _ h1⟩
theorem e_lst (h : EA ρ tA fun ss => ∃ Ps, ss = Ps.map .val ∧ Nat.ble Ps.length 100000 = true ∧ Ψ (.own Ps)) : E ρ (tLst tA) Ψ := fun W0 M W σ e Q k => h W0 M W σ e _ fun ss vs W2 g a q => by
  obtain ⟨Ps, rfl, hl, q⟩ := q
  have al : Al W2.r vs Ps := by
    clear q hl h
    induction Ps generalizing vs with
    | nil =>
      cases a
      exact .nil
    | cons P Ps ih =>
      cases a with
      | cons p t => exact .cons p (ih _ t)
  refine ⟨sz_of (by rw [al.length]; exact Nat.le_of_ble_eq_true hl), fun p hp => ?_⟩
  obtain ⟨W3, e1, _, g3, r3⟩ := e_new e g hp al
  rw [← e1]
  exact k _ _ W3 g3 r3 q
theorem e_lstD (h : DA ρ tA Ps) (q : Ψ (.own Ps)) (hl : Nat.ble Ps.length 100000 = true := by rfl) : E ρ (tLst tA) Ψ := e_lst (EA.of h ⟨Ps, rfl, hl, q⟩)
/-- a builtin call that makes a list -/
def CbL (r : List V → Hp → VK → Prop) (Ps Qs : List MP) : Prop := ∀ (R H : Hp) vs, Ex R H → Al R vs Ps → ∀ C : VK, (∀ p ws, H p = none → Al R ws Qs → C (.ref p) (upd H p (.lst ws))) → r vs H C
theorem e_cbL {r : List V → Hp → VK → Prop} (ha : DA ρ tA Ps) (hr : CbL r Ps Qs) (q : Ψ (.own Qs)) : E ρ (tCB r tA) Ψ := fun W0 M W σ e Q k => ha W0 M W σ e _ fun vs W2 g a => hr W2.r W2.h vs g.sub a _ fun p ws hp al => by
  obtain ⟨W3, e1, _, g3, r3⟩ := e_new e g hp al
  rw [← e1]
  exact k _ _ W3 g3 r3 q
theorem cl_list : CbL (rListS K) [lst K Ps] Ps := fun R H vs s a C k => by
  obtain ⟨v, rfl, p, ws, rfl, h1, h2⟩ := a.inv1
  exact ⟨p, ws, rfl, .inl (ex_l s h1), fun l hl => k l ws hl h2⟩
theorem cl_listT : CbL (rListS K) [tup K Ps] Ps := fun R H vs s a C k => by
  obtain ⟨v, rfl, p, ws, rfl, h1, h2⟩ := a.inv1
  exact ⟨p, ws, rfl, .inr (ex_t s h1), fun l hl => k l ws hl h2⟩
end
/-! ### promises -/
def noBag : List Sl → Bool
  | [] => true
  | .bag :: _ => false
  | _ :: t => noBag t
def oneBag : List Sl → Bool
  | [] => true
  | .bag :: t => noBag t
  | _ :: t => oneBag t
theorem noBag_no : ∀ {ρ : List Sl} {i : Nat}, noBag ρ = true → ρ[i]? ≠ some .bag
  | [], _, _, e => by simp at e
  | .bag :: _, _, h, _ => by cases h
  | .un :: t, 0, _, e => by simp at e
  | .val _ :: t, 0, _, e => by simp at e
  | .own _ :: t, 0, _, e => by simp at e
  | .un :: t, i + 1, h, e => noBag_no (ρ := t) (i := i) h (by simpa using e)
  | .val _ :: t, i + 1, h, e => noBag_no (ρ := t) (i := i) h (by simpa using e)
  | .own _ :: t, i + 1, h, e => noBag_no (ρ := t) (i := i) h (by simpa using e)
theorem oneBag_eq : ∀ {ρ : List Sl} {i j : Nat}, oneBag ρ = true → ρ[i]? = some .bag → ρ[j]? = some .bag → i = j
  | [], _, _, _, e, _ => by simp at e
  | .bag :: t, 0, 0, _, _, _ => rfl
  | .bag :: t, i + 1, _, h, e, _ => absurd (show t[i]? = some .bag by simpa using e) (noBag_no h)
  | .bag :: t, _, j + 1, h, _, e => absurd (show t[j]? = some .bag by simpa using e) (noBag_no h)
  | .un :: t, 0, _, _, e, _ => by simp at e
  | .val _ :: t, 0, _, _, e, _ => by simp at e
  | .own _ :: t, 0, _, _, e, _ => by simp at e
  | .un :: t, _, 0, _, _, e => by simp at e
  | .val _ :: t, _, 0, _, _, e => by simp at e
  | .own _ :: t, _, 0, _, _, e => by simp at e
  | .un :: t, i + 1, j + 1, h, e1, e2 => congrArg Nat.succ (oneBag_eq (ρ := t) h (by simpa using e1) (by simpa using e2))
  | .val _ :: t, i + 1, j + 1, h, e1, e2 => congrArg Nat.succ (oneBag_eq (ρ := t) h (by simpa using e1) (by simpa using e2))
  | .own _ :: t, i + 1, j + 1, h, e1, e2 => congrArg Nat.succ (oneBag_eq (ρ := t) h (by simpa using e1) (by simpa using e2))
theorem noBag_vals : ∀ (Ps : List MP), noBag (Ps.map .val) = true
  | [] => rfl
  | _ :: Ps => noBag_vals Ps
theorem oneBag_vals : ∀ (Ps : List MP), oneBag (Ps.map .val) = true
  | [] => rfl
  | _ :: Ps => oneBag_vals Ps
/-- an argument as the callee meets it -/
def POk (W : Wd) (v : V) : Sl → Prop
  | .val P => P.p W.r v
  | .bag => ∃ p, v = .ref p ∧ Bg W.h p ∧ W.r p = none
  | _ => False
inductive POks (W : Wd) : List V → List Sl → Prop
  | nil : POks W [] []
  | cons {v : V} {s : Sl} {vs : List V} {ss : List Sl} : POk W v s → POks W vs ss → POks W (v :: vs) (s :: ss)
theorem POks.length {W : Wd} : ∀ {vs : List V} {ss : List Sl}, POks W vs ss → vs.length = ss.length
  | _, _, .nil => rfl
  | _, _, .cons _ t => congrArg Nat.succ (POks.length t)
theorem POks.get {W : Wd} : ∀ {vs : List V} {ss : List Sl} {i : Nat} {s : Sl}, POks W vs ss → ss[i]? = some s → ∃ v, vs[i]? = some v ∧ POk W v s
  | _, _, _, _, .nil, e => by simp at e
  | _, _, 0, _, .cons h _, e => by
    have e' := Option.some.inj e
    subst e'
    exact ⟨_, rfl, h⟩
  | _, _, i + 1, _, .cons _ t, e => POks.get (i := i) t e
def BagOf (vs : List V) (ss : List Sl) (p : Addr) : Prop := ∃ i : Nat, ss[i]? = some .bag ∧ vs[i]? = some (.ref p)
def spP (pre : List Sl → (Sl → Prop) → Prop) : Sp := fun vs H Q _ => ∃ (W : Wd) (ss : List Sl) (Ψ : Sl → Prop), W.h = H ∧ Ex W.r W.h ∧ POks W vs ss ∧ oneBag ss = true ∧ pre ss Ψ ∧
  ∀ s v W2, Ex W2.r W2.h → Le (BagOf vs ss) W W2 → (∀ p, BagOf vs ss p → Bg W2.h p) → ROk W W2 v s → Ψ s → Q v W2.h
section
variable {K : PySem.W.Frag} {W0 W W1 W2 W3 : Wd} {M : Addr → Prop} {σ : L2.St} {ρ : List Sl} {i j : Nat} {P : MP} {Ps Qs : List MP} {ta tb tc te : TE} {tA tr : TA} {Ψ : Sl → Prop} {v w u : V} {pre : List Sl → (Sl → Prop) → Prop} {dvs : List V} {Ex0 : XK}
theorem AOks.pok (e : En W0 M W σ ρ) : ∀ {vs : List V} {ss : List Sl}, AOks σ ρ W vs ss → POks W vs ss
  | _, _, .nil => .nil
  | _, _, .cons (s := .val P) h t => .cons h (AOks.pok e t)
  | _, _, .cons (s := .bag) ⟨i, h1, h2⟩ t => by
    obtain ⟨u, e1, p, e2, h3, h4, _⟩ := e.ok i _ h1
    rw [h2] at e1
    cases e1
    cases e2
    exact .cons ⟨p, rfl, h3, h4⟩ (AOks.pok e t)
theorem AOks.bag : ∀ {vs : List V} {ss : List Sl} {p : Addr}, AOks σ ρ W vs ss → BagOf vs ss p → Bags σ ρ p
  | _, _, _, .nil, ⟨i, e, _⟩ => by simp at e
  | _, _, _, .cons h t, ⟨0, e1, e2⟩ => by
    simp at e1 e2
    subst e1 e2
    exact h
  | _, _, _, .cons h t, ⟨i + 1, e1, e2⟩ => AOks.bag t ⟨i, by simpa using e1, by simpa using e2⟩
theorem AOks.app {Vs : List MP} {ws : List V} (a : Al W.r ws Vs) : ∀ {vs : List V} {ss : List Sl}, AOks σ ρ W vs ss → AOks σ ρ W (vs ++ ws) (ss ++ Vs.map .val)
  | _, _, .nil => by
    show AOks σ ρ W ws (Vs.map .val)
    induction a with
    | nil => exact .nil
    | cons p _ ih => exact .cons p ih
  | _, _, .cons h t => .cons h (AOks.app a t)
theorem al_sc {H : Hp} : ∀ {vs : List V}, Al H vs (vs.map sc)
  | [] => .nil
  | _ :: _ => .cons rfl al_sc
theorem e_call (h : EA ρ tA fun ss => oneBag (ss ++ (dvs.map sc).map .val) = true ∧ pre (ss ++ (dvs.map sc).map .val) Ψ) : E ρ (tCall (spP pre) dvs Ex0 tA) Ψ := fun W0 M W σ e Q k => h W0 M W σ e _ fun ss vs W1 g1 as q => by
  have as' : AOks σ ρ W1 (vs ++ dvs) (ss ++ (dvs.map sc).map .val) := as.app al_sc
  refine ⟨W1, _, Ψ, rfl, g1.sub, as'.pok (e.go g1), q.1, q.2, fun s v W2 sub le bg r z => ?_⟩
  have g2 : Go σ ρ W1 W2 := ⟨sub, le.more fun p b => as'.bag b, fun p b => ?_⟩
  · exact k s v W2 (g1.trans g2) (r.back e g1) z
  · by_cases c : BagOf (vs ++ dvs) (ss ++ (dvs.map sc).map .val) p
    · exact bg p c
    · obtain ⟨x, y, hb⟩ := ((e.go g1).bag b).1
      exact ⟨x, y, le.h _ _ c hb⟩
theorem d_call (ha : DA ρ tA Ps) (h : ∀ Ψ : Sl → Prop, Ψ (.val P) → pre (Ps.map .val ++ (dvs.map sc).map .val) Ψ) : D ρ (tCall (spP pre) dvs Ex0 tA) P := fun W0 M W σ e Q k =>
  e_call (Ψ := fun s => s = .val P) (EA.of ha ⟨by rw [← List.map_append]; exact oneBag_vals _, h _ rfl⟩) W0 M W σ e _ fun s v W2 g r z => by
    subst z
    exact k v W2 g r
end
end WL

namespace WL
open PySem PySem.Spec PyProof.Rows L2 Evl NF
/-! ### statements -/
structure Post where
  nx : List Sl → Prop
  rt : Sl → Prop
  bk : List Sl → Prop := fun _ => False
  ct : List Sl → Prop := fun _ => False
structure Meets (W0 : Wd) (M : Addr → Prop) (D : Ends) (R : Post) : Prop where
  nx : ∀ W σ ρ, En W0 M W σ ρ → R.nx ρ → D.nx σ W.h
  bk : ∀ W σ ρ, En W0 M W σ ρ → R.bk ρ → D.bk σ W.h
  ct : ∀ W σ ρ, En W0 M W σ ρ → R.ct ρ → D.ct σ W.h
  rt : ∀ s v W, Ex W.r W.h → Le M W0 W → (∀ p, M p → Bg W.h p) → ROk W0 W v s → R.rt s → D.rt v W.h
def G (ts : TS) (ρ : List Sl) (R : Post) : Prop := ∀ W0 M W σ D, En W0 M W σ ρ → Meets W0 M D R → ts D σ W.h
section
variable {K : PySem.W.Frag} {W0 W W1 W2 W3 : Wd} {M : Addr → Prop} {σ : L2.St} {ρ ρ1 ρ2 : List Sl} {i j : Nat} {P P1 P2 P3 : MP} {Ps Qs : List MP} {ta tb tc te tl : TE} {tt t1 t2 : TT} {Ψ : Sl → Prop} {v w u : V} {b b1 b2 : Bool} {R : Post} {t tu tw tz : TS} {s : Sl} {tA : TA}
theorem ROk.base (e : En W0 M W σ ρ) (r : ROk W W2 v s) : ROk W0 W2 v s := by
  cases s with
  | val P => exact r
  | own Ps =>
    obtain ⟨p, vs, h1, h2, h3, h4, h5⟩ := r
    refine ⟨p, vs, h1, h2, h3, ?_, h5⟩
    cases c : W0.h p with
    | none => rfl
    | some o =>
      by_cases m : M p
      · obtain ⟨_, _, z⟩ := e.bags p m
        rw [h4] at z
        cases z
      · have := e.le.h p o m c
        rw [h4] at this
        cases this
  | un => exact r
  | bag => exact r
/-- a slot is set -/
theorem En.set (e : En W0 M W σ ρ) (g : Go σ ρ W W2) (r : ROk W W2 v s) (hi : i < ρ.length) : En W0 M W2 (σ.set i (some v)) (ρ.set i s) := by
  have e2 := e.go g
  have rb := ROk.base e r
  have hσ : i < σ.length := by rw [e.len]; exact hi
  refine ⟨e2.sub, e2.le, e2.old, e2.bags, by rw [List.length_set, List.length_set]; exact e.len, fun k t hk => ?_, fun k l t t' hkl hk hl o1 o2 => ?_⟩
  · by_cases c : i = k
    · subst c
      rw [List.getElem?_set_self hi] at hk
      cases hk
      refine ⟨some v, List.getElem?_set_self hσ, ?_⟩
      cases s with
      | un => trivial
      | val P => exact ⟨v, rfl, r⟩
      | own Ps =>
        obtain ⟨p, vs, rfl, h2, h3, h4, h5⟩ := rb
        exact ⟨p, vs, rfl, h2, h3, h4, h5⟩
      | bag => exact r.elim
    · rw [List.getElem?_set_ne c] at hk
      rw [List.getElem?_set_ne c]
      exact e2.ok k t hk
  · have fr : ∀ {l : Nat} {t' : Sl}, ρ[l]? = some t' → t'.ow = true → s.ow = true → σ[l]? ≠ some (some v) := by
      clear hk hl o1 o2 hkl
      intro l t' hl o2 o1 z
      cases s with
      | un => cases o1
      | val P => cases o1
      | bag => exact r.elim
      | own Ps =>
        obtain ⟨p, vs, rfl, h2, h3, h4, h5⟩ := r
        obtain ⟨u, hu, q⟩ := e.ok l t' hl
        rw [z] at hu
        cases hu
        cases t' with
        | un => cases o2
        | val P => cases o2
        | own Qs =>
          obtain ⟨p', vs', e1, q2, _⟩ := q
          cases e1
          rw [h4] at q2
          cases q2
        | bag =>
          obtain ⟨p', e1, ⟨_, _, q2⟩, _⟩ := q
          cases e1
          rw [h4] at q2
          cases q2
    by_cases c : i = k
    · subst c
      have c2 : i ≠ l := hkl
      rw [List.getElem?_set_self hi] at hk
      rw [List.getElem?_set_ne c2] at hl
      cases hk
      rw [List.getElem?_set_self hσ, List.getElem?_set_ne c2]
      exact (fr hl o2 o1).symm
    · rw [List.getElem?_set_ne c] at hk
      rw [List.getElem?_set_ne c]
      by_cases c2 : i = l
      · subst c2
        rw [List.getElem?_set_self hi] at hl
        cases hl
        rw [List.getElem?_set_self hσ]
        exact fr hk o1 o2
      · rw [List.getElem?_set_ne c2] at hl
        rw [List.getElem?_set_ne c2]
        exact e2.ne k l t t' hkl hk hl o1 o2
/-- less is said of a slot -/
theorem En.less (e : En W0 M W σ ρ) (hl : ρ2.length = ρ.length) (h : ∀ (i : Nat) s, ρ2[i]? = some s → s = .un ∨ ρ[i]? = some s) : En W0 M W σ ρ2 := by
  refine ⟨e.sub, e.le, e.old, e.bags, by rw [e.len, hl], fun i s hs => ?_, fun i j s t n h1 h2 o1 o2 => ?_⟩
  · rcases h i s hs with rfl | h'
    · have hi : i < ρ2.length := (List.getElem?_eq_some_iff.mp hs).1
      exact ⟨_, List.getElem?_eq_getElem (by rw [e.len, ← hl]; exact hi), trivial⟩
    · exact e.ok i s h'
  · have a : ρ[i]? = some s := (h i s h1).resolve_left fun z => by subst z; cases o1
    have b : ρ[j]? = some t := (h j t h2).resolve_left fun z => by subst z; cases o2
    exact e.ne i j s t n a b o1 o2
theorem g_seq (h : G t ρ { R with nx := fun ρ' => G tu ρ' R }) : G (tSeq t tu) ρ R := fun W0 M W σ D e m => h W0 M W σ _ e ⟨fun W2 σ2 ρ2 e2 q => q W0 M W2 σ2 D e2 m, m.bk, m.ct, m.rt⟩
theorem g_next (h : R.nx ρ) : G tNext ρ R := fun W0 M W σ D e m => m.nx W σ ρ e h
theorem g_asg (h : E ρ te fun s => R.nx (ρ.set i s)) (hi : Nat.blt i ρ.length = true := by rfl) : G (tAsg te (gName i)) ρ R := fun W0 M W σ D e m => h W0 M W σ e _ fun s v W2 g r q => m.nx W2 _ _ (e.set g r (Nat.le_of_ble_eq_true hi)) q
theorem g_asgD (h : D ρ te P) (q : R.nx (ρ.set i (.val P))) (hi : Nat.blt i ρ.length = true := by rfl) : G (tAsg te (gName i)) ρ R := g_asg (E.of h q) hi
theorem g_drop (h : E ρ te fun _ => R.nx ρ) : G (tDrop te) ρ R := fun W0 M W σ D e m => h W0 M W σ e _ fun s v W2 g r q => m.nx W2 _ _ (e.go g) q
theorem g_ret (h : E ρ te R.rt) : G (tRet te) ρ R := fun W0 M W σ D e m => h W0 M W σ e _ fun s v W2 g r q => m.rt s v W2 g.sub (e.go g).le (e.go g).bags (ROk.base e r) q
theorem g_retD (h : D ρ te P) (q : R.rt (.val P)) : G (tRet te) ρ R := g_ret (E.of h q)
theorem g_retN (q : R.rt (.val (sc .non))) : G tRetN ρ R := fun W0 M W σ D e m => m.rt (.val (sc .non)) .non W e.sub e.le e.bags rfl q
theorem g_retOwn (h : ρ[i]? = some (.own Ps)) (q : R.rt (.own Ps)) : G (tRet (tVar i)) ρ R := fun W0 M W σ D e m => by
  obtain ⟨u, h1, p, vs, rfl, h3, h4, h5, h6⟩ := e.ok i _ h
  exact ⟨_, h1, m.rt (.own Ps) _ W e.sub e.le e.bags ⟨p, vs, rfl, h3, h4, h5, h6⟩ q⟩
theorem g_if (h : T ρ tt fun b => if b = true then G tu ρ R else G tw ρ R) : G (tIfS tt tu tw) ρ R := fun W0 M W σ D e m => h W0 M W σ e _ fun b W2 g q => by
  cases b with
  | true => exact q W0 M W2 σ D (e.go g) m
  | false => exact q W0 M W2 σ D (e.go g) m
/-- a test that never holds, always holds -/
theorem g_no (h : T ρ tt fun b => b = false) (q : G tw ρ R) : G (tIfS tt tu tw) ρ R := g_if (h.mono fun b z => by subst z; exact q)
theorem g_yes (h : T ρ tt fun b => b = true) (q : G tu ρ R) : G (tIfS tt tu tw) ρ R := g_if (h.mono fun b z => by subst z; exact q)
theorem g_par {tA : TA} (h : DA ρ tA [P1, P2]) (q : R.nx ((ρ.set i (.val P1)).set j (.val P2))) (hi' : Nat.blt i ρ.length = true := by rfl) (hj' : Nat.blt j ρ.length = true := by rfl) : G (tPar i j tA) ρ R := fun W0 M W σ D e m => h W0 M W σ e _ fun vs W2 g a => by
  obtain ⟨v, w, rfl, p1, p2⟩ := a.inv2
  have hi := Nat.le_of_ble_eq_true hi'
  have hj := Nat.le_of_ble_eq_true hj'
  have e1 := e.set (i := i) (s := .val P1) g p1 hi
  exact ⟨v, w, rfl, m.nx W2 _ _ (e1.set (s := .val P2) e1.id p2 (by rw [List.length_set]; exact hj)) q⟩
/-- what is own is settled -/
theorem g_set (h : ρ[i]? = some (.own Ps)) (q : G t (ρ.set i (.val (lst K Ps))) R) : G t ρ R := fun W0 M W σ D e m => by
  obtain ⟨u, h1, p, vs, rfl, h3, h4, h5, h6⟩ := e.ok i _ h
  have ex : Ex W.r (upd W.r p (.lst vs)) := Ex.new h4
  have hi : i < ρ.length := (List.getElem?_eq_some_iff.mp h).1
  refine q W0 M ⟨upd W.r p (.lst vs), W.h⟩ σ D ⟨fun a o (ha : upd W.r p (.lst vs) a = some o) => ?_, ⟨e.le.r.trans ex, e.le.h, fun q hq => ?_⟩, e.old, e.bags, by rw [List.length_set]; exact e.len, fun k s hk => ?_, fun k l s t hkl hk hl o1 o2 => ?_⟩ m
  · by_cases c : a = p
    · subst c
      rw [upd_same] at ha
      cases ha
      exact h3
    · rw [upd_ne c] at ha
      exact e.sub _ _ ha
  · have c : q ≠ p := fun z => by
      obtain ⟨⟨xs, hx, _⟩, _⟩ := hq
      rw [z, h5] at hx
      cases hx
    exact ⟨(e.le.w q hq).1, by show upd W.r p _ q = none; rw [upd_ne c]; exact (e.le.w q hq).2⟩
  · by_cases c : i = k
    · subst c
      rw [List.getElem?_set_self hi] at hk
      cases hk
      exact ⟨_, h1, _, rfl, p, vs, rfl, SqL.of upd_same, h6.mono ex⟩
    · rw [List.getElem?_set_ne c] at hk
      obtain ⟨u, hu, q⟩ := e.ok k s hk
      refine ⟨u, hu, ?_⟩
      cases s with
      | un => trivial
      | val P =>
        obtain ⟨v, rfl, h⟩ := q
        exact ⟨v, rfl, P.mono ex h⟩
      | own Qs =>
        obtain ⟨p', vs', rfl, q3, q4, q5, q6⟩ := q
        have c' : p' ≠ p := fun z => e.ne i k _ _ c h hk rfl rfl (by rw [h1, hu, z])
        exact ⟨p', vs', rfl, q3, by show upd W.r p _ p' = none; rw [upd_ne c']; exact q4, q5, q6.mono ex⟩
      | bag =>
        obtain ⟨p', rfl, q3, q4, q5⟩ := q
        have c' : p' ≠ p := fun z => e.ne i k _ _ c h hk rfl rfl (by rw [h1, hu, z])
        exact ⟨p', rfl, q3, by show upd W.r p _ p' = none; rw [upd_ne c']; exact q4, q5⟩
  · have c1 : i ≠ k := fun z => by subst z; rw [List.getElem?_set_self hi] at hk; cases hk; cases o1
    have c2 : i ≠ l := fun z => by subst z; rw [List.getElem?_set_self hi] at hl; cases hl; cases o2
    rw [List.getElem?_set_ne c1] at hk
    rw [List.getElem?_set_ne c2] at hl
    exact e.ne k l s t hkl hk hl o1 o2
/-- an own list is another list behind -/
theorem En.put (e : En W0 M W σ ρ) (h : ρ[i]? = some (.own Ps)) {p : Addr} (h1 : σ[i]? = some (some (.ref p))) {vs : List V} (a : Al W.r vs Qs) : En W0 M ⟨W.r, upd W.h p (.lst vs)⟩ σ (ρ.set i (.own Qs)) := by
  obtain ⟨u, h1', p', vs', e1, h3, h4, h5, h6⟩ := e.ok i _ h
  rw [h1] at h1'
  cases h1'
  cases e1
  have hi : i < ρ.length := (List.getElem?_eq_some_iff.mp h).1
  have np : ∀ q, M q → q ≠ p := fun q m z => by
    obtain ⟨_, _, x⟩ := e.old q m
    rw [z, h5] at x
    cases x
  refine ⟨fun a o ha => ?_, ⟨e.le.r, fun q o n hq => ?_, fun q hq => ?_⟩, e.old, fun q m => ?_, by rw [List.length_set]; exact e.len, fun k s hk => ?_, fun k l s t hkl hk hl o1 o2 => ?_⟩
  · have c : a ≠ p := fun z => by subst z; rw [show (⟨W.r, upd W.h a (.lst vs)⟩ : Wd).r a = W.r a from rfl, h4] at ha; cases ha
    show upd W.h p _ a = _
    rw [upd_ne c]
    exact e.sub _ _ ha
  · have c : q ≠ p := fun z => by subst z; rw [h5] at hq; cases hq
    show upd W.h p _ q = _
    rw [upd_ne c]
    exact e.le.h _ _ n hq
  · obtain ⟨⟨xs, hx, hnt⟩, h2⟩ := e.le.w q hq
    by_cases c : q = p
    · exact ⟨⟨_, by show upd W.h p _ q = _; rw [c, upd_same], rfl⟩, h2⟩
    · exact ⟨⟨xs, by show upd W.h p _ q = _; rw [upd_ne c]; exact hx, hnt⟩, h2⟩
  · obtain ⟨x, y, hb⟩ := e.bags q m
    exact ⟨x, y, by show upd W.h p _ q = _; rw [upd_ne (np q m)]; exact hb⟩
  · by_cases c : i = k
    · subst c
      rw [List.getElem?_set_self hi] at hk
      cases hk
      exact ⟨_, h1, p, vs, rfl, upd_same, h4, h5, a⟩
    · rw [List.getElem?_set_ne c] at hk
      obtain ⟨u, hu, q⟩ := e.ok k s hk
      refine ⟨u, hu, ?_⟩
      cases s with
      | un => trivial
      | val P => exact q
      | own Rs =>
        obtain ⟨p', vs', rfl, q3, q4, q5, q6⟩ := q
        have c' : p' ≠ p := fun z => e.ne i k _ _ c h hk rfl rfl (by rw [h1, hu, z])
        exact ⟨p', vs', rfl, by show upd W.h p _ p' = _; rw [upd_ne c']; exact q3, q4, q5, q6⟩
      | bag =>
        obtain ⟨p', rfl, ⟨x, y, q3⟩, q4, q5⟩ := q
        have c' : p' ≠ p := fun z => e.ne i k _ _ c h hk rfl rfl (by rw [h1, hu, z])
        exact ⟨p', rfl, ⟨x, y, by show upd W.h p _ p' = _; rw [upd_ne c']; exact q3⟩, q4, q5⟩
  · have up : ∀ {k : Nat} {s : Sl}, (ρ.set i (.own Qs))[k]? = some s → s.ow = true → ∃ s', ρ[k]? = some s' ∧ s'.ow = true := fun {k s} hk o => by
      by_cases c : i = k
      · subst c
        exact ⟨_, h, rfl⟩
      · rw [List.getElem?_set_ne c] at hk
        exact ⟨s, hk, o⟩
    obtain ⟨s', a1, a2⟩ := up hk o1
    obtain ⟨t', b1, b2⟩ := up hl o2
    exact e.ne k l s' t' hkl a1 b1 a2 b2
/-- x.append(e) of an own list -/
theorem g_app (h : ρ[i]? = some (.own Ps)) (hl : Ps.length < 100000) (he : E ρ te fun s => ∃ P, Set K s P ∧ R.nx (ρ.set i (.own (Ps ++ [P])))) : G (tDrop (tBM K "list" rAppend (tVar i) (tCons te tNil))) ρ R := fun W0 M W σ D e m => by
  obtain ⟨u, h1, p, vs, rfl, h3, h4, h5, h6⟩ := e.ok i _ h
  refine ⟨_, h1, .inl ⟨rfl, _, SqL.of h3⟩, ?_⟩
  refine he W0 M W σ e _ fun s v W2 g r q => ?_
  obtain ⟨P, hs, q⟩ := q
  obtain ⟨W3, e1, _, g3, p3⟩ := settle e g r hs
  have e3 := e.go g3
  obtain ⟨u, h1', p', vs', e2, k3, k4, k5, k6⟩ := e3.ok i _ h
  rw [h1] at h1'
  cases h1'
  cases e2
  refine ⟨p, vs', v, rfl, rfl, by rw [← e1]; exact k3, sz_lt (by rw [k6.length]; exact hl), ?_⟩
  rw [← e1]
  exact m.nx _ _ _ (e3.put h h1 (k6.app (Al.one p3))) q
theorem g_appD (h : ρ[i]? = some (.own Ps)) (he : D ρ te P) (hl : Ps.length < 100000) (q : R.nx (ρ.set i (.own (Ps ++ [P])))) : G (tDrop (tBM K "list" rAppend (tVar i) (tCons te tNil))) ρ R := g_app h hl (E.of he ⟨P, .val, q⟩)
/-- x[k] = e -/
theorem g_put {n : Nat} (h : ρ[i]? = some (.own Ps)) (he : D ρ te P) (hn : D ρ tb (sc (.int (n : Int)))) (hl : n < Ps.length) (q : R.nx (ρ.set i (.own (Ps.set n P)))) : G (tAsg te (gSub (tVar i) tb rSetL)) ρ R := fun W0 M W σ D e m => he W0 M W σ e _ fun v W2 g2 pv => by
  have e2 := e.go g2
  obtain ⟨u, h1, p, vs, rfl, h3, h4, h5, h6⟩ := e2.ok i _ h
  refine ⟨_, h1, hn W0 M W2 σ e2 _ fun y W3 g3 py => ?_⟩
  cases py
  have e3 := e2.go g3
  obtain ⟨u, h1', p', vs', e1, k3, k4, k5, k6⟩ := e3.ok i _ h
  rw [h1] at h1'
  cases h1'
  cases e1
  refine ⟨p, vs', n, n, rfl, rfl, k3, ixN_nat (by rw [k6.length]; exact hl), ?_⟩
  exact m.nx _ _ _ (e3.put h h1 (k6.set (P.mono g3.le.r pv) n)) q
/-! ### loops -/
theorem g_forR {n : Int} (h : DA ρ tA [sc (.int n)]) (hn : n < 2 ^ 60) (hm : -(2 ^ 60) < n) (I : Nat → List Sl → Prop) (h0 : I 0 ρ) (hj : ∀ i ρ', I i ρ' → j < ρ'.length) (hs : ∀ (i : Nat) ρ', (i : Int) < n → I i ρ' → G t (ρ'.set j (.val (sc (.int (i : Int))))) { R with nx := I (i + 1), ct := I (i + 1), bk := R.nx }) (hd : ∀ ρ', I n.toNat ρ' → R.nx ρ') :
    G (tFor (iRng1 tA) (gName j) t) ρ R := fun W0 M W σ D e m => h W0 M W σ e _ fun vs W2 g a => by
  obtain ⟨v, rfl, pv⟩ := a.inv1
  cases pv
  refine ⟨n, rfl, by omega, by omega, for_range (lo := 0) (n := n.toNat) (fun i σ' H' => ∃ W' ρ', W'.h = H' ∧ En W0 M W' σ' ρ' ∧ I i ρ') ⟨W2, ρ, rfl, e.go g, h0⟩ ?_ ?_⟩
  · rintro i σ' H' hi ⟨W', ρ', rfl, e', q⟩
    have z : (0 : Int) + (i : Int) = (i : Int) := Int.zero_add _
    show t _ (σ'.set j (some (.int (0 + (i : Int))))) W'.h
    rw [z]
    refine hs i ρ' (by omega) q W0 M W' _ _ (e'.set (s := .val (sc (.int (i : Int)))) e'.id rfl (hj i ρ' q)) ⟨fun W σ ρ e q => ⟨W, ρ, rfl, e, q⟩, m.nx, fun W σ ρ e q => ⟨W, ρ, rfl, e, q⟩, m.rt⟩
  · rintro σ' H' ⟨W', ρ', rfl, e', q⟩
    exact m.nx W' σ' ρ' e' (hd ρ' q)
/-- the base may be raised to what is settled by now -/
theorem En.up (e : En W0 M W σ ρ) : En ⟨W.r, W0.h⟩ M W σ ρ := ⟨e.sub, ⟨Ex.refl _, e.le.h, fun p hp => by
  obtain ⟨h1, h2⟩ := hp
  exact ⟨by
    obtain ⟨xs, hx, hnt⟩ := h1
    by_cases m : M p
    · obtain ⟨x, y, hb⟩ := e.bags p m
      exact ⟨_, hb, rfl⟩
    · exact ⟨xs, e.le.h p _ m hx, hnt⟩, h2⟩⟩, e.old, e.bags, e.len, e.ok, e.ne⟩
theorem Le.down {W' : Wd} (e : Le M W0 W) (l : Le M ⟨W.r, W0.h⟩ W') : Le M W0 W' := ⟨e.r.trans l.r, l.h, fun p hp => l.w p ⟨hp.1, (e.w p hp).2⟩⟩
theorem En.down {W' : Wd} {σ' : L2.St} {ρ' : List Sl} (e : Le M W0 W) (e' : En ⟨W.r, W0.h⟩ M W' σ' ρ') : En W0 M W' σ' ρ' := ⟨e'.sub, Le.down e e'.le, e'.old, e'.bags, e'.len, e'.ok, e'.ne⟩
theorem g_forL (h : E ρ tl fun s => ∃ Ps, Set K s (lst K Ps) ∧ ∃ I : Nat → List Sl → Prop, I 0 ρ ∧ (∀ i ρ', I i ρ' → j < ρ'.length) ∧
      (∀ (i : Nat) P ρ', Ps[i]? = some P → I i ρ' → G t (ρ'.set j (.val P)) { R with nx := I (i + 1), ct := I (i + 1), bk := R.nx }) ∧ ∀ ρ', I Ps.length ρ' → R.nx ρ') :
    G (tFor (iList K tl) (gName j) t) ρ R := fun W0 M W σ D e m => h W0 M W σ e _ fun s v W2 g r q => by
  obtain ⟨Ps, hs, I, h0, hj, hs', hd⟩ := q
  obtain ⟨W3, e1, _, g3, p, vs, rfl, hp, al⟩ := settle e g r hs
  have e3 := e.go g3
  rw [← e1]
  refine ⟨p, rfl, ⟨vs, ex_l g3.sub hp⟩, for_list (xs := vs) (fun i σ' H' => ∃ W' ρ', W'.h = H' ∧ En ⟨W3.r, W0.h⟩ M W' σ' ρ' ∧ I i ρ') ⟨W3, ρ, rfl, e3.up, h0⟩ ?_ ?_ ?_⟩
  · rintro i σ' H' _ ⟨W', ρ', rfl, e', q⟩
    exact ex_l (Ex.trans e'.le.r e'.sub) hp
  · rintro i x σ' H' hi ⟨W', ρ', rfl, e', q⟩
    obtain ⟨P, hP, px⟩ := al.getV hi
    refine hs' i P ρ' hP q ⟨W3.r, W0.h⟩ M W' _ _ (e'.set (s := .val P) e'.id (P.mono e'.le.r px) (hj i ρ' q)) ⟨fun W σ ρ e q => ⟨W, ρ, rfl, e, q⟩, fun W σ ρ e q => m.nx W σ ρ (En.down e3.le e) q, fun W σ ρ e q => ⟨W, ρ, rfl, e, q⟩, fun s v W sub le bg r q => m.rt s v W sub (Le.down e3.le le) bg ?_ q⟩
    cases s with
    | val P => exact r
    | own Ps => exact r
    | un => exact r
    | bag => exact r
  · rintro σ' H' ⟨W', ρ', rfl, e', q⟩
    rw [al.length] at q
    exact m.nx W' σ' ρ' (En.down e3.le e') (hd ρ' q)
theorem g_while (I : Nat → List Sl → Prop) (m0 : Nat) (h0 : I m0 ρ) (hs : ∀ k ρ', I k ρ' → T ρ' tt fun b => if b = true then G t ρ' { R with nx := fun ρ2 => ∃ k2, k2 < k ∧ I k2 ρ2, ct := fun ρ2 => ∃ k2, k2 < k ∧ I k2 ρ2, bk := R.nx } else R.nx ρ') : G (tWhile tt t) ρ R := fun W0 M W σ D e m => by
  refine ⟨fun k σ' H' => ∃ W' ρ', W'.h = H' ∧ En W0 M W' σ' ρ' ∧ I k ρ', ⟨m0, W, ρ, rfl, e, h0⟩, ?_⟩
  rintro k σ' H' ⟨W', ρ', rfl, e', q⟩
  refine hs k ρ' q W0 M W' σ' e' _ fun b W2 g z => ?_
  cases b with
  | true => exact ⟨fun σ' H' => ∃ W' ρ', W'.h = H' ∧ En W0 M W' σ' ρ' ∧ ∃ k2, k2 < k ∧ I k2 ρ', fun σ' H' ⟨W', ρ', a, b, k2, c, d⟩ => ⟨k2, c, W', ρ', a, b, d⟩, z W0 M W2 σ' _ (e'.go g) ⟨fun W σ ρ e q => ⟨W, ρ, rfl, e, q⟩, m.nx, fun W σ ρ e q => ⟨W, ρ, rfl, e, q⟩, m.rt⟩⟩
  | false => exact m.nx W2 σ' ρ' (e'.go g) z
end
/-! ### a def -/
section
variable {P : Program} {w : World} {K : PySem.W.Frag} {mg : Str → Option Value} {base : Heap} {f : Addr} {fd : FuncData} {pre : List Sl → (Sl → Prop) → Prop}
def pEnd (Ψ : Sl → Prop) : Post := { nx := fun _ => Ψ (.val (sc .non)), rt := Ψ }
theorem en_start {N : List Str} {W : Wd} {vs : List V} {ss : List Sl} (sub : Ex W.r W.h) (h : POks W vs ss) (ob : oneBag ss = true) (hl : ss.length ≤ N.length) : En W (BagOf vs ss) W (start N vs) (ss ++ List.replicate (N.length - ss.length) .un) := by
  have hm : ∀ p, BagOf vs ss p → Bg W.h p ∧ W.r p = none := fun p ⟨i, h1, h2⟩ => by
    obtain ⟨v, e1, q, e2, h3, h4⟩ := h.get h1
    rw [h2] at e1
    cases e1
    cases e2
    exact ⟨h3, h4⟩
  have hin : ∀ {i : Nat} {s : Sl}, (ss ++ List.replicate (N.length - ss.length) Sl.un)[i]? = some s → s = .un ∨ ss[i]? = some s := fun {i s} hi => by
    by_cases c : i < ss.length
    · rw [List.getElem?_append_left c] at hi
      exact .inr hi
    · rw [List.getElem?_append_right (by omega)] at hi
      exact .inl (List.eq_of_mem_replicate (List.mem_of_getElem? hi))
  have lv := h.length
  have st : ∀ {i : Nat} {v : V}, vs[i]? = some v → (start N vs)[i]? = some (some v) := fun {i v} hi => by
    have hlt : i < vs.length := (List.getElem?_eq_some_iff.mp hi).1
    unfold L2.start
    rw [List.getElem?_append_left (by rw [List.length_map]; exact hlt), List.getElem?_map, hi]
    rfl
  have ln : (start N vs).length = N.length := by
    unfold L2.start
    rw [List.length_append, List.length_map, List.length_replicate]
    omega
  refine ⟨sub, Le.refl W, fun p m => (hm p m).1, fun p m => (hm p m).1, ?_, fun i s hi => ?_, fun i j s t hij h1 h2 o1 o2 z => ?_⟩
  · rw [ln, List.length_append, List.length_replicate]
    omega
  · have hlt : i < N.length := by
      have := (List.getElem?_eq_some_iff.mp hi).1
      rw [List.length_append, List.length_replicate] at this
      omega
    rcases hin hi with rfl | h'
    · exact ⟨_, List.getElem?_eq_getElem (by rw [ln]; exact hlt), trivial⟩
    · obtain ⟨v, e1, q⟩ := h.get h'
      refine ⟨_, st e1, ?_⟩
      cases s with
      | un => trivial
      | val P => exact ⟨v, rfl, q⟩
      | own Ps => exact q.elim
      | bag =>
        obtain ⟨p, rfl, h3, h4⟩ := q
        exact ⟨p, rfl, h3, h4, .inr ⟨i, h', e1⟩⟩
  · have bagOf : ∀ {k : Nat} {s : Sl}, (ss ++ List.replicate (N.length - ss.length) Sl.un)[k]? = some s → s.ow = true → ss[k]? = some .bag := fun {k s} hk o => by
      rcases hin hk with rfl | h'
      · cases o
      · obtain ⟨v, e1, q⟩ := h.get h'
        cases s with
        | un => cases o
        | val P => cases o
        | own Ps => exact q.elim
        | bag => exact h'
    exact hij (oneBag_eq ob (bagOf h1 o1) (bagOf h2 o2))
theorem fnP {x qual : Str} {st : Stmt} {N ps : List Str} {k : Nat} (F : Fun K x qual st f fd) (S : FnScope N ps (defScope st)) (hN : ps.length ≤ N.length) (len : ∀ ss Ψ, pre ss Ψ → ss.length = ps.length)
    (hb : ∀ (cdv : Value) (A : Around) (outer : List Env) (s : Shared) (H : Hp) (Ex0 : XK), Room k (A.deeper (envOfC qual (defScope st) s.heap.objs.size f cdv)) → ∃ t, PSs (cxOf CX0 P w K mg base N qual (defScope st) f cdv A outer s H Ex0).nox (defBody st) t ∧
      ∀ ss Ψ, pre ss Ψ → G t (ss ++ List.replicate (N.length - ss.length) .un) (pEnd Ψ)) : FnOk P w K mg base CX0 (k + 1) f fd ps (spP pre) := by
  refine F.ok S (fun vs H Q E0 h => ?_) (fun cdv A outer s H vs Q E0 hr h => ?_)
  · obtain ⟨W, ss, Ψ, _, _, h1, _, h2, _⟩ := h
    rw [h1.length]
    exact len ss Ψ h2
  · obtain ⟨W, ss, Ψ, rfl, sub, h1, ob, h2, q⟩ := h
    obtain ⟨t, ht, g⟩ := hb cdv A outer s W.h E0 hr
    refine ⟨t, ht, g ss Ψ h2 W (BagOf vs ss) W _ _ (en_start sub h1 ob (by rw [len ss Ψ h2]; exact hN)) ⟨fun W2 σ ρ e z => q (.val (sc .non)) .non W2 e.sub e.le e.bags rfl z, fun _ _ _ _ z => z.elim, fun _ _ _ _ z => z.elim, fun s v W2 sub le bg r z => q s v W2 sub le bg r z⟩⟩
theorem fnPD {x qual : Str} {params : Arguments} {body : List Stmt} {scope : Scope} {dvs : List V} {N ps : List Str} {k : Nat} (F : FunD K x qual params body scope dvs [] f fd) (S : FnScope N ps scope) (hN : ps.length ≤ N.length) (len : ∀ ss Ψ, pre ss Ψ → ss.length = ps.length)
    (hb : ∀ (cdv : Value) (A : Around) (outer : List Env) (s : Shared) (H : Hp) (Ex0 : XK), Room k (A.deeper (envOfC qual scope s.heap.objs.size f cdv)) → ∃ t, PSs (cxOf CX0 P w K mg base N qual scope f cdv A outer s H Ex0).nox body t ∧
      ∀ ss Ψ, pre ss Ψ → G t (ss ++ List.replicate (N.length - ss.length) .un) (pEnd Ψ)) : FnOk P w K mg base CX0 (k + 1) f fd ps (spP pre) := by
  obtain ⟨oc, od, dV, kV, doc, pm, an, cdv, ct, osl, rfl, lk, hcd, _, _⟩ := F.ex
  refine fn_of lk hcd S (fun vs H Q E0 h => ?_) (fun A outer s H vs Q E0 hr h => ?_)
  · obtain ⟨W, ss, Ψ, _, _, h1, _, h2, _⟩ := h
    rw [h1.length]
    exact len ss Ψ h2
  · obtain ⟨W, ss, Ψ, rfl, sub, h1, ob, h2, q⟩ := h
    obtain ⟨t, ht, g⟩ := hb cdv A outer s W.h E0 hr
    refine ⟨t, ht.nox, g ss Ψ h2 W (BagOf vs ss) W _ _ (en_start sub h1 ob (by rw [len ss Ψ h2]; exact hN)) ⟨fun W2 σ ρ e z => q (.val (sc .non)) .non W2 e.sub e.le e.bags rfl z, fun _ _ _ _ z => z.elim, fun _ _ _ _ z => z.elim, fun s v W2 sub le bg r z => q s v W2 sub le bg r z⟩⟩
end
end WL

namespace WL
open PySem PySem.Spec PyProof.Rows L2 Evl NF
/-! ### what a loop or a comprehension walks -/
structure Grow (W W2 : Wd) : Prop where
  sub : Ex W2.r W2.h
  le : Le (fun _ => False) W W2
abbrev Bd := List (Nat × MP)
def setV : L2.St → Bd → List V → L2.St
  | σ, (j, _) :: L, v :: vs => setV (σ.set j (some v)) L vs
  | σ, _, _ => σ
def setS : List Sl → Bd → List Sl
  | ρ, (j, P) :: L => setS (ρ.set j (.val P)) L
  | ρ, [] => ρ
structure Turns (J : It) (W : Wd) (g : TG) (n : Nat) (B : Nat → Bd → Prop) : Prop where
  stop : ∀ (i : Nat) (W1 : Wd), Ex W.r W1.r → Ex W1.r W1.h → n ≤ i → J.stop i W1.h
  go : ∀ (i : Nat) (W1 : Wd), Ex W.r W1.r → Ex W1.r W1.h → i < n → J.go i W1.h
  yld : ∀ (i : Nat) (W1 : Wd) x H', Ex W.r W1.r → Ex W1.r W1.h → i < n → J.yld i W1.h x H' → ∀ (σ : L2.St) (Q : L2.St → Hp → Prop), (∀ L W2 vs, B i L → Grow W1 W2 → Al W2.r vs (L.map (·.2)) → Q (setV σ L vs) W2.h) → g x σ H' Q
def Wk (ρ : List Sl) (wi : TI) (g : TG) (Φ : Nat → (Nat → Bd → Prop) → Prop) : Prop := ∀ W0 M W σ, En W0 M W σ ρ → ∀ R : It → Hp → Prop, (∀ J W2 n B, Go σ ρ W W2 → Turns J W2 g n B → Φ n B → R J W2.h) → wi σ W.h R
def wipeS (ρ : List Sl) : List Nat → List Sl
  | [] => ρ
  | v :: vs => (wipeS ρ vs).set v .un
section
variable {K : PySem.W.Frag} {W0 W W1 W2 W3 : Wd} {M : Addr → Prop} {σ σ2 : L2.St} {ρ ρ2 : List Sl} {i j k n : Nat} {P P1 P2 P3 : MP} {Ps Qs : List MP} {ta tb tc te tl : TE} {tt t1 t2 : TT} {Ψ : Sl → Prop} {v w u : V} {R : Post} {t tu tw tz : TS} {s : Sl} {tA : TA} {wi : TI} {g : TG} {L : Bd} {Φ : Nat → (Nat → Bd → Prop) → Prop} {vs : List Nat}
theorem Grow.refl (h : Ex W.r W.h) : Grow W W := ⟨h, Le.refl W⟩
theorem Grow.go (e : En W0 M W σ ρ) (g : Grow W W2) : Go σ ρ W W2 := ⟨g.sub, g.le.more fun _ z => z.elim, fun p b => by
  obtain ⟨x, y, h⟩ := (e.bag b).1
  exact ⟨x, y, g.le.h _ _ (fun z => z) h⟩⟩
theorem setS_len : ∀ (L : Bd) (ρ : List Sl), (setS ρ L).length = ρ.length
  | [], _ => rfl
  | (j, P) :: L, ρ => by rw [setS, setS_len L, List.length_set]
theorem En.sets : ∀ {L : Bd} {σ : L2.St} {ρ : List Sl} {vs : List V}, En W0 M W σ ρ → (∀ x ∈ L, x.1 < ρ.length) → Al W.r vs (L.map (·.2)) → En W0 M W (setV σ L vs) (setS ρ L)
  | [], _, _, _, e, _, .nil => e
  | (j, P) :: L, σ, ρ, _, e, h, .cons (v := v) (vs := vs) p t => by
    have e1 : En W0 M W (σ.set j (some v)) (ρ.set j (.val P)) := e.set (s := .val P) e.id p (h (j, P) (List.mem_cons_self ..))
    exact En.sets (L := L) e1 (fun x hx => by rw [List.length_set]; exact h x (List.mem_cons_of_mem _ hx)) t
theorem bags_set (h : s ≠ .bag) {u : Option V} {p : Addr} (b : Bags (σ.set i u) (ρ.set i s) p) : Bags σ ρ p := by
  obtain ⟨k, h1, h2⟩ := b
  by_cases c : i = k
  · subst c
    rw [List.getElem?_set] at h1
    simp only [if_true] at h1
    split at h1
    · exact absurd (Option.some.inj h1) h
    · cases h1
  · rw [List.getElem?_set_ne c] at h1 h2
    exact ⟨k, h1, h2⟩
theorem bags_sets : ∀ {L : Bd} {σ : L2.St} {ρ : List Sl} {vs : List V} {p : Addr}, vs.length = L.length → Bags (setV σ L vs) (setS ρ L) p → Bags σ ρ p
  | [], _, _, [], _, _, b => b
  | [], _, _, _ :: _, _, h, _ => by cases h
  | _ :: _, _, _, [], _, h, _ => by cases h
  | (j, P) :: L, σ, ρ, v :: vs, p, h, b => bags_set (fun z => by cases z) (bags_sets (L := L) (vs := vs) (by simpa using h) b)
theorem En.wipe1 (e : En W0 M W σ ρ) : En W0 M W (σ.set i none) (ρ.set i .un) := by
  refine ⟨e.sub, e.le, e.old, e.bags, by rw [List.length_set, List.length_set]; exact e.len, fun k s hk => ?_, fun k l s t n h1 h2 o1 o2 => ?_⟩
  · by_cases c : i = k
    · subst c
      have hl : i < (ρ.set i Sl.un).length := (List.getElem?_eq_some_iff.mp hk).1
      rw [List.length_set] at hl
      rw [List.getElem?_set_self hl] at hk
      cases hk
      exact ⟨none, List.getElem?_set_self (by rw [e.len]; exact hl), trivial⟩
    · rw [List.getElem?_set_ne c] at hk ⊢
      exact e.ok k s hk
  · have ne : ∀ {k : Nat} {s : Sl}, (ρ.set i Sl.un)[k]? = some s → s.ow = true → i ≠ k := fun {k s} hk o c => by
      subst c
      have hl : i < (ρ.set i Sl.un).length := (List.getElem?_eq_some_iff.mp hk).1
      rw [List.length_set] at hl
      rw [List.getElem?_set_self hl] at hk
      cases hk
      cases o
    have a := ne h1 o1
    have b := ne h2 o2
    rw [List.getElem?_set_ne a] at h1 ⊢
    rw [List.getElem?_set_ne b] at h2 ⊢
    exact e.ne k l s t n h1 h2 o1 o2
theorem En.wipe : ∀ (vs : List Nat), En W0 M W σ ρ → En W0 M W (L2.wipe σ vs) (wipeS ρ vs)
  | [], e => e
  | v :: vs, e => (En.wipe vs e).wipe1
theorem bags_wipe : ∀ {vs : List Nat} {p : Addr}, Bags (L2.wipe σ vs) (wipeS ρ vs) p → Bags σ ρ p
  | [], _, b => b
  | v :: vs, _, b => bags_wipe (vs := vs) (bags_set (fun z => by cases z) b)
theorem wipeS_len : ∀ (vs : List Nat) (ρ : List Sl), (wipeS ρ vs).length = ρ.length
  | [], _ => rfl
  | v :: vs, ρ => by rw [wipeS, List.length_set, wipeS_len vs]
theorem wipe_get : ∀ {vs : List Nat} {σ : L2.St} {i : Nat}, (L2.wipe σ vs)[i]? = if i ∈ vs then (if i < σ.length then some none else none) else σ[i]?
  | [], σ, i => by simp [L2.wipe]
  | v :: vs, σ, i => by
    show ((L2.wipe σ vs).set v none)[i]? = _
    by_cases c : v = i
    · subst c
      rw [List.getElem?_set]
      simp only [if_true, L2.wipe_length, List.mem_cons_self]
    · rw [List.getElem?_set_ne c, wipe_get]
      have : i ∈ v :: vs ↔ i ∈ vs := by simp [Ne.symm c]
      simp only [this]
theorem setV_len : ∀ (L : Bd) (σ : L2.St) (vs : List V), (setV σ L vs).length = σ.length
  | [], _, _ => by cases ‹List V› <;> rfl
  | _ :: _, _, [] => rfl
  | (j, P) :: L, σ, v :: vs => by rw [setV, setV_len L, List.length_set]
theorem setV_get : ∀ {L : Bd} {σ : L2.St} {us : List V} {i : Nat}, (∀ x ∈ L, x.1 ≠ i) → (setV σ L us)[i]? = σ[i]?
  | [], σ, us, i, _ => by cases us <;> rfl
  | _ :: _, _, [], _, _ => rfl
  | (j, P) :: L, σ, v :: vs, i, h => by
    rw [setV, setV_get (fun x hx => h x (List.mem_cons_of_mem _ hx)), List.getElem?_set_ne (h (j, P) (List.mem_cons_self ..))]
theorem wipe_sets {us : List V} (h : ∀ x ∈ L, x.1 ∈ vs) : L2.wipe (setV (L2.wipe σ vs) L us) vs = L2.wipe σ vs := by
  apply List.ext_getElem?
  intro i
  rw [wipe_get, setV_len, L2.wipe_length]
  by_cases c : i ∈ vs
  · rw [if_pos c, wipe_get, if_pos c]
  · rw [if_neg c, setV_get (i := i) fun x hx z => c (by rw [← z]; exact h x hx)]
theorem Go.sub_ (e : En W0 M W σ ρ) (h : ∀ p, Bags σ2 ρ2 p → Bags σ ρ p) (g : Go σ2 ρ2 W W2) : Go σ ρ W W2 := ⟨g.sub, g.le.more h, fun p b => by
  by_cases c : Bags σ2 ρ2 p
  · exact g.bg p c
  · obtain ⟨x, y, hb⟩ := (e.bag b).1
    exact ⟨x, y, g.le.h _ _ c hb⟩⟩
def fitS (L : Bd) (n : Nat) : Bool := L.all fun x => Nat.blt x.1 n
def fitC (L : Bd) (n : Nat) (vs : List Nat) : Bool := L.all fun x => Nat.blt x.1 n && vs.any fun v => Nat.beq x.1 v
theorem fitS_ok (h : fitS L n = true) : ∀ x ∈ L, x.1 < n := fun x hx => Nat.le_of_ble_eq_true (List.all_eq_true.mp h x hx)
theorem fitC_ok (h : fitC L n vs = true) : ∀ x ∈ L, x.1 < n ∧ x.1 ∈ vs := fun x hx => by
  have := List.all_eq_true.mp h x hx
  rw [Bool.and_eq_true] at this
  obtain ⟨a, b⟩ := this
  obtain ⟨v, hv, e⟩ := List.any_eq_true.mp b
  refine ⟨Nat.le_of_ble_eq_true a, ?_⟩
  rw [Nat.eq_of_beq_eq_true e]
  exact hv
/-! ### for -/
theorem g_for (h : Wk ρ wi g fun n B => ∃ I : Nat → List Sl → Prop, I 0 ρ ∧ (∀ i L ρ', i < n → B i L → I i ρ' → fitS L ρ'.length = true ∧ G t (setS ρ' L) { R with nx := I (i + 1), ct := I (i + 1), bk := R.nx }) ∧ ∀ ρ', I n ρ' → R.nx ρ') : G (tFor wi g t) ρ R := fun W0 M W σ D e m => h W0 M W σ e _ fun J W3 n B g3 T q => by
  obtain ⟨I, h0, hs, hd⟩ := q
  have e3 := e.go g3
  refine ⟨fun i m σ' H' => m = n - i ∧ i ≤ n ∧ ∃ W' ρ', W'.h = H' ∧ En ⟨W3.r, W0.h⟩ M W' σ' ρ' ∧ I i ρ', ⟨_, rfl, Nat.zero_le _, W3, ρ, rfl, e3.up, h0⟩, ?_⟩
  rintro i m' σ' H' ⟨rfl, hi, W', ρ', rfl, e', q⟩
  by_cases hlt : i < n
  · refine .inr ⟨T.go i W' e'.le.r e'.sub hlt, fun σ' H' => ∃ W' ρ', W'.h = H' ∧ En ⟨W3.r, W0.h⟩ M W' σ' ρ' ∧ I (i + 1) ρ', fun σ2 H2 z => ⟨n - (i + 1), by omega, rfl, hlt, z⟩, fun x H2 y => ?_⟩
    refine T.yld i W' x H2 e'.le.r e'.sub hlt y σ' _ fun L W4 us hB gr al => ?_
    obtain ⟨hL, body⟩ := hs i L ρ' hlt hB q
    have e4 := (e'.go (gr.go e')).sets (fitS_ok hL) al
    refine body ⟨W3.r, W0.h⟩ M W4 _ _ e4 ⟨fun W σ ρ e q => ⟨W, ρ, rfl, e, q⟩, fun W σ ρ e q => m.nx W σ ρ (En.down e3.le e) q, fun W σ ρ e q => ⟨W, ρ, rfl, e, q⟩, fun s v W sub le bg r q => m.rt s v W sub (Le.down e3.le le) bg ?_ q⟩
    cases s with
    | val P => exact r
    | own Ps => exact r
    | un => exact r
    | bag => exact r
  · have ei : i = n := by omega
    subst ei
    exact .inl ⟨T.stop i W' e'.le.r e'.sub (Nat.le_refl _), m.nx W' σ' ρ' (En.down e3.le e') (hd ρ' q)⟩
/-! ### list comprehensions -/
theorem e_lc (h : Wk ρ wi g fun n B => n ≤ 50000 ∧ ∃ I : Nat → List MP → Prop, I 0 [] ∧ (∀ i L acc, i < n → B i L → I i acc → fitC L ρ.length vs = true ∧ acc.length ≤ i ∧ T (setS (wipeS ρ vs) L) tt fun b => if b = true then E (setS (wipeS ρ vs) L) te (fun s => ∃ P, Set K s P ∧ I (i + 1) (acc ++ [P])) else I (i + 1) acc) ∧ ∀ acc, I n acc → Ψ (.own acc)) :
    E ρ (tLc wi g tt te vs) Ψ := fun W0 M W σ e Q k => h W0 M W σ e _ fun J W2 n B g2 T q => by
  obtain ⟨hn, I, h0, hs, hd⟩ := q
  intro Dl hD
  have e2 := e.go g2
  have nb : ∀ {p}, Bags σ ρ p → p ≠ Dl := fun b z => by
    obtain ⟨_, _, x⟩ := (e2.bag b).1
    rw [z, hD] at x
    cases x
  have rD : W2.r Dl = none := by
    cases c : W2.r Dl with
    | none => rfl
    | some o => rw [g2.sub _ _ c] at hD; cases hD
  refine ⟨fun i m H' => m = n - i ∧ i ≤ n ∧ ∃ W' av ap, W'.h = H' ∧ Go σ ρ W2 W' ∧ H' Dl = some (.lst av) ∧ W'.r Dl = none ∧ Al W'.r av ap ∧ I i ap, ⟨_, rfl, Nat.zero_le _, ?_⟩, ?_⟩
  · obtain ⟨W3, e1, e4, g3, _⟩ := e_new (Ps := []) e2 e2.id hD .nil
    exact ⟨W3, [], [], e1, g3, upd_same, by rw [e4]; exact rD, .nil, h0⟩
  · rintro i m' H' ⟨rfl, hi, W', av, ap, rfl, g', hDl, rD', al, q⟩
    have e' := e2.go g'
    by_cases hlt : i < n
    · refine .inr ⟨T.go i W' g'.le.r g'.sub hlt, fun H' => ∃ W' av ap, W'.h = H' ∧ Go σ ρ W2 W' ∧ H' Dl = some (.lst av) ∧ W'.r Dl = none ∧ Al W'.r av ap ∧ I (i + 1) ap, fun H2 z => ⟨n - (i + 1), by omega, rfl, hlt, z⟩, fun x H2 y => ?_⟩
      refine T.yld i W' x H2 g'.le.r g'.sub hlt y (L2.wipe σ vs) _ fun L W4 us hB gr alu => ?_
      obtain ⟨hL', hlen, body⟩ := hs i L ap hlt hB q
      have hL := fitC_ok hL'
      refine ⟨wipe_sets fun x hx => (hL x hx).2, ?_⟩
      have g4 : Go σ ρ W' W4 := gr.go e'
      have e4 : En W0 M W4 (setV (L2.wipe σ vs) L us) (setS (wipeS ρ vs) L) := ((e'.go g4).wipe vs).sets (fun x hx => by rw [wipeS_len]; exact (hL x hx).1) alu
      have sb : ∀ p, Bags (setV (L2.wipe σ vs) L us) (setS (wipeS ρ vs) L) p → Bags σ ρ p := fun p b => bags_wipe (bags_sets (by rw [alu.length, List.length_map]) b)
      refine body W0 M W4 _ e4 _ fun b W5 g5 z => ?_
      have G5 : Go σ ρ W' W5 := g4.trans (Go.sub_ (e'.go g4) sb g5)
      have e5 := e'.go G5
      have dl : W5.h Dl = some (.lst av) := G5.le.h _ _ (fun b => nb b rfl) hDl
      have rd : W5.r Dl = none := (G5.le.w Dl ⟨⟨_, hDl, rfl⟩, rD'⟩).2
      cases b with
      | false => exact ⟨W5, av, ap, rfl, g'.trans G5, dl, rd, al.mono G5.le.r, z⟩
      | true =>
        refine z W0 M W5 _ (e4.go g5) _ fun s v W6 g6 r q6 => ?_
        obtain ⟨P, hS, hI⟩ := q6
        obtain ⟨W7, e1, _, g7, p7⟩ := settle (e4.go g5) g6 r hS
        have G7 : Go σ ρ W5 W7 := Go.sub_ e5 sb g7
        have dl7 : W7.h Dl = some (.lst av) := G7.le.h _ _ (fun b => nb b rfl) dl
        have rd7 : W7.r Dl = none := (G7.le.w Dl ⟨⟨_, dl, rfl⟩, rd⟩).2
        have al7 := (al.mono G5.le.r).mono G7.le.r
        have GG := (g'.trans G5).trans G7
        refine ⟨av, by rw [← e1]; exact dl7, sz_lt (by rw [al.length]; omega), ?_⟩
        rw [← e1]
        refine ⟨⟨W7.r, upd W7.h Dl (.lst (av ++ [v]))⟩, av ++ [v], ap ++ [P], rfl, ⟨fun a o ha => ?_, ⟨GG.le.r, fun p o n hp => ?_, fun p hp => ?_⟩, fun p b => ?_⟩, upd_same, rd7, al7.app (Al.one p7), hI⟩
        · have c : a ≠ Dl := fun z => by
            have ha' : W7.r a = some o := ha
            rw [z, rd7] at ha'
            cases ha'
          show upd W7.h Dl _ a = _
          rw [upd_ne c]
          exact GG.sub _ _ ha
        · have c : p ≠ Dl := fun z => by rw [z, hD] at hp; cases hp
          show upd W7.h Dl _ p = _
          rw [upd_ne c]
          exact GG.le.h _ _ n hp
        · have c : p ≠ Dl := fun z => by
            obtain ⟨⟨xs, hx, _⟩, _⟩ := hp
            rw [z, hD] at hx
            cases hx
          obtain ⟨⟨xs, hx, hnt⟩, hr⟩ := GG.le.w p hp
          exact ⟨⟨xs, by show upd W7.h Dl _ p = _; rw [upd_ne c]; exact hx, hnt⟩, hr⟩
        · obtain ⟨x, y, hb⟩ := GG.bg p b
          exact ⟨x, y, by show upd W7.h Dl _ p = _; rw [upd_ne (nb b)]; exact hb⟩
    · have ei : i = n := by omega
      subst ei
      refine .inl ⟨T.stop i W' g'.le.r g'.sub (Nat.le_refl _), k (.own ap) _ W' (g2.trans g') (ROk.back e g2 ⟨Dl, av, rfl, hDl, rD', hD, al⟩) (hd ap q)⟩
/-! ### what may be walked -/
theorem wk_range {m : Int} (h : DA ρ tA [sc (.int m)]) (hn : m < 2 ^ 60) (hm : -(2 ^ 60) < m) (q : Φ m.toNat fun i L => L = [(j, sc (.int (i : Int)))]) : Wk ρ (iRng1 tA) (gName j) Φ := fun W0 M W σ e R k => h W0 M W σ e _ fun vs W2 g a => by
  obtain ⟨v, rfl, pv⟩ := a.inv1
  cases pv
  refine ⟨m, rfl, by omega, by omega, k _ W2 _ _ g ⟨fun i W1 _ _ h => h, fun i W1 _ _ h => h, fun i W1 x H' _ sub hi y σ' Q z => ?_⟩ q⟩
  obtain ⟨rfl, rfl⟩ := y
  have := z [(j, sc (.int (i : Int)))] W1 [.int (i : Int)] rfl (Grow.refl sub) (Al.one rfl)
  have z0 : (0 : Int) + (i : Int) = (i : Int) := Int.zero_add _
  show Q (σ'.set j (some (.int (0 + (i : Int))))) W1.h
  rw [z0]
  exact this
theorem wk_list (h : E ρ tl fun s => ∃ Ps, Set K s (lst K Ps) ∧ Φ Ps.length fun i L => ∃ P, Ps[i]? = some P ∧ L = [(j, P)]) : Wk ρ (iList K tl) (gName j) Φ := fun W0 M W σ e R k => h W0 M W σ e _ fun s v W2 g r q => by
  obtain ⟨Ps, hs, q⟩ := q
  obtain ⟨W3, e1, _, g3, p, vs, rfl, hp, al⟩ := settle e g r hs
  rw [← e1]
  have sq : ∀ {W1 : Wd}, Ex W3.r W1.r → Ex W1.r W1.h → SqL K W1.h p vs := fun a b => ex_l (a.trans b) hp
  refine ⟨p, rfl, ⟨vs, ex_l g3.sub hp⟩, k _ W3 _ _ g3 ⟨fun i W1 a b h => ⟨vs, sq a b, by rw [al.length]; exact h⟩, fun i W1 a b h => ⟨vs, _, sq a b, List.getElem?_eq_getElem (by rw [al.length]; exact h)⟩, fun i W1 x H' a b hi y σ' Q z => ?_⟩ q⟩
  obtain ⟨rfl, y⟩ := y
  obtain ⟨P, hP, px⟩ := al.getV (y vs (sq a b))
  exact z [(j, P)] W1 [x] ⟨P, hP, rfl⟩ (Grow.refl b) (Al.one (P.mono a px))
theorem wk_listD (h : D ρ tl (lst K Ps)) (q : Φ Ps.length fun i L => ∃ P, Ps[i]? = some P ∧ L = [(j, P)]) : Wk ρ (iList K tl) (gName j) Φ := wk_list (E.of h ⟨Ps, .val, q⟩)
/-- a new pair in the heap -/
theorem grow_tup {p : Addr} {us : List V} (sub : Ex W.r W.h) (hp : W.h p = none) : Grow W ⟨upd W.r p (.tup us), upd W.h p (.tup us)⟩ := by
  have rp : W.r p = none := by
    cases c : W.r p with
    | none => rfl
    | some o => rw [sub _ _ c] at hp; cases hp
  refine ⟨fun q o hq => ?_, ⟨Ex.new rp, fun q o _ hq => Ex.new hp _ _ hq, fun q hq => ?_⟩⟩
  · by_cases c : q = p
    · subst c
      have hq' : upd W.r q (.tup us) q = some o := hq
      rw [upd_same] at hq'
      cases hq'
      exact upd_same
    · have hq' : upd W.r p (.tup us) q = some o := hq
      rw [upd_ne c] at hq'
      show upd W.h p _ q = _
      rw [upd_ne c]
      exact sub _ _ hq'
  · obtain ⟨⟨xs, h1, hnt⟩, h2⟩ := hq
    have c : q ≠ p := fun z => by rw [z, hp] at h1; cases h1
    exact ⟨⟨xs, by show upd W.h p _ q = _; rw [upd_ne c]; exact h1, hnt⟩, by show upd W.r p _ q = _; rw [upd_ne c]; exact h2⟩
theorem wk_enum (h : D ρ tl (lst K Ps)) (q : Φ Ps.length fun i L => ∃ P, Ps[i]? = some P ∧ L = [(j, sc (.int (i : Int))), (k, P)]) : Wk ρ (iEnum K (tCons tl tNil)) (gTup K 2 (gCons (gName j) (gCons (gName k) gNil))) Φ := fun W0 M W σ e R kk => h W0 M W σ e _ fun v W2 g pv => by
  obtain ⟨p, vs, rfl, hp, al⟩ := pv
  have sq : ∀ {W1 : Wd}, Ex W2.r W1.r → Ex W1.r W1.h → SqL K W1.h p vs := fun a b => ex_l (a.trans b) hp
  refine ⟨p, vs, rfl, ex_l g.sub hp, kk _ W2 _ _ g ⟨fun i W1 a b h => ⟨vs, sq a b, by rw [al.length]; exact h⟩, fun i W1 a b h => ⟨vs, _, sq a b, List.getElem?_eq_getElem (by rw [al.length]; exact h)⟩, fun i W1 x H' a b hi y σ' Q z => ?_⟩ q⟩
  obtain ⟨T, y, rfl, nT, rfl, fy⟩ := y
  obtain ⟨P, hP, px⟩ := al.getV (fy vs (sq a b))
  have gr := grow_tup (us := [.int (i : Int), y]) b nT
  exact ⟨T, _, rfl, SqT.of upd_same, rfl, _, _, rfl, _, _, rfl, rfl, z [(j, sc (.int (i : Int))), (k, P)] _ [.int (i : Int), y] ⟨P, hP, rfl⟩ gr (.cons rfl (Al.one (P.mono gr.le.r (P.mono a px))))⟩
theorem wk_zip {tl2 : TE} (h : D ρ tl (lst K Ps)) (h2 : D ρ tl2 (lst K Qs)) (hl : Ps.length = Qs.length) (q : Φ Ps.length fun i L => ∃ P Q, Ps[i]? = some P ∧ Qs[i]? = some Q ∧ L = [(j, P), (k, Q)]) : Wk ρ (iZip K (tCons tl (tCons tl2 tNil))) (gTup K 2 (gCons (gName j) (gCons (gName k) gNil))) Φ := fun W0 M W σ e R kk => h W0 M W σ e _ fun v W2 g pv => h2 W0 M W2 σ (e.go g) _ fun v3 W3 g3 pv3 => by
  obtain ⟨p, vs, rfl, hp, al⟩ := pv
  obtain ⟨p3, vs3, rfl, hp3, al3⟩ := pv3
  have al := al.mono g3.le.r
  have hp := ex_l g3.le.r hp
  have sq : ∀ {W1 : Wd}, Ex W3.r W1.r → Ex W1.r W1.h → SqL K W1.h p vs := fun a b => ex_l (a.trans b) hp
  have sq3 : ∀ {W1 : Wd}, Ex W3.r W1.r → Ex W1.r W1.h → SqL K W1.h p3 vs3 := fun a b => ex_l (a.trans b) hp3
  refine ⟨p, p3, vs, vs3, rfl, ex_l g3.sub hp, ex_l g3.sub hp3, kk _ W3 _ _ (g.trans g3) ⟨fun i W1 a b h => ⟨vs, vs3, sq a b, sq3 a b, .inl (by rw [al.length]; exact h)⟩, fun i W1 a b h => ⟨vs, vs3, _, _, sq a b, sq3 a b, List.getElem?_eq_getElem (by rw [al.length]; exact h), List.getElem?_eq_getElem (by rw [al3.length, ← hl]; exact h)⟩, fun i W1 x H' a b hi y σ' Q z => ?_⟩ q⟩
  obtain ⟨T, y, y3, rfl, nT, rfl, fy, fy3⟩ := y
  obtain ⟨P, hP, px⟩ := al.getV (fy vs (sq a b))
  obtain ⟨P3, hP3, px3⟩ := al3.getV (fy3 vs3 (sq3 a b))
  have gr := grow_tup (us := [y, y3]) b nT
  exact ⟨T, _, rfl, SqT.of upd_same, rfl, _, _, rfl, _, _, rfl, rfl, z [(j, P), (k, P3)] _ [y, y3] ⟨P, P3, hP, hP3, rfl⟩ gr (.cons (P.mono gr.le.r (P.mono a px)) (Al.one (P3.mono gr.le.r (P3.mono a px3))))⟩
end
end WL

namespace WL
open PySem PySem.Spec PyProof.Rows L2 Evl NF
section
variable {K : PySem.W.Frag} {W0 W W1 W2 W3 : Wd} {M : Addr → Prop} {σ σ2 : L2.St} {ρ ρ2 : List Sl} {i j k n : Nat} {P P1 P2 P3 : MP} {Ps Qs : List MP} {ta tb tc td te tl : TE} {tt t1 t2 : TT} {Ψ : Sl → Prop} {v w u : V} {R : Post} {t tu tw tz : TS} {s : Sl} {tA tr : TA} {b b1 b2 b3 : Bool} {r r1 r2 r3 : R2}
/-! ### kinds -/
abbrev int (i : Int) : MP := sc (.int i)
abbrev str (z : Str) : MP := sc (.str z)
abbrev tru (b : Bool) : MP := sc (.bl b)
abbrev rats (K : PySem.W.Frag) (xs : List Rat) : MP := lst K (xs.map (rat K))
abbrev rows (K : PySem.W.Frag) (xss : List (List Rat)) : MP := lst K (xss.map (rats K))
abbrev txts (K : PySem.W.Frag) (zs : List Str) : MP := lst K (zs.map str)
abbrev nums (K : PySem.W.Frag) (ns : List Int) : MP := lst K (ns.map int)
theorem al_int {H : Hp} : ∀ {ns : List Int} {vs : List V}, Al H vs (ns.map int) → vs = ns.map V.int
  | [], _, .nil => rfl
  | _ :: _, _, .cons h t => by
    rw [h, al_int t]
    rfl
theorem al_str {H : Hp} : ∀ {ns : List Str} {vs : List V}, Al H vs (ns.map str) → vs = ns.map V.str
  | [], _, .nil => rfl
  | _ :: _, _, .cons h t => by
    rw [h, al_str t]
    rfl
theorem al_bl {H : Hp} : ∀ {ns : List Bool} {vs : List V}, Al H vs (ns.map tru) → vs = ns.map V.bl
  | [], _, .nil => rfl
  | _ :: _, _, .cons h t => by
    rw [h, al_bl t]
    rfl
theorem al_of_int {H : Hp} : ∀ (ns : List Int), Al H (ns.map V.int) (ns.map int)
  | [] => .nil
  | _ :: ns => .cons rfl (al_of_int ns)
theorem al_of_str {H : Hp} : ∀ (ns : List Str), Al H (ns.map V.str) (ns.map str)
  | [] => .nil
  | _ :: ns => .cons rfl (al_of_str ns)
theorem al_rat {H : Hp} : ∀ {xs : List Rat} {vs : List V}, Al H vs (xs.map (rat K)) → RtAll K H vs xs
  | [], _, .nil => .nil
  | _ :: _, _, .cons h t => .cons h (al_rat t)
theorem al_of_rat {H : Hp} : ∀ {xs : List Rat} {vs : List V}, RtAll K H vs xs → Al H vs (xs.map (rat K))
  | [], _, .nil => .nil
  | _ :: _, _, .cons h t => .cons h (al_of_rat t)
theorem al_rows {H : Hp} : ∀ {xss : List (List Rat)} {vs : List V}, Al H vs (xss.map (rats K)) → Rows K H vs xss
  | [], _, .nil => .nil
  | _ :: _, _, .cons h t => by
    obtain ⟨p, us, rfl, h1, h2⟩ := h
    exact .cons h1 (al_rat h2) (al_rows t)
theorem map_at {α : Type} {f : α → MP} {xs : List α} {i : Nat} {P : MP} (h : (xs.map f)[i]? = some P) : ∃ x, xs[i]? = some x ∧ P = f x := by
  rw [List.getElem?_map] at h
  cases c : xs[i]? with
  | none => rw [c] at h; cases h
  | some x => rw [c] at h; cases h; exact ⟨x, rfl, rfl⟩
theorem at_map {α : Type} {f : α → MP} {xs : List α} {i : Nat} {x : α} (h : xs[i]? = some x) : (xs.map f)[i]? = some (f x) := by rw [List.getElem?_map, h]; rfl
/-! ### more tests -/
theorem d_chain3 (ha : D ρ ta P) (hb : D ρ tb P1) (h1 : OpV r1 P P1 (tru b1)) (hc : b1 = true → D ρ tc P2) (h2 : b1 = true → OpV r2 P1 P2 (tru b2)) (hd : b1 = true → b2 = true → D ρ td P3) (h3 : b1 = true → b2 = true → OpV r3 P2 P3 (tru b3)) : D ρ (tChain3 r1 r2 r3 ta tb tc td) (tru (b1 && (b2 && b3))) := fun W0 M W σ e Q k =>
  ha W0 M W σ e _ fun x W1 g1 px => hb W0 M W1 σ (e.go g1) _ fun y W2 g2 py => h1 W2.r W2.h x y g2.sub (P.mono g2.le.r px) py _ fun v pv => by
    cases pv
    refine ⟨b1, rfl, ?_⟩
    have e2 := (e.go g1).go g2
    cases b1 with
    | false => exact k _ W2 (g1.trans g2) rfl
    | true =>
      refine hc rfl W0 M W2 σ e2 _ fun z W3 g3 pz => h2 rfl W3.r W3.h y z g3.sub (P1.mono g3.le.r py) pz _ fun v pv => ?_
      cases pv
      refine ⟨b2, rfl, ?_⟩
      cases b2 with
      | false => exact k _ W3 ((g1.trans g2).trans g3) rfl
      | true => exact hd rfl rfl W0 M W3 σ (e2.go g3) _ fun u W4 g4 pu => h3 rfl rfl W4.r W4.h z u g4.sub (P2.mono g4.le.r pz) pu _ fun v pv => k v W4 (((g1.trans g2).trans g3).trans g4) pv
theorem T.is (h : D ρ te (tru b)) : T ρ (tTest te) fun c => c = b := T.of h rfl
theorem T.isB (h : D ρ te (tru b)) : T ρ (tB te) fun c => c = b := T.of h rfl
/-- two tests by what they come to -/
theorem t_or2 (h1 : T ρ t1 fun c => c = b1) (h2 : b1 = false → T ρ t2 fun c => c = b2) : T ρ (tOr t1 t2) fun c => c = (b1 || b2) := t_or (h1.mono fun c z => by
  subst z
  cases c with
  | true => rfl
  | false => exact (h2 rfl).mono fun c z => by subst z; rfl)
theorem t_and2 (h1 : T ρ t1 fun c => c = b1) (h2 : b1 = true → T ρ t2 fun c => c = b2) : T ρ (tAnd t1 t2) fun c => c = (b1 && b2) := t_and (h1.mono fun c z => by
  subst z
  cases c with
  | false => rfl
  | true => exact (h2 rfl).mono fun c z => by subst z; rfl)
theorem t_not1 (h1 : T ρ t1 fun c => c = b1) : T ρ (tNot t1) fun c => c = !b1 := t_not (h1.mono fun c z => by subst z; rfl)
theorem T.eq (h : T ρ tt fun c => c = b1) (e : b1 = b) : T ρ tt fun c => c = b := e ▸ h
/-- an if by what its test comes to -/
theorem g_ifb (h : T ρ tt fun c => c = b) (h1 : b = true → G tu ρ R) (h2 : b = false → G tw ρ R) : G (tIfS tt tu tw) ρ R := g_if (h.mono fun c z => by
  subst z
  cases c with
  | true => exact h1 rfl
  | false => exact h2 rfl)
theorem g_when (h : T ρ tt fun c => c = b) (h1 : b = true → G tu ρ R) (h2 : b = false → R.nx ρ) : G (tIfS tt tu tNext) ρ R := g_ifb h h1 fun z => g_next (h2 z)
/-! ### lists that are read and made -/
theorem cl_sorted {ns : List Int} {ms : List Int} (hl : ns.length < 64) (hp : ms.Perm ns) (hs : ms.Pairwise (· ≤ ·)) : CbL (rSorted K) [nums K ns] (ms.map int) := fun R H vs s a C k => by
  obtain ⟨v, rfl, p, ws, rfl, h1, h2⟩ := a.inv1
  rw [al_int h2] at h1
  refine ⟨p, ns, rfl, ex_l s h1, hl, fun ns' q hp' hs' hq => ?_⟩
  have : ns' = ms := List.Perm.eq_of_pairwise (le := (· ≤ ·)) (fun a b _ _ h1 h2 => Int.le_antisymm h1 h2) hs' hs (hp'.trans hp.symm)
  subst this
  exact k q _ hq (al_of_int _)
theorem own_sorted {ns : List Int} {ms : List Int} (h : ρ[i]? = some (.own (ns.map int))) (hl : ns.length < 64) (hp : ms.Perm ns) (hs : ms.Pairwise (· ≤ ·)) (q : Ψ (.own (ms.map int))) : E ρ (tCB (rSorted K) (tCons (tVar i) tNil)) Ψ := fun W0 M W σ e Q kk => by
  obtain ⟨u, h1, p, vs, rfl, h3, h4, h5, h6⟩ := e.ok i _ h
  rw [al_int h6] at h3
  refine ⟨_, h1, p, ns, rfl, SqL.of h3, hl, fun ns' q' hp' hs' hq => ?_⟩
  have : ns' = ms := List.Perm.eq_of_pairwise (le := (· ≤ ·)) (fun a b _ _ h1 h2 => Int.le_antisymm h1 h2) hs' hs (hp'.trans hp.symm)
  subst this
  obtain ⟨W3, e1, _, g3, r3⟩ := e_new e e.id hq (al_of_int ns')
  rw [← e1]
  exact kk _ _ W3 g3 r3 q
theorem inV_int {a : Int} : ∀ {ns : List Int}, inV (.int a) (ns.map V.int) = decide (a ∈ ns)
  | [] => by simp [inV]
  | n :: ns => by
    have ih := inV_int (a := a) (ns := ns)
    unfold inV at *
    rw [List.map_cons, List.any_cons, ih]
    have e : eqV (.int n) (.int a) = decide (a = n) := by
      show (n == a) = decide (a = n)
      by_cases c : a = n
      · subst c; simp
      · simp [c, Ne.symm c]
    simp only [e, List.mem_cons, Bool.decide_or]
theorem flat_ints : ∀ (ns : List Int), (ns.map V.int).all flatV = true
  | [] => rfl
  | _ :: ns => by
    rw [List.map_cons, List.all_cons, flat_ints ns]
    rfl
theorem own_in {a : Int} {ns : List Int} {neg : Bool} (ha : D ρ ta (int a)) (h : ρ[i]? = some (.own (ns.map int))) : D ρ (tOp (rIn K neg) ta (tVar i)) (tru (if neg then !decide (a ∈ ns) else decide (a ∈ ns))) := fun W0 M W σ e Q kk => ha W0 M W σ e _ fun x W2 g2 px => by
  cases px
  obtain ⟨u, h1, p, vs, rfl, h3, h4, h5, h6⟩ := (e.go g2).ok i _ h
  rw [al_int h6] at h3
  exact ⟨_, h1, p, _, rfl, .inl (SqL.of h3), rfl, flat_ints _, by rw [inV_int]; exact kk _ W2 g2 rfl⟩
theorem ov_in {a : Int} {ns : List Int} {neg : Bool} : OpV (rIn K neg) (int a) (nums K ns) (tru (if neg then !decide (a ∈ ns) else decide (a ∈ ns))) := fun R H x y s px py C k => by
  cases px
  obtain ⟨p, vs, rfl, h1, h2⟩ := py
  rw [al_int h2] at h1
  exact ⟨p, _, rfl, .inl (ex_l s h1), rfl, flat_ints _, by rw [inV_int]; exact k _ rfl⟩
theorem e_cat (h : E ρ ta fun s => ∃ Ps, s = .own Ps ∧ E ρ tb fun s => ∃ Qs, s = .own Qs ∧ Ps.length + Qs.length ≤ 100000 ∧ Ψ (.own (Ps ++ Qs))) : E ρ (tOp rCat ta tb) Ψ := fun W0 M W σ e Q kk => h W0 M W σ e _ fun s v W1 g1 r1 q => by
  obtain ⟨Ps, rfl, q⟩ := q
  obtain ⟨p, vs, rfl, h2, h3, h4, h5⟩ := r1
  have e1 := e.go g1
  refine q W0 M W1 σ e1 _ fun s v W2 g2 r2 q => ?_
  obtain ⟨Qs, rfl, hl, q⟩ := q
  obtain ⟨p2, vs2, rfl, k2, k3, k4, k5⟩ := r2
  have np : ¬ Bags σ ρ p := fun b => by
    obtain ⟨_, _, z⟩ := (e.bag b).1
    rw [h4] at z
    cases z
  have a2 := (h5.mono g2.le.r).app k5
  refine ⟨p, p2, vs, vs2, rfl, rfl, g2.le.h _ _ np h2, k2, sz_of (by rw [h5.length, k5.length]; exact hl), fun l hl => ?_⟩
  obtain ⟨W3, e3, _, g3, r3⟩ := e_new e (g1.trans g2) hl a2
  rw [← e3]
  exact kk _ _ W3 g3 r3 q
theorem own_slice {tl th : TO} {lo hi : Option Int} (h : ρ[i]? = some (.own Ps)) (h1 : ∀ σ H (Q : Option Int → Hp → Prop), En W0 M W σ ρ → Q lo H → tl σ H Q) : True := trivial
def DO (ρ : List Sl) (to : TO) (o : Option Int) : Prop := ∀ W0 M W σ, En W0 M W σ ρ → ∀ Q : Option Int → Hp → Prop, (∀ W2, Go σ ρ W W2 → Q o W2.h) → to σ W.h Q
theorem do_none : DO ρ tNoPart none := fun W0 M W σ e Q k => k W e.id
theorem do_some {a : Int} (h : D ρ te (int a)) : DO ρ (tPart te) (some a) := fun W0 M W σ e Q k => h W0 M W σ e _ fun v W2 g p => by
  cases p
  exact ⟨a, rfl, k W2 g⟩
def cut {α : Type} (xs : List α) (lo hi : Option Int) : List α := (xs.drop (HT.sIx xs.length 0 lo)).take (HT.sIx xs.length xs.length hi - HT.sIx xs.length 0 lo)
theorem al_cut {H : Hp} {vs : List V} {lo hi : Option Int} (h : Al H vs Ps) : Al H (cutV vs lo hi) (cut Ps lo hi) := by
  unfold cutV cut
  rw [h.length]
  exact (h.drop _).take _
theorem own_sl {to th : TO} {lo hi : Option Int} (h : ρ[i]? = some (.own Ps)) (h1 : DO ρ to lo) (h2 : DO ρ th hi) (q : Ψ (.own (cut Ps lo hi))) : E ρ (tSl (rSlL K) (tVar i) to th) Ψ := fun W0 M W σ e Q kk => by
  obtain ⟨u, a1, p, vs, rfl, a3, a4, a5, a6⟩ := e.ok i _ h
  refine ⟨_, a1, h1 W0 M W σ e _ fun W2 g2 => h2 W0 M W2 σ (e.go g2) _ fun W3 g3 => ?_⟩
  have G := g2.trans g3
  obtain ⟨u, a1', p', vs', e1, b3, b4, b5, b6⟩ := (e.go G).ok i _ h
  rw [a1] at a1'
  cases a1'
  cases e1
  refine ⟨p, vs', rfl, SqL.of b3, fun l hl => ?_⟩
  obtain ⟨W4, e4, _, g4, r4⟩ := e_new e G hl (al_cut b6)
  rw [← e4]
  exact kk _ _ W4 g4 r4 q
theorem e_sl {to th : TO} {lo hi : Option Int} (h : D ρ te (lst K Ps)) (h1 : DO ρ to lo) (h2 : DO ρ th hi) (q : Ψ (.own (cut Ps lo hi))) : E ρ (tSl (rSlL K) te to th) Ψ := fun W0 M W σ e Q kk => h W0 M W σ e _ fun v W1 g1 pv => by
  obtain ⟨p, vs, rfl, hp, al⟩ := pv
  refine h1 W0 M W1 σ (e.go g1) _ fun W2 g2 => h2 W0 M W2 σ ((e.go g1).go g2) _ fun W3 g3 => ?_
  have G := (g1.trans g2).trans g3
  have ex := g2.le.r.trans g3.le.r
  refine ⟨p, vs, rfl, ex_l (ex.trans g3.sub) hp, fun l hl => ?_⟩
  obtain ⟨W4, e4, _, g4, r4⟩ := e_new e G hl (al_cut (al.mono ex))
  rw [← e4]
  exact kk _ _ W4 g4 r4 q
theorem cut_hi {α : Type} {xs : List α} {k : Nat} (h : k ≤ xs.length) : cut xs (some (k : Int)) none = xs.drop k := by
  have e1 : HT.sIx xs.length 0 (some (k : Int)) = k := by
    unfold HT.sIx
    simp only []
    rw [if_neg (by omega)]
    simp
    omega
  have e2 : HT.sIx xs.length xs.length none = xs.length := rfl
  unfold cut
  rw [e1, e2, List.take_of_length_le (by rw [List.length_drop]; omega)]
theorem cut_lo {α : Type} {xs : List α} {k : Nat} (h : k ≤ xs.length) : cut xs none (some (k : Int)) = xs.take k := by
  have e1 : HT.sIx xs.length xs.length (some (k : Int)) = k := by
    unfold HT.sIx
    simp only []
    rw [if_neg (by omega)]
    simp
    omega
  have e2 : HT.sIx xs.length 0 none = 0 := rfl
  unfold cut
  rw [e1, e2]
  simp
/-! ### lists compared, shown -/
def IsD (K : PySem.W.Frag) (P : MP) (d : PyData) : Prop := ∀ H v, P.p H v → Dp K H v d
theorem isd_int (a : Int) : IsD K (int a) (.int a) := fun H v h => by cases h; exact .int a
theorem isd_str (a : Str) : IsD K (str a) (.str a) := fun H v h => by cases h; exact .str a
theorem isd_bl (a : Bool) : IsD K (tru a) (.bool a) := fun H v h => by cases h; exact .bl a
theorem isd_non : IsD K (sc .non) .none := fun H v h => by cases h; exact .non
theorem isd_rat (x : Rat) : IsD K (rat K x) (fd x) := fun H v h => dp_rt h
theorem isd_map {α : Type} {f : α → MP} {d : α → PyData} (h : ∀ x, IsD K (f x) (d x)) {H : Hp} : ∀ {xs : List α} {vs : List V}, Al H vs (xs.map f) → DpAll K H vs (xs.map d)
  | [], _, .nil => .nil
  | _ :: _, _, .cons p t => .cons (h _ _ _ p) (isd_map h t)
theorem isd_lst {α : Type} {f : α → MP} {d : α → PyData} (h : ∀ x, IsD K (f x) (d x)) (xs : List α) : IsD K (lst K (xs.map f)) (.list (xs.map d)) := fun H v q => by
  obtain ⟨p, vs, rfl, h1, h2⟩ := q
  exact .lst h1 (isd_map h h2)
theorem ov_eq {d e : PyData} (h1 : IsD K P d) (h2 : IsD K P2 e) (s1 : SeqAt.shaped d = true) (s2 : SeqAt.shaped e = true) : OpV (rEqD K) P P2 (tru (PyData.eqv d e)) := fun R H x y s px py C k => ⟨d, e, h1 _ _ (P.mono s px), h2 _ _ (P2.mono s py), s1, s2, k _ rfl⟩
theorem ov_ne {d e : PyData} (h1 : IsD K P d) (h2 : IsD K P2 e) (s1 : SeqAt.shaped d = true) (s2 : SeqAt.shaped e = true) : OpV (rNeD K) P P2 (tru (!PyData.eqv d e)) := fun R H x y s px py C k => ⟨d, e, h1 _ _ (P.mono s px), h2 _ _ (P2.mono s py), s1, s2, k _ rfl⟩
theorem cb_rep {d : PyData} (h1 : IsD K P d) (f : Fine d) : CbV (NF.rRep K) [P] (str d.shown) := fun R H vs s a C k => by
  obtain ⟨v, rfl, p⟩ := a.inv1
  exact ⟨v, d, rfl, h1 _ _ (P.mono s p), f, k _ rfl⟩
/-! ### a name takes its parts -/
theorem g_unpack (h : E ρ te fun s => ∃ P1 P2, s = .val (tup K [P1, P2]) ∧ R.nx ((ρ.set i (.val P1)).set j (.val P2))) (hi' : Nat.blt i ρ.length = true := by rfl) (hj' : Nat.blt j ρ.length = true := by rfl) : G (tAsg te (gTup K 2 (gCons (gName i) (gCons (gName j) gNil)))) ρ R := fun W0 M W σ D e m => h W0 M W σ e _ fun s v W2 g r q => by
  obtain ⟨P1, P2, rfl, q⟩ := q
  obtain ⟨p, vs, rfl, hp, al⟩ := r
  obtain ⟨x, y, rfl, px, py⟩ := al.inv2
  have hi := Nat.le_of_ble_eq_true hi'
  have hj := Nat.le_of_ble_eq_true hj'
  have e1 := e.set (i := i) (s := .val P1) g px hi
  exact ⟨p, _, rfl, ex_t g.sub hp, rfl, _, _, rfl, _, _, rfl, rfl, m.nx W2 _ _ (e1.set (s := .val P2) e1.id py (by rw [List.length_set]; exact hj)) q⟩
/-- a list of two nums becomes a bag -/
theorem g_bag {a c : Int} (h : ρ[i]? = some (.own [int a, int c])) (q : G t (ρ.set i .bag) R) : G t ρ R := fun W0 M W σ D e m => by
  obtain ⟨u, h1, p, vs, rfl, h3, h4, h5, h6⟩ := e.ok i _ h
  obtain ⟨x, y, rfl, e1, e2⟩ := h6.inv2
  cases e1
  cases e2
  have hi : i < ρ.length := (List.getElem?_eq_some_iff.mp h).1
  refine q W0 M W σ D ⟨e.sub, e.le, e.old, e.bags, by rw [List.length_set]; exact e.len, fun k s hk => ?_, fun k l s t hkl hk hl o1 o2 => ?_⟩ m
  · by_cases c : i = k
    · subst c
      rw [List.getElem?_set_self hi] at hk
      cases hk
      exact ⟨_, h1, p, rfl, ⟨_, _, h3⟩, h4, .inl h5⟩
    · rw [List.getElem?_set_ne c] at hk
      exact e.ok k s hk
  · have up : ∀ {k : Nat} {s : Sl}, (ρ.set i .bag)[k]? = some s → s.ow = true → ∃ s', ρ[k]? = some s' ∧ s'.ow = true := fun {k s} hk o => by
      by_cases c : i = k
      · subst c
        exact ⟨_, h, rfl⟩
      · rw [List.getElem?_set_ne c] at hk
        exact ⟨s, hk, o⟩
    obtain ⟨s', a1, a2⟩ := up hk o1
    obtain ⟨t', b1, b2⟩ := up hl o2
    exact e.ne k l s' t' hkl a1 b1 a2 b2
end
/-! ### promises of the old form -/
def Rplus (R H : Hp) : Hp := fun q => match R q with
  | some o => some o
  | none => match H q with
    | some (.tup xs) => some (.tup xs)
    | some (.frz o (.tup xs)) => some (.frz o (.tup xs))
    | _ => none
section
variable {K : PySem.W.Frag} {W : Wd} {R H H' : Hp} {v : V} {x : Rat} {vs : List V} {ss : List Sl} {M : Addr → Prop}
theorem rplus_ex : Ex R (Rplus R H) := fun q o h => by
  unfold Rplus
  rw [h]
theorem rplus_sub (e : Ex R H) : Ex (Rplus R H) H := fun q o h => by
  unfold Rplus at h
  cases c : R q with
  | some o' =>
    rw [c] at h
    cases h
    exact e _ _ c
  | none =>
    rw [c] at h
    cases d : H q with
    | none => rw [d] at h; cases h
    | some o' =>
      rw [d] at h
      cases o' with
      | tup xs => exact h
      | frz a b =>
        cases b with
        | tup xs => exact h
        | _ => cases h
      | _ => cases h
theorem rplus_t {a : Addr} {xs : List V} (e : Ex R H) (h : SqT K H a xs) : SqT K (Rplus R H) a xs := by
  have up : ∀ {o}, H a = some o → (o = .tup xs ∨ ∃ ob, o = .frz ob (.tup xs)) → Rplus R H a = some o := fun {o} ha ho => by
    unfold Rplus
    cases c : R a with
    | some o' =>
      have := e _ _ c
      rw [ha] at this
      cases this
      rfl
    | none =>
      rw [ha]
      rcases ho with rfl | ⟨ob, rfl⟩ <;> rfl
  rcases h with (h | ⟨ob, h⟩) | h
  · exact .inl (.inl (up h (.inl rfl)))
  · exact .inl (.inr ⟨ob, up h (.inr ⟨ob, rfl⟩)⟩)
  · exact .inr h
theorem rplus_le (sub : Ex W.r W.h) (e : Ex W.h H') : Le M W ⟨Rplus W.r H', H'⟩ := ⟨rplus_ex, fun p o _ h => e _ _ h, fun p hp => by
  obtain ⟨⟨xs, h1, hnt⟩, h2⟩ := hp
  refine ⟨⟨xs, e _ _ h1, hnt⟩, ?_⟩
  show Rplus W.r H' p = none
  unfold Rplus
  rw [h2, e _ _ h1]
  cases xs with
  | tup xs => cases hnt
  | frz a b =>
    cases b with
    | tup xs => cases hnt
    | _ => rfl
  | _ => rfl⟩
theorem rplus_rt (e : Ex R H) (h : Rt K H v x) : Rt K (Rplus R H) v x := by
  obtain ⟨p, e1, h⟩ := h
  exact ⟨p, e1, rplus_t e h⟩
theorem rplus_rts (e : Ex R H) : ∀ {us : List V} {xs : List Rat}, RtAll K H us xs → RtAll K (Rplus R H) us xs
  | _, _, .nil => .nil
  | _, _, .cons h t => .cons (rplus_rt e h) (rplus_rts e t)
/-- an old promise of a value that is scalar, a fraction, a new list of fractions -/
theorem old_v (sub : Ex W.r W.h) (pk : POks W vs ss) {Ψ : Sl → Prop} {Q : VK} (q : ∀ s v W2, Ex W2.r W2.h → Le (BagOf vs ss) W W2 → (∀ p, BagOf vs ss p → Bg W2.h p) → ROk W W2 v s → Ψ s → Q v W2.h) (e : Ex W.h H') (z : Ψ (.val (sc v))) : Q v H' :=
  q (.val (sc v)) v ⟨Rplus W.r H', H'⟩ (rplus_sub (sub.trans e)) (rplus_le sub e) (fun p ⟨i, h1, h2⟩ => by
    obtain ⟨v, e1, q, e2, ⟨a, b, h3⟩, _⟩ := pk.get h1
    rw [h2] at e1
    cases e1
    cases e2
    exact ⟨a, b, e _ _ h3⟩) rfl z
theorem old_r (sub : Ex W.r W.h) (pk : POks W vs ss) {Ψ : Sl → Prop} {Q : VK} (q : ∀ s v W2, Ex W2.r W2.h → Le (BagOf vs ss) W W2 → (∀ p, BagOf vs ss p → Bg W2.h p) → ROk W W2 v s → Ψ s → Q v W2.h) (e : Ex W.h H') (r : Rt K H' v x) (z : Ψ (.val (rat K x))) : Q v H' :=
  q (.val (rat K x)) v ⟨Rplus W.r H', H'⟩ (rplus_sub (sub.trans e)) (rplus_le sub e) (fun p ⟨i, h1, h2⟩ => by
    obtain ⟨v, e1, q, e2, ⟨a, b, h3⟩, _⟩ := pk.get h1
    rw [h2] at e1
    cases e1
    cases e2
    exact ⟨a, b, e _ _ h3⟩) (rplus_rt (sub.trans e) r) z
theorem old_l {p : Addr} {us : List V} {xs : List Rat} (sub : Ex W.r W.h) (pk : POks W vs ss) {Ψ : Sl → Prop} {Q : VK} (q : ∀ s v W2, Ex W2.r W2.h → Le (BagOf vs ss) W W2 → (∀ p, BagOf vs ss p → Bg W2.h p) → ROk W W2 v s → Ψ s → Q v W2.h) (np : W.h p = none) (e : Ex W.h H') (hp : H' p = some (.lst us)) (r : RtAll K H' us xs) (z : Ψ (.own (xs.map (rat K)))) : Q (.ref p) H' :=
  q (.own (xs.map (rat K))) (.ref p) ⟨Rplus W.r H', H'⟩ (rplus_sub (sub.trans e)) (rplus_le sub e) (fun p ⟨i, h1, h2⟩ => by
    obtain ⟨v, e1, q, e2, ⟨a, b, h3⟩, _⟩ := pk.get h1
    rw [h2] at e1
    cases e1
    cases e2
    exact ⟨a, b, e _ _ h3⟩) ⟨p, us, rfl, hp, by
      show Rplus W.r H' p = none
      unfold Rplus
      have rp : W.r p = none := by
        cases c : W.r p with
        | none => rfl
        | some o => rw [sub _ _ c] at np; cases np
      rw [rp, hp], np, al_of_rat (rplus_rts (sub.trans e) r)⟩ z
end
end WL

namespace NF
open PySem PySem.Spec PyProof.Rows L2 Evl
def topS (i : Nat) : Stmt := PySem.Challenge.pw_neartwins_k10_whole_behind_more_steps.main.body.getD i (.Pass ⟨0, 0, 0, 0⟩)
abbrev s_greatest_divisor : Stmt := topS 12
theorem sc_greatest_divisor : FnScope ["one", "other"] ["one", "other"] (defScope s_greatest_divisor) := ⟨rfl, rfl, rfl, by decide +kernel, rfl, by decide +kernel, by decide +kernel⟩
abbrev s_reduced : Stmt := topS 14
theorem sc_reduced : FnScope ["top", "bottom", "divisor"] ["top", "bottom"] (defScope s_reduced) := ⟨rfl, rfl, rfl, by decide +kernel, rfl, by decide +kernel, by decide +kernel⟩
abbrev s_plus : Stmt := topS 15
theorem sc_plus : FnScope ["one", "other"] ["one", "other"] (defScope s_plus) := ⟨rfl, rfl, rfl, by decide +kernel, rfl, by decide +kernel, by decide +kernel⟩
abbrev s_times : Stmt := topS 16
theorem sc_times : FnScope ["one", "other"] ["one", "other"] (defScope s_times) := ⟨rfl, rfl, rfl, by decide +kernel, rfl, by decide +kernel, by decide +kernel⟩
section
variable {P : Program} {w : World} {K : PySem.W.Frag} {mg : Str → Option Value} {base : Heap} {f : Addr} {fd : FuncData}
theorem ok_gcd (F : Fun K "greatest_divisor" "greatest_divisor" s_greatest_divisor f fd) (n_abs : mg "abs" = none) : FnOk P w K mg base CX0 1 f fd ["one", "other"] spGcd := by
  refine F.ok sc_greatest_divisor (fun vs H Q E h => ?_) (fun cdv A outer s H vs Q E hr h => ?_)
  · obtain ⟨a, b, rfl, _⟩ := h
    rfl
  · obtain ⟨a, b, rfl, q⟩ := h
    refine ⟨_, (pss_cons (ps_while PassesOwn.never (pt_cmpR op_ne (pv 1) pe_int (nomark _)) (pss_one (ps_par (i := 0) (j := 1) (by rfl) sc_greatest_divisor.nd rfl rfl (by decide) rfl rfl (pa_cons (pv 1) (pa_cons (pe_op op_modN (pv 0) (pv 1)) pa_nil)) (by rfl))))
      (pss_one (ps_ret (pe_callB call_abs (by rfl) n_abs PyProof.Rows.boot_abs (pa_cons (pv 0) pa_nil))))), ?_⟩
    refine q_while (fun m σ' H' => ∃ c d : Int, σ' = [some (.int c), some (.int d)] ∧ d.natAbs = m ∧ Int.gcd c d = Int.gcd a b ∧ Ex H H') b.natAbs ⟨a, b, rfl, rfl, rfl, Ex.refl H⟩ ?_
    rintro m σ' H' ⟨c, d, rfl, rfl, eg, ex⟩
    refine ⟨_, et_test (ev_op (ev_var rfl) ev_c (rv_ne rfl)), fun hb H1 e1 => ?_, fun hb H1 e1 => ?_⟩
    · have hd : d ≠ 0 := by
        intro z
        subst z
        simp at hb
      obtain ⟨g1, g2⟩ := gcd_step (a := c) hd
      refine ⟨fun σ2 H2 => ∃ c' d' : Int, σ2 = [some (.int c'), some (.int d')] ∧ d'.natAbs < d.natAbs ∧ Int.gcd c' d' = Int.gcd a b ∧ Ex H H2, ?_, ?_⟩
      · rintro σ2 H2 ⟨c', d', e, l, g, x⟩
        exact ⟨_, l, c', d', e, rfl, g, x⟩
      · exact s_par (ea_cons (ev_var rfl) (ea_cons (ev_op (ev_var rfl) (ev_var rfl) (rv_I hd)) ea_nil)) fun H2 e2 => ⟨d, c.fmod d, rfl, g2, by rw [g1, eg], (ex.trans e1).trans e2⟩
    · have hd : d = 0 := by
        by_cases z : d = 0
        · exact z
        · simp [z] at hb
      subst hd
      have ea : RC (fun xs H Q => ∃ i, xs = [V.int i] ∧ Q (V.int (if i < 0 then -i else i)) H) [V.int c] H1 (V.int (if c < 0 then -c else c)) := fun H1 _ Q' q' => ⟨c, rfl, q' H1 (Ex.refl H1)⟩
      refine s_ret (v := .int (Int.gcd a b)) (ev_is (ev_cb (ea_cons (ev_var rfl) ea_nil) ea) ?_) fun H2 e2 => q H2 ((ex.trans e1).trans e2)
      rw [← eg, Int.gcd_zero_right]
      congr 1
      split <;> omega
theorem ok_red (F : Fun K "reduced" "reduced" s_reduced f fd) (C_greatest_divisor : Cal P w K mg base 1 "greatest_divisor" ["one", "other"] [] spGcd) : FnOk P w K mg base CX0 2 f fd ["top", "bottom"] (spRed K) := by
  refine F.ok sc_reduced (fun vs H Q E h => ?_) (fun cdv A outer s H vs Q E hr h => ?_)
  · obtain ⟨a, b, _, rfl, _⟩ := h
    rfl
  · obtain ⟨a, b, B, rfl, hb0, ha, hb, hB0, hB, q⟩ := h
    refine ⟨_, (pss_cons (ps_set (i := 2) sc_reduced.nd rfl (.inl rfl) (pe_cal C_greatest_divisor hr (by decide) (by rfl) (pa_cons (pv 0) (pa_cons (pv 1) pa_nil))))
      (pss_cons (ps_if (pt_cmpR op_lt (pv 1) pe_int (nomark _)) (pss_one (ps_set (i := 2) sc_reduced.nd rfl (.inl rfl) (pe_un un_neg (pv 2)))) pss_nil)
      (pss_one (ps_ret (pe_tup (pa_cons (pe_op op_fdivX (pv 0) (pv 2)) (pa_cons (pe_op op_fdivX (pv 1) (pv 2)) pa_nil))))))), ?_⟩
    have hg : 0 < Int.gcd a b := Int.gcd_pos_of_ne_zero_right _ hb0
    have hgb : ((Int.gcd a b : Nat) : Int).natAbs < 2 ^ B := by
      have h1 : Int.gcd a b ≤ b.natAbs := Nat.le_of_dvd (by omega) (Int.gcd_dvd_natAbs_right a b)
      omega
    refine q_asg (ev_gcd (ev_var rfl) (ev_var rfl)) fun H1 e1 => ?_
    refine q_ifAsg (v := .int (if b < 0 then -(Int.gcd a b : Int) else Int.gcd a b)) (et_test (ev_op (ev_var rfl) ev_c rv_I0)) (fun hb => ?_) (fun hb => ?_) fun H2 e2 => ?_
    · have hl : b < 0 := of_decide_eq_true hb
      rw [if_pos hl]
      exact ev_un (ev_var rfl) ru_neg
    · have hl : ¬ b < 0 := of_decide_eq_false hb
      rw [if_neg hl]
      rfl
    · have hd0 : (if b < 0 then -(Int.gcd a b : Int) else Int.gcd a b) ≠ 0 := by split <;> omega
      have hdb : (if b < 0 then -(Int.gcd a b : Int) else Int.gcd a b).natAbs < 2 ^ B := by split <;> omega
      refine s_retU (eu_tup (ea_cons (ev_op (ev_var rfl) (ev_var rfl) (rv_I (divX hd0 hdb hB0 hB))) (ea_cons (ev_op (ev_var rfl) (ev_var rfl) (rv_I (divX hd0 hdb hB0 hB))) ea_nil)) (by show 2 ≤ 100000; decide)) fun p H3 _ e3 hp => ?_
      refine q _ _ ((e1.trans e2).trans e3) (Rt.of hp ?_ ?_)
      · by_cases hl : b < 0
        · rw [if_pos hl]
          exact (red_neg hl).1
        · rw [if_neg hl]
          exact (red_pos (by omega)).1
      · by_cases hl : b < 0
        · rw [if_pos hl]
          exact (red_neg hl).2
        · rw [if_neg hl]
          exact (red_pos (by omega)).2
theorem ok_plus (F : Fun K "plus" "plus" s_plus f fd) (C_reduced : Cal P w K mg base 2 "reduced" ["top", "bottom"] [] (spRed K)) : FnOk P w K mg base CX0 3 f fd ["one", "other"] (sp2 K (fun _ _ => True) (· + ·)) := by
  refine F.ok sc_plus (fun vs H Q E h => ?_) (fun cdv A outer s H vs Q E hr h => ?_)
  · obtain ⟨_, _, _, _, _, rfl, _⟩ := h
    rfl
  · obtain ⟨v, w, x, y, B, rfl, rx, ry, _, sx, sy, h0, hB, q⟩ := h
    refine ⟨_, (pss_one (ps_ret (pe_cal C_reduced hr (by decide) (by rfl) (pa_cons (pe_op op_add (pe_op op_mulW (pe_ix ix_tup (pv 0) pe_int (fun _ _ => rfl)) (pe_ix ix_tup (pv 1) pe_int (fun _ _ => rfl))) (pe_op op_mulW (pe_ix ix_tup (pv 1) pe_int (fun _ _ => rfl)) (pe_ix ix_tup (pv 0) pe_int (fun _ _ => rfl)))) (pa_cons (pe_op op_mulW (pe_ix ix_tup (pv 0) pe_int (fun _ _ => rfl)) (pe_ix ix_tup (pv 1) pe_int (fun _ _ => rfl))) pa_nil))))), ?_⟩
    have m1 := rv_I (H := H) (g := fun i j => V.int (i * j)) (wide_mul sx.num sy.den h0 h0 (by omega))
    have m2 := rv_I (H := H) (g := fun i j => V.int (i * j)) (wide_mul sy.num sx.den h0 h0 (by omega))
    have m3 := rv_I (H := H) (g := fun i j => V.int (i * j)) (wide_mul sx.den sy.den h0 h0 (by omega))
    have a1 : EvF K (tVar 0) (start ["one", "other"] [v, w]) H x := ef_var rfl rx
    have a2 : EvF K (tVar 1) (start ["one", "other"] [v, w]) H y := ef_var rfl ry
    refine s_retF (EvF.to (ef_red (B := 2 * B + 1) (ev_op (ev_op (ev_ix0 a1) (ev_ix1 a2) m1) (ev_op (ev_ix0 a2) (ev_ix1 a1) m2) rv_I0) (ev_op (ev_ix1 a1) (ev_ix1 a2) m3) (den_mul0 x y)
      (bits_up (bits_add (bits_mul sx.num sy.den) (bits_mul sy.num sx.den)) (by omega)) (bits_up (bits_mul sx.den sy.den) (by omega)) (by omega) (by omega)) (add_rt x y).symm) fun u H1 e1 r => q u H1 e1 r
theorem ok_times (F : Fun K "times" "times" s_times f fd) (C_reduced : Cal P w K mg base 2 "reduced" ["top", "bottom"] [] (spRed K)) : FnOk P w K mg base CX0 3 f fd ["one", "other"] (sp2 K (fun _ _ => True) (· * ·)) := by
  refine F.ok sc_times (fun vs H Q E h => ?_) (fun cdv A outer s H vs Q E hr h => ?_)
  · obtain ⟨_, _, _, _, _, rfl, _⟩ := h
    rfl
  · obtain ⟨v, w, x, y, B, rfl, rx, ry, _, sx, sy, h0, hB, q⟩ := h
    refine ⟨_, (pss_one (ps_ret (pe_cal C_reduced hr (by decide) (by rfl) (pa_cons (pe_op op_mulW (pe_ix ix_tup (pv 0) pe_int (fun _ _ => rfl)) (pe_ix ix_tup (pv 1) pe_int (fun _ _ => rfl))) (pa_cons (pe_op op_mulW (pe_ix ix_tup (pv 0) pe_int (fun _ _ => rfl)) (pe_ix ix_tup (pv 1) pe_int (fun _ _ => rfl))) pa_nil))))), ?_⟩
    have m1 := rv_I (H := H) (g := fun i j => V.int (i * j)) (wide_mul sx.num sy.num h0 h0 (by omega))
    have m3 := rv_I (H := H) (g := fun i j => V.int (i * j)) (wide_mul sx.den sy.den h0 h0 (by omega))
    have a1 : EvF K (tVar 0) (start ["one", "other"] [v, w]) H x := ef_var rfl rx
    have a2 : EvF K (tVar 1) (start ["one", "other"] [v, w]) H y := ef_var rfl ry
    refine s_retF (EvF.to (ef_red (B := 2 * B + 1) (ev_op (ev_ix0 a1) (ev_ix0 a2) m1) (ev_op (ev_ix1 a1) (ev_ix1 a2) m3) (den_mul0 x y)
      (bits_up (bits_mul sx.num sy.num) (by omega)) (bits_up (bits_mul sx.den sy.den) (by omega)) (by omega) (by omega)) (mul_rt x y).symm) fun u H1 e1 r => q u H1 e1 r
end
end NF

namespace NF
open PySem PySem.Spec PyProof.Rows L2 Evl
abbrev s_is_whole : Stmt := topS 10
theorem sc_is_whole : FnScope ["thing"] ["thing"] (defScope s_is_whole) := ⟨rfl, rfl, rfl, by decide +kernel, rfl, by decide +kernel, by decide +kernel⟩
abbrev s_is_fraction : Stmt := topS 13
theorem sc_is_fraction : FnScope ["thing", "top", "bottom"] ["thing"] (defScope s_is_fraction) := ⟨rfl, rfl, rfl, by decide +kernel, rfl, by decide +kernel, by decide +kernel⟩
abbrev s_total : Stmt := topS 17
theorem sc_total : FnScope ["some", "start", "result", "each"] ["some", "start"] (defScope s_total) := ⟨rfl, rfl, rfl, by decide +kernel, rfl, by decide +kernel, by decide +kernel⟩
section
variable {P : Program} {w : World} {K : PySem.W.Frag} {mg : Str → Option Value} {base : Heap} {f : Addr} {fd : FuncData}
theorem ok_whole (F : Fun K "is_whole" "is_whole" s_is_whole f fd) (n_isinstance : mg "isinstance" = none) (n_int : mg "int" = none) (n_bool : mg "bool" = none) : FnOk P w K mg base CX0 1 f fd ["thing"] (spWhole K) := by
  refine F.ok sc_is_whole (fun vs H Q E h => ?_) (fun cdv A outer s H vs Q E hr h => ?_)
  · obtain ⟨_, _, _, _, rfl, _⟩ := h
    rfl
  · obtain ⟨v, t, b1, b2, rfl, ty, k1, k2, q⟩ := h
    refine ⟨_, (pss_one (ps_ret (pe_and (pe_callB call_isi (by rfl) n_isinstance PyProof.Rows.boot_isinstance (pa_cons (pv 0) (pa_cons (c_ty (n := "int") n_int (by rfl) (by decide +kernel) (by decide)) pa_nil))) (pe_one (pe_not (pe_callB call_isi (by rfl) n_isinstance PyProof.Rows.boot_isinstance (pa_cons (pv 0) (pa_cons (c_ty (n := "bool") n_bool (by rfl) (by decide +kernel) (by decide)) pa_nil)))))))), ?_⟩
    exact s_ret (ev_andV (ev_isi (ev_var rfl) ty k1) fun _ => ev_notV (ev_isi (ev_var rfl) ty k2)) q
theorem ok_isF (F : Fun K "is_fraction" "is_fraction" s_is_fraction f fd) (n_isinstance : mg "isinstance" = none) (n_tuple : mg "tuple" = none) (n_len : mg "len" = none) (C_is_whole : Cal P w K mg base 1 "is_whole" ["thing"] [] (spWhole K))
    (C_greatest_divisor : Cal P w K mg base 1 "greatest_divisor" ["one", "other"] [] spGcd) : FnOk P w K mg base CX0 2 f fd ["thing"] (spIsF K) := by
  refine F.ok sc_is_fraction (fun vs H Q E h => ?_) (fun cdv A outer s H vs Q E hr h => ?_)
  · obtain ⟨_, _, rfl, _⟩ := h
    rfl
  · obtain ⟨v, x, rfl, ⟨p, rfl, hp⟩, q⟩ := h
    refine ⟨_, (pss_cons (ps_if (PW.pt (pw_or (pt_not (pt_val (pe_callB call_isi (by rfl) n_isinstance PyProof.Rows.boot_isinstance (pa_cons (pv 0) (pa_cons (c_ty (n := "tuple") n_tuple (by rfl) (by decide +kernel) (by decide)) pa_nil))))) (pw_or1 (pt_cmpR op_ne (pe_callB call_len_seq (by rfl) n_len PySem.boot_len (pa_cons (pv 0) pa_nil)) pe_int (nomark _))))) (pss_one (ps_ret pe_bl)) pss_nil)
      (pss_cons (ps_asg (pv 0) (pg_tup rfl (pgs_cons (pg_name (i := 1) sc_is_fraction.nd rfl (.inl rfl)) (pgs_cons (pg_name (i := 2) sc_is_fraction.nd rfl (.inl rfl)) pgs_nil))))
      (pss_cons (ps_if (PW.pt (pw_or (pt_not (pt_val (pe_cal C_is_whole hr (by decide) (by rfl) (pa_cons (pv 1) pa_nil)))) (pw_or (pt_not (pt_val (pe_cal C_is_whole hr (by decide) (by rfl) (pa_cons (pv 2) pa_nil)))) (pw_or1 (pt_cmpR op_lt (pv 2) pe_int (nomark _)))))) (pss_one (ps_ret pe_bl)) pss_nil)
      (pss_one (ps_ret (pe_cmpR op_eq (pe_cal C_greatest_divisor hr (by decide) (by rfl) (pa_cons (pv 1) (pa_cons (pv 2) pa_nil))) pe_int (nomark _))))))), ?_⟩
    have el : RC (fun xs H Q => ∃ p ys, xs = [V.ref p] ∧ (SqL K H p ys ∨ SqT K H p ys) ∧ Q (.int ys.length) H) [V.ref p] H (.int 2) := fun H1 e Q' q' => ⟨p, _, rfl, .inr (ex_t e hp), q' H1 (Ex.refl H1)⟩
    refine q_when (et_or (et_not (et_B (ev_isi (ev_var rfl) (ty_tup hp) kit_tt))) fun _ => et_test (ev_op (ev_cb (ea_cons (ev_var rfl) ea_nil) el) ev_c (rv_ne rfl))) (fun hb => ?_) fun _ H1 e1 => ?_
    · simp at hb
    · refine ⟨.ref p, rfl, p, _, rfl, ex_t e1 hp, rfl, _, _, rfl, _, _, rfl, rfl, ?_⟩
      refine q_when (et_or (et_not (et_B (ev_wholeI (ev_var rfl)))) fun _ => et_or (et_not (et_B (ev_wholeI (ev_var rfl)))) fun _ => et_test (ev_op (ev_var rfl) ev_c rv_I0)) (fun hb => ?_) fun _ H2 e2 => ?_
      · have := denp x
        simp at hb
        omega
      · refine s_ret (ev_is (ev_op (ev_gcd (ev_var rfl) (ev_var rfl)) ev_c (rv_eq rfl)) ?_) fun H3 e3 => q H3 ((e1.trans e2).trans e3)
        rw [cop x]
        rfl
theorem ok_total {dvs : List V} {aN : Addr} (F : FunD K "total" "total" (defArgs s_total) (defBody s_total) (defScope s_total) dvs [] f fd) (m_NOUGHT : mg "NOUGHT" = some (.ref aN)) (hN : ∀ H, SqT K H aN [.int 0, .int 1])
    (C_plus : Cal P w K mg base 3 "plus" ["one", "other"] [] (sp2 K (fun _ _ => True) (· + ·))) : FnOk P w K mg base CX0 4 f fd ["some", "start"] (spTot K) := by
  refine F.ok sc_total (fun vs H Q E h => ?_) (fun cdv A outer s H vs Q E hr h => ?_)
  · obtain ⟨_, _, _, _, _, _, rfl, _⟩ := h
    rfl
  · obtain ⟨a, us, xs, w, x0, B, rfl, ha, hx, hw, s0, hs, hB, q⟩ := h
    refine ⟨_, PSs.nox ((pss_cons (ps_set (i := 2) sc_total.nd rfl (.inl rfl) (pe_ifExp (pt_cmpR op_isN (pv 1) pe_non (nomark _)) (pe_glob (v := .ref aN) (by rfl) m_NOUGHT rfl) (pv 1)))
      (pss_cons (ps_for PassesOwn.never rfl (pi_list (pv 0)) (pg_name (i := 3) sc_total.nd rfl (.inl rfl)) (pss_one (ps_set (i := 2) sc_total.nd rfl (.inl rfl) (pe_cal C_plus hr (by decide) (by rfl) (pa_cons (pv 2) (pa_cons (pv 3) pa_nil))))))
      (pss_one (ps_ret (pv 2)))))), ?_⟩
    have en : EvF K (tC (.ref aN)) (start ["some", "start", "result", "each"] [.ref a, w]) H 0 := fun H1 e Q q => q _ H1 (Ex.refl H1) ⟨aN, rfl, hN H1⟩
    have hf : EvF K (tIf (tTest (tOp (fun x y H Q => y = .non ∧ Q (.bl (decide (x = .non))) H) (tVar 1) (tC .non))) (tC (.ref aN)) (tVar 1)) (start ["some", "start", "result", "each"] [.ref a, w]) H x0 := by
      refine ef_if (b := decide (w = .non)) (et_test (ev_op (ev_var rfl) ev_c fun H1 _ _ q => ⟨rfl, q H1 (Ex.refl H1)⟩)) (fun hb => ?_) (fun hb => ?_)
      · rcases hw with ⟨_, e0⟩ | ⟨p, e, _⟩
        · subst e0
          exact en
        · rw [of_decide_eq_true hb] at e
          cases e
      · rcases hw with ⟨e, _⟩ | hw
        · exact absurd e (of_decide_eq_false hb)
        · exact ef_var rfl hw
    refine q_asgF hf fun u H1 e1 ru => ?_
    refine q_forLn (xs := us) (ev_var rfl) (ex_l e1 ha) (fun i σ' H' => ∃ v y, σ' = [some (.ref a), some w, some v, y] ∧ Ex H H' ∧ Rt K H' v (sumF x0 (xs.take i))) (fun H2 e2 => ⟨u, none, rfl, e1.trans e2, ru.mono e2⟩) ?_ ?_ ?_
    · rintro i σ' H' _ ⟨v, y, rfl, e, _⟩
      exact ex_l e ha
    · rintro i x σ' H' hi ⟨v, y, rfl, e, r⟩
      obtain ⟨z, hz, rz⟩ := (hx.mono e).get hi
      have hl : i < xs.length := (List.getElem?_eq_some_iff.mp hz).1
      have hm : z ∈ xs := List.mem_of_getElem? hz
      have hb1 : (i + 1) * (B + 1) ≤ (xs.length + 2) * (B + 1) := Nat.mul_le_mul_right _ (by omega)
      have hb2 : B + 1 ≤ (i + 1) * (B + 1) := Nat.le_mul_of_pos_left _ (by omega)
      refine s_asgF (K := K) (x := sumF x0 (xs.take i) + z) (ef_2 (f := (· + ·)) (B := (i + 1) * (B + 1)) (ef_var rfl r) (ef_var rfl rz) True.intro (sz_sum s0 hs i (by omega)) ((hs z hm).mono (by omega)) (by omega) (by omega)) fun u2 H2 e2 r2 => ?_
      refine ⟨u2, some x, rfl, e.trans e2, ?_⟩
      rw [sumF_take hz]
      exact r2
    · rintro σ' H' ⟨v, y, rfl, e, r⟩
      rw [hx.length, List.take_length] at r
      exact s_ret (ev_var rfl) fun H2 e2 => q v H2 (e.trans e2) (r.mono e2)
end
end NF

namespace NF
open PySem PySem.Spec PyProof.Rows L2 Evl
abbrev s_is_mark : Stmt := topS 25
theorem sc_is_mark : FnScope ["thing", "sign"] ["thing"] (defScope s_is_mark) := ⟨rfl, rfl, rfl, by decide +kernel, rfl, by decide +kernel, by decide +kernel⟩
abbrev s_is_share : Stmt := topS 26
theorem sc_is_share : FnScope ["thing"] ["thing"] (defScope s_is_share) := ⟨rfl, rfl, rfl, by decide +kernel, rfl, by decide +kernel, by decide +kernel⟩
abbrev s_are_room_shares : Stmt := topS 27
theorem sc_are_room_shares : FnScope ["many", "thing", "each"] ["many", "thing"] (defScope s_are_room_shares) := ⟨rfl, rfl, rfl, by decide +kernel, rfl, by decide +kernel, by decide +kernel⟩
abbrev s_check_marks : Stmt := topS 28
theorem sc_check_marks : FnScope ["marks", "number", "mark"] ["marks"] (defScope s_check_marks) := ⟨rfl, rfl, rfl, by decide +kernel, rfl, by decide +kernel, by decide +kernel⟩
abbrev s_check_shares : Stmt := topS 29
theorem sc_check_shares : FnScope ["many", "shares", "number", "row"] ["many", "shares"] (defScope s_check_shares) := ⟨rfl, rfl, rfl, by decide +kernel, rfl, by decide +kernel, by decide +kernel⟩
section
variable {K : PySem.W.Frag} {H H1 H2 : Hp} {σ : L2.St} {ta tb tc td te tl : TE} {t : TT} {v w u : V} {x y z : Rat} {E : XK} {D : Ends} {tu tz : TS} {B : Nat}
theorem s_forEn {a : Addr} {us : List V} {j1 j2 : Nat} {S : L2.St → Prop} (h : Ev tl σ H (.ref a)) (ha : SqL K H a us) (hS : S σ)
    (hs : ∀ (i : Nat) x σ' H', us[i]? = some x → S σ' → Ex H H' → tu { D with nx := fun σ2 H2 => S σ2 ∧ Ex H H2, ct := fun σ2 H2 => S σ2 ∧ Ex H H2, bk := D.nx } ((σ'.set j1 (some (.int (i : Int)))).set j2 (some x)) H') (hd : ∀ σ' H', S σ' → Ex H H' → D.nx σ' H') :
    tFor (iEnum K (tCons tl tNil)) (gTup K 2 (gCons (gName j1) (gCons (gName j2) gNil))) tu D σ H := h H (Ex.refl H) _ fun H1 e1 => by
  refine ⟨a, us, rfl, ex_l e1 ha, fun i m σ' G => m = us.length - i ∧ i ≤ us.length ∧ S σ' ∧ Ex H G, ⟨_, rfl, Nat.zero_le _, hS, e1⟩, ?_⟩
  rintro i m σ' G ⟨rfl, hi, s, e⟩
  by_cases hlt : i < us.length
  · refine .inr ⟨⟨us, us[i], ex_l e ha, List.getElem?_eq_getElem hlt⟩, fun σ2 H2 => S σ2 ∧ Ex H H2, fun σ2 H2 z => ⟨us.length - (i + 1), by omega, rfl, hlt, z.1, z.2⟩, ?_⟩
    rintro v G' ⟨T, y, rfl, nT, rfl, fy⟩
    exact ⟨T, _, rfl, SqT.of upd_same, rfl, _, _, rfl, _, _, rfl, rfl, hs i y σ' _ (fy us (ex_l e ha)) s (e.trans (Ex.new nT))⟩
  · exact .inl ⟨⟨us, ex_l e ha, by omega⟩, hd σ' G s e⟩
theorem ty_lst {p : Addr} {xs : List V} (h : SqL K H p xs) : TyX K H (.ref p) (.type "list") := by
  rcases h with (h | ⟨o, h⟩) | ⟨o, its, n, e, c, _⟩
  · exact .base (.lst h)
  · exact .base (.frz h)
  · exact .kList e c
theorem ev_isFr (h : EvF K ta σ H x) : Ev (tCall (spIsF K) [] E (tCons ta tNil)) σ H (.bl true) := fun H1 e Q q =>
  h H1 e _ fun v H2 e2 r => ⟨v, x, rfl, r, fun H' e3 => q H' (e2.trans e3)⟩
theorem ev_share (h : EvF K ta σ H x) (hx : Shr x) : Ev (tCall (spShare K) [] E (tCons ta tNil)) σ H (.bl true) := fun H1 e Q q =>
  h H1 e _ fun v H2 e2 r => ⟨v, x, rfl, r, hx, fun H' e3 => q H' (e2.trans e3)⟩
theorem ev_mark {s : Str} (h : Ev ta σ H (.str s)) (hs : Mk s) : Ev (tCall (spMark K) [] E (tCons ta tNil)) σ H (.bl true) := fun H1 e Q q =>
  h H1 e _ fun H2 e2 => ⟨s, rfl, hs, fun H' e3 => q H' (e2.trans e3)⟩
theorem ev_room {a : Addr} {us : List V} {xs : List Rat} {n : Nat} (h1 : Ev ta σ H (.int (n : Int))) (h2 : Ev tb σ H (.ref a)) (ha : SqL K H a us) (hr : RtAll K H us xs) (hs : Shs xs n) (hn : n ≤ 6) : Ev (tCall (spRoom K) [] E (tCons ta (tCons tb tNil))) σ H (.bl true) := fun H1 e Q q =>
  h1 H1 e _ fun H2 e2 => h2 H2 (e.trans e2) _ fun H3 e3 => ⟨a, us, xs, n, rfl, ex_l ((e.trans e2).trans e3) ha, hr.mono ((e.trans e2).trans e3), hs, hn, fun H' e4 => q H' ((e2.trans e3).trans e4)⟩
theorem ef_tot1 {us : List V} {xs : List Rat} {a : Addr} (h : Ev tl σ H (.ref a)) (ha : SqL K H a us) (hx : RtAll K H us xs) (hs : ∀ x ∈ xs, Sz B x) (hB : (xs.length + 2) * (B + 1) ≤ 4000) (h0 : 0 < B) : EvF K (tCall (spTot K) [.non] E (tCons tl tNil)) σ H (sumF 0 xs) := fun H1 e Q q =>
  h H1 e _ fun H2 e2 => ⟨a, us, xs, .non, 0, B, rfl, ex_l (e.trans e2) ha, hx.mono (e.trans e2), .inl ⟨rfl, rfl⟩, ⟨Nat.pow_pos (by decide), by show 1 < 2 ^ B; exact Nat.one_lt_two_pow (by omega)⟩, hs, hB, fun u H' e3 r => q u H' (e2.trans e3) r⟩
theorem le_sign {c : Nat} (h : 97 ≤ c ∧ c ≤ 122) : (!decide ([c] < (Str.ofString "a").cps.toList)) = true ∧ (!decide ((Str.ofString "z").cps.toList < [c])) = true := by
  have ea : (Str.ofString "a").cps.toList = [97] := by decide +kernel
  have ez : (Str.ofString "z").cps.toList = [122] := by decide +kernel
  rw [ea, ez]
  have h1 : ¬ c < 97 := by omega
  have h2 : ¬ 122 < c := by omega
  constructor
  · simp [List.cons_lt_cons_iff, h1]
  · simp [List.cons_lt_cons_iff, h2]
end
section
variable {P : Program} {w : World} {K : PySem.W.Frag} {mg : Str → Option Value} {base : Heap} {f : Addr} {fd : FuncData}
theorem ok_mark (F : Fun K "is_mark" "is_mark" s_is_mark f fd) (n_isinstance : mg "isinstance" = none) (n_str : mg "str" = none) (n_len : mg "len" = none) (n_all : mg "all" = none) {tk : Tok} (m_LONGEST_MARK : mg "LONGEST_MARK" = some (.int 4 tk)) : FnOk P w K mg base CX0 1 f fd ["thing"] (spMark K) := by
  refine F.ok sc_is_mark (fun vs H Q E h => ?_) (fun cdv A outer s H vs Q E hr h => ?_)
  · obtain ⟨_, rfl, _⟩ := h
    rfl
  · obtain ⟨s0, rfl, ⟨h1, h4, hc⟩, q⟩ := h
    refine ⟨_, (pss_cons (ps_if (PW.pt (pw_or (pt_not (pt_val (pe_callB call_isi (by rfl) n_isinstance PyProof.Rows.boot_isinstance (pa_cons (pv 0) (pa_cons (c_ty (n := "str") n_str (by rfl) (by decide +kernel) (by decide)) pa_nil))))) (pw_or1 (pt_not (pt_chain op_le op_le pe_int (pe_callB call_len_str (by rfl) n_len PySem.boot_len (pa_cons (pv 0) pa_nil)) (pe_glob (v := .int 4) (by rfl) m_LONGEST_MARK ⟨_, rfl⟩)))))) (pss_one (ps_ret pe_bl)) pss_nil)
      (pss_one (ps_ret (pe_callB (cr_all rfl) (by rfl) n_all PyProof.Rows.boot_all (pa_cons (pe_lc (own := [("sign", 1)]) (by rfl) sc_is_mark.nd (pi_str (pv 0)) (blkOk_by (own := [("sign", 1)]) (N := ["thing", "sign"]) (sc := defScope s_is_mark) (by decide +kernel)) (fun _ _ _ _ _ => (pg_name (i := 1) sc_is_mark.nd rfl (.inl rfl))) (fun _ _ _ _ _ => pts_nil) (fun _ _ _ _ _ => (pe_chain op_le_str op_le_str pe_str (pv 1) pe_str))) pa_nil))))), ?_⟩
    have el : RC (fun xs H Q => ∃ z, xs = [V.str z] ∧ z.length ≤ sizeLine ∧ Q (.int z.length) H) [V.str s0] H (.int s0.cps.size) := fun H1 _ Q' q' => ⟨s0, rfl, sz_of (by show s0.cps.size ≤ 100000; omega), q' H1 (Ex.refl H1)⟩
    refine q_when (b := false) (et_is (et_or (et_not (et_B (ev_isi (ev_var rfl) (.base (.str s0)) (show kitB "str" "str" = some true by decide +kernel)))) fun _ => et_not (et_test (ev_chain (k := true) (k2 := true) ev_c (ev_cb (ea_cons (ev_var rfl) ea_nil) el) ?c1 (fun _ => ev_c) fun _ => ?c2))) rfl) nofun fun _ H1 e1 => ?_
    case c1 =>
      have : decide ((1 : Int) ≤ s0.cps.size) = true := decide_eq_true (by omega)
      have z := rv_I0 (H := H) (g := fun i j => V.bl (decide (i ≤ j))) (i := 1) (j := s0.cps.size)
      rw [this] at z
      exact z
    case c2 =>
      have : decide ((s0.cps.size : Int) ≤ 4) = true := decide_eq_true (by omega)
      have z := rv_I0 (H := H) (g := fun i j => V.bl (decide (i ≤ j))) (i := s0.cps.size) (j := 4)
      rw [this] at z
      exact z
    refine s_ret (ev_allT (n := s0.cps.size) (el_lcS (fun _ => true) (fun _ => .bl true) (ev_var rfl) (by omega) (fun _ => rfl) (fun i c H2 e2 hi => fun H3 e3 Q' q' => q' H3 (Ex.refl H3)) fun i c H2 e2 hi _ => ?_)) fun H2 e2 => q H2 (e1.trans e2)
    have hm : c ∈ s0.cps.toList := by
      rw [Array.mem_toList_iff]
      exact Array.mem_of_getElem? hi
    obtain ⟨l1, l2⟩ := le_sign (hc c hm)
    exact ev_chain (k := true) (k2 := true) ev_c (ev_var rfl) (fun H3 _ Q' q' => ⟨_, _, rfl, rfl, by show Q' (.bl (!decide ([c] < _))) H3; rw [l1]; exact q' H3 (Ex.refl H3)⟩) (fun _ => ev_c) fun _ H3 _ Q' q' => ⟨_, _, rfl, rfl, by show Q' (.bl (!decide (_ < [c]))) H3; rw [l2]; exact q' H3 (Ex.refl H3)⟩
theorem ok_share (F : Fun K "is_share" "is_share" s_is_share f fd) (C_is_fraction : Cal P w K mg base 2 "is_fraction" ["thing"] [] (spIsF K)) {tk : Tok} (m_GREATEST_BOTTOM : mg "GREATEST_BOTTOM" = some (.int 999 tk)) : FnOk P w K mg base CX0 3 f fd ["thing"] (spShare K) := by
  refine F.ok sc_is_share (fun vs H Q E h => ?_) (fun cdv A outer s H vs Q E hr h => ?_)
  · obtain ⟨_, _, rfl, _⟩ := h
    rfl
  · obtain ⟨v, x, rfl, rx, ⟨h1, h2, h3⟩, q⟩ := h
    refine ⟨_, (pss_one (ps_ret (pe_and (pe_cal C_is_fraction hr (by decide) (by rfl) (pa_cons (pv 0) pa_nil)) (pe_one (pe_chain3 op_le op_le op_le pe_int (pe_ix ix_tup (pv 0) pe_int (fun _ _ => rfl)) (pe_ix ix_tup (pv 0) pe_int (fun _ _ => rfl)) (pe_glob (v := .int 999) (by rfl) m_GREATEST_BOTTOM ⟨_, rfl⟩)))))), ?_⟩
    have le : ∀ {i j : Int}, i ≤ j → RV (rI0 fun i j => V.bl (decide (i ≤ j))) (.int i) (.int j) H (.bl true) := fun {i j} hij => by
      have z := rv_I0 (H := H) (g := fun i j => V.bl (decide (i ≤ j))) (i := i) (j := j)
      rw [decide_eq_true hij] at z
      exact z
    refine s_ret (ev_is (w := .bl true) (ev_andV (ev_isFr (ef_var (K := K) rfl rx)) fun _ => ev_chain3 ev_c (ev_ix0 (ef_var (K := K) rfl rx)) (le h1) (ev_ix1 (ef_var (K := K) rfl rx)) (le h2) ev_c (le (by omega))) rfl) q
theorem ok_room {aO : Addr} (F : Fun K "are_room_shares" "are_room_shares" s_are_room_shares f fd) (n_isinstance : mg "isinstance" = none) (n_list : mg "list" = none) (n_len : mg "len" = none) (n_all : mg "all" = none) (C_is_share : Cal P w K mg base 3 "is_share" ["thing"] [] (spShare K)) (C_total1 : Cal P w K mg base 4 "total" ["some", "start"] [.non] (spTot K))
    (m_ONE : mg "ONE" = some (.ref aO)) (hO : ∀ H, SqT K H aO [.int 1, .int 1]) : FnOk P w K mg base CX0 5 f fd ["many", "thing"] (spRoom K) := by
  refine F.ok sc_are_room_shares (fun vs H Q E h => ?_) (fun cdv A outer s H vs Q E hr h => ?_)
  · obtain ⟨_, _, _, _, rfl, _⟩ := h
    rfl
  · obtain ⟨a, us, xs, n, rfl, ha, hx, ⟨hl, hs, h1⟩, hn, q⟩ := h
    refine ⟨_, (pss_cons (ps_if (PW.pt (pw_or (pt_not (pt_val (pe_callB call_isi (by rfl) n_isinstance PyProof.Rows.boot_isinstance (pa_cons (pv 1) (pa_cons (c_ty (n := "list") n_list (by rfl) (by decide +kernel) (by decide)) pa_nil))))) (pw_or1 (pt_cmpR op_ne (pe_callB call_len_seq (by rfl) n_len PySem.boot_len (pa_cons (pv 1) pa_nil)) (pv 0) (nomark _))))) (pss_one (ps_ret pe_bl)) pss_nil)
      (pss_one (ps_ret (pe_and (pe_callB (cr_all rfl) (by rfl) n_all PyProof.Rows.boot_all (pa_cons (pe_lc (own := [("each", 2)]) (by rfl) sc_are_room_shares.nd (pi_list (pv 1)) (blkOk_by (own := [("each", 2)]) (N := ["many", "thing", "each"]) (sc := defScope s_are_room_shares) (by decide +kernel)) (fun _ _ _ _ _ => (pg_name (i := 2) sc_are_room_shares.nd rfl (.inl rfl))) (fun _ _ _ _ _ => pts_nil) (fun _ _ _ _ _ => (pe_cal C_is_share hr (by decide) (by rfl) (pa_cons (pv 2) pa_nil)))) pa_nil)) (pe_one (pe_cmpR (op_eqD hr.units) (pe_cal C_total1 hr (by decide) (by rfl) (pa_cons (pv 1) pa_nil)) (pe_glob (v := .ref aO) (by rfl) m_ONE rfl) (nomark _))))))), ?_⟩
    have lu : us.length = n := by rw [hx.length, hl]
    have hB : (xs.length + 2) * (10 + 1) ≤ 4000 := by
      have : (xs.length + 2) * (10 + 1) ≤ 8 * (10 + 1) := Nat.mul_le_mul_right _ (by omega)
      omega
    refine q_when (b := false) (et_is (et_or (et_not (et_B (ev_isi (ev_var rfl) (ty_lst ha) (show kitB "list" "list" = some true by decide +kernel)))) fun _ => et_test (ev_op (ev_len (ev_var rfl) ha) (ev_var rfl) (rv_ne rfl))) (by simp [lu])) nofun fun _ H1 e1 => ?_
    have eo : EvF K (tC (.ref aO)) [some (.int (n : Int)), some (.ref a), none] H1 1 := fun H2 e Q q => q _ H2 (Ex.refl H2) ⟨aO, rfl, hO H2⟩
    refine s_ret (ev_is (w := .bl true) (ev_andV (ev_allT (K := K) (n := us.length) (el_lcL (K := K) (fun _ => true) (fun _ => .bl true) (ev_var rfl) (ex_l e1 ha) (by omega) (fun _ => rfl) (fun i x H2 e2 hi => fun H3 e3 Q' q' => q' H3 (Ex.refl H3)) fun i x H2 e2 hi _ => ?_)) fun _ => ev_eqF (ef_tot1 (B := 10) (ev_var rfl) (ex_l e1 ha) (hx.mono e1) (fun x hx' => (hs x hx').sz) hB (by decide)) eo) (by rw [h1]; rfl)) fun H2 e2 => q H2 (e1.trans e2)
    obtain ⟨z, hz, rz⟩ := (hx.mono (e1.trans e2)).get hi
    exact ev_share (ef_var (K := K) rfl rz) (hs z (List.mem_of_getElem? hz))
theorem ok_marks (F : Fun K "check_marks" "check_marks" s_check_marks f fd) (n_isinstance : mg "isinstance" = none) (n_list : mg "list" = none) (n_len : mg "len" = none) (n_enumerate : mg "enumerate" = none) (C_is_mark : Cal P w K mg base 1 "is_mark" ["thing"] [] (spMark K)) {tk : Tok} (m_MOST_ROOMS : mg "MOST_ROOMS" = some (.int 6 tk)) :
    FnOk P w K mg base CX0 2 f fd ["marks"] (spMarks K) := by
  refine F.ok sc_check_marks (fun vs H Q E h => ?_) (fun cdv A outer s H vs Q E hr h => ?_)
  · obtain ⟨_, _, rfl, _⟩ := h
    rfl
  · obtain ⟨a, zs, rfl, ha, h1, h6, hz, q⟩ := h
    refine ⟨_, (pss_cons (ps_if (PW.pt (pw_or (pt_not (pt_val (pe_callB call_isi (by rfl) n_isinstance PyProof.Rows.boot_isinstance (pa_cons (pv 0) (pa_cons (c_ty (n := "list") n_list (by rfl) (by decide +kernel) (by decide)) pa_nil))))) (pw_or1 (pt_not (pt_chain op_le op_le pe_int (pe_callB call_len_seq (by rfl) n_len PySem.boot_len (pa_cons (pv 0) pa_nil)) (pe_glob (v := .int 6) (by rfl) m_MOST_ROOMS ⟨_, rfl⟩)))))) (pss_one ps_never) pss_nil)
      (pss_one (ps_for PassesOwn.never rfl (pi_enum (by rfl) n_enumerate (pa_cons (pv 0) pa_nil)) (pg_tup rfl (pgs_cons (pg_name (i := 1) sc_check_marks.nd rfl (.inl rfl)) (pgs_cons (pg_name (i := 2) sc_check_marks.nd rfl (.inl rfl)) pgs_nil))) (pss_one (ps_if (pt_not (pt_val (pe_cal C_is_mark hr (by decide) (by rfl) (pa_cons (pv 2) pa_nil)))) (pss_one ps_never) pss_nil))))), ?_⟩
    have le : ∀ {i j : Int}, i ≤ j → RV (rI0 fun i j => V.bl (decide (i ≤ j))) (.int i) (.int j) H (.bl true) := fun {i j} hij => by
      have z := rv_I0 (H := H) (g := fun i j => V.bl (decide (i ≤ j))) (i := i) (j := j)
      rw [decide_eq_true hij] at z
      exact z
    refine q_when (b := false) (et_is (et_or (et_not (et_B (ev_isi (ev_var rfl) (ty_lst ha) (show kitB "list" "list" = some true by decide +kernel)))) fun _ => et_not (et_test (ev_chain (k := true) (k2 := true) ev_c (ev_len (ev_var rfl) ha) (le (by rw [List.length_map]; omega)) (fun _ => ev_c) fun _ => le (by rw [List.length_map]; omega)))) rfl) nofun fun _ H1 e1 => ?_
    refine s_forEn (K := K) (S := fun σ2 => ∃ y1 y2, σ2 = [some (.ref a), y1, y2]) (ev_var rfl) (ex_l e1 ha) ⟨none, none, rfl⟩ ?_ ?_
    · rintro i x σ' H2 hi ⟨y1, y2, rfl⟩ e2
      rw [List.getElem?_map] at hi
      cases hq : zs[i]? with
      | none =>
        rw [hq] at hi
        cases hi
      | some zq =>
        rw [hq] at hi
        cases hi
        exact s_when (b := false) (et_is (et_not (et_B (ev_mark (K := K) (ev_var rfl) (hz zq (List.mem_of_getElem? hq))))) rfl) nofun fun _ H3 e3 => ⟨⟨_, _, rfl⟩, e2.trans e3⟩
    · rintro σ' H2 ⟨y1, y2, rfl⟩ e2
      exact q H2 (e1.trans e2)
theorem ok_shares (F : Fun K "check_shares" "check_shares" s_check_shares f fd) (n_isinstance : mg "isinstance" = none) (n_list : mg "list" = none) (n_len : mg "len" = none) (n_enumerate : mg "enumerate" = none) (C_are_room_shares : Cal P w K mg base 5 "are_room_shares" ["many", "thing"] [] (spRoom K)) : FnOk P w K mg base CX0 6 f fd ["many", "shares"] (spShares K) := by
  refine F.ok sc_check_shares (fun vs H Q E h => ?_) (fun cdv A outer s H vs Q E hr h => ?_)
  · obtain ⟨_, _, _, _, rfl, _⟩ := h
    rfl
  · obtain ⟨a, us, xss, n, rfl, ha, hr', hl, hn, hs, q⟩ := h
    refine ⟨_, (pss_cons (ps_if (PW.pt (pw_or (pt_not (pt_val (pe_callB call_isi (by rfl) n_isinstance PyProof.Rows.boot_isinstance (pa_cons (pv 1) (pa_cons (c_ty (n := "list") n_list (by rfl) (by decide +kernel) (by decide)) pa_nil))))) (pw_or1 (pt_cmpR op_ne (pe_callB call_len_seq (by rfl) n_len PySem.boot_len (pa_cons (pv 1) pa_nil)) (pv 0) (nomark _))))) (pss_one ps_never) pss_nil)
      (pss_one (ps_for PassesOwn.never rfl (pi_enum (by rfl) n_enumerate (pa_cons (pv 1) pa_nil)) (pg_tup rfl (pgs_cons (pg_name (i := 2) sc_check_shares.nd rfl (.inl rfl)) (pgs_cons (pg_name (i := 3) sc_check_shares.nd rfl (.inl rfl)) pgs_nil))) (pss_one (ps_if (pt_not (pt_val (pe_cal C_are_room_shares hr (by decide) (by rfl) (pa_cons (pv 0) (pa_cons (pv 3) pa_nil))))) (pss_one ps_never) pss_nil))))), ?_⟩
    have lu : us.length = n := by rw [hr'.length, hl]
    refine q_when (b := false) (et_is (et_or (et_not (et_B (ev_isi (ev_var rfl) (ty_lst ha) (show kitB "list" "list" = some true by decide +kernel)))) fun _ => et_test (ev_op (ev_len (ev_var rfl) ha) (ev_var rfl) (rv_ne rfl))) (by simp [lu])) nofun fun _ H1 e1 => ?_
    refine s_forEn (K := K) (S := fun σ2 => ∃ y1 y2, σ2 = [some (.int (n : Int)), some (.ref a), y1, y2]) (ev_var rfl) (ex_l e1 ha) ⟨none, none, rfl⟩ ?_ ?_
    · rintro i x σ' H2 hi ⟨y1, y2, rfl⟩ e2
      obtain ⟨p, vs, xs, rfl, hx, hp, hxs⟩ := (hr'.mono (e1.trans e2)).get hi
      exact s_when (b := false) (et_is (et_not (et_B (ev_room (K := K) (ev_var rfl) (ev_var rfl) hp hxs (hs xs (List.mem_of_getElem? hx)) hn))) rfl) nofun fun _ H3 e3 => ⟨⟨_, _, rfl⟩, e2.trans e3⟩
    · rintro σ' H2 ⟨y1, y2, rfl⟩ e2
      exact q H2 (e1.trans e2)
end
end NF

namespace NF
open PySem PySem.Spec PyProof.Rows L2 Evl
abbrev s_is_whole_within : Stmt := topS 11
theorem sc_is_whole_within : FnScope ["thing", "least", "most"] ["thing", "least", "most"] (defScope s_is_whole_within) := ⟨rfl, rfl, rfl, by decide +kernel, rfl, by decide +kernel, by decide +kernel⟩
abbrev s_Machine___len__ : Stmt := inClass (topS 32) 6
theorem sc_Machine___len__ : FnScope ["self"] ["self"] (defScope s_Machine___len__) := ⟨rfl, rfl, rfl, by decide +kernel, rfl, by decide +kernel, by decide +kernel⟩
abbrev s_Machine_shares : Stmt := inClass (topS 32) 2
theorem sc_Machine_shares : FnScope ["self", "row"] ["self"] (defScope s_Machine_shares) := ⟨rfl, rfl, rfl, by decide +kernel, rfl, by decide +kernel, by decide +kernel⟩
abbrev s_check_machine : Stmt := topS 30
theorem sc_check_machine : FnScope ["thing"] ["thing"] (defScope s_check_machine) := ⟨rfl, rfl, rfl, by decide +kernel, rfl, by decide +kernel, by decide +kernel⟩
abbrev s_check_room : Stmt := topS 31
theorem sc_check_room : FnScope ["machine", "room"] ["machine", "room"] (defScope s_check_room) := ⟨rfl, rfl, rfl, by decide +kernel, rfl, by decide +kernel, by decide +kernel⟩
abbrev s_Machine___init__ : Stmt := inClass (topS 32) 0
theorem sc_Machine___init__ : FnScope ["self", "marks", "shares", "row"] ["self", "marks", "shares"] (defScope s_Machine___init__) := ⟨rfl, rfl, rfl, by decide +kernel, rfl, by decide +kernel, by decide +kernel⟩
section
variable {X : Cx} {C : Addr} {j k : Nat} {m : Str} {ps : List Str} {sp : Sp} {o : Expr} {ta : TE} {pos apos : Pos} {pl : Sem Bool}
theorem pe_calM0 (M : CalM X.prog X.w X.K X.mg X.base C k m ps sp) (hr : Room j X.A) (hk : k ≤ j) (he : PE X o ta)
    (ht : eval (.Call (.Attribute o m apos) [] [] pos) X.env = (do
      let ov ← eval o X.env
      standAt apos.atName
      let (g, first) ← holding [ov] (getMethod ov m pl)
      callWith pos g first (backTo pos (starEach [] X.env)) (backToKw pos (keywordEach [] X.env))) := by rfl) : PE X (.Call (.Attribute o m apos) [] [] pos) (tMeth C m sp [] E0 ta tNil) := by
  obtain ⟨f, fd, hm, F, b⟩ := M.ex
  exact pe_meth0 he M.cl hm F (hr.mono hk) b .nil pass0 ht
end
structure Txt (K : PySem.W.Frag) (mg : Str → Option Value) (C : Addr) : Prop where
  cl : Cls K C
  nm : NoAttr K C "kept_marks"
  ns : NoAttr K C "kept_shares"
section
variable {K : PySem.W.Frag} {H H1 H2 : Hp} {σ : L2.St} {ta tb te tl : TE} {v w u : V} {E : XK} {C a dx m : Addr} {fs : List (Str × V)} {f : Str} {zs : List Str} {xss : List (List Rat)} {D : Ends} {tz : TS}
theorem ev_fld (h : Ev ta σ H (.ref a)) (ha : H a = some (.ins C dx fs)) (cl : Cls K C) (na : NoAttr K C f) (hl : fs.lookup f = some v) : Ev (tFld K ta f) σ H v := fun H1 e Q q =>
  h H1 e _ fun H2 e2 => ⟨a, C, dx, fs, v, rfl, (e.trans e2) _ _ ha, cl, na, hl, q H2 e2⟩
def spLen (K : PySem.W.Frag) (C : Addr) : Sp := fun vs H Q _ => ∃ (m : Addr) (zs : List Str) (xss : List (List Rat)), vs = [.ref m] ∧ MaAt K C H m zs xss ∧ ∀ H', Ex H H' → Q (.int (zs.length : Int)) H'
theorem ev_lenO (h : Ev ta σ H (.ref m)) (hm : MaAt K C H m zs xss) (h6 : zs.length ≤ 6) : Ev (tCB (rLenO C (spLen K C)) (tCons ta tNil)) σ H (.int (zs.length : Int)) := fun H1 e Q q =>
  h H1 e _ fun H2 e2 => by
    have hm2 := hm.mono (e.trans e2)
    obtain ⟨dx, am, as, us, h1, _⟩ := id hm2
    exact ⟨m, dx, _, rfl, h1, m, zs, xss, rfl, hm2, fun H' e3 => ⟨_, rfl, by omega, by omega, q H' (e2.trans e3)⟩⟩
def spWithin (K : PySem.W.Frag) : Sp := fun vs H Q _ => ∃ i l h : Int, vs = [.int i, .int l, .int h] ∧ l ≤ i ∧ i ≤ h ∧ ∀ H', Ex H H' → Q (.bl true) H'
theorem ev_within {tc : TE} {i l h : Int} (h1 : Ev ta σ H (.int i)) (h2 : Ev tb σ H (.int l)) (h3 : Ev tc σ H (.int h)) (hl : l ≤ i) (hh : i ≤ h) : Ev (tCall (spWithin K) [] E (tCons ta (tCons tb (tCons tc tNil)))) σ H (.bl true) := fun H1 e Q q =>
  h1 H1 e _ fun H2 e2 => h2 H2 (e.trans e2) _ fun H3 e3 => h3 H3 ((e.trans e2).trans e3) _ fun H4 e4 => ⟨i, l, h, rfl, hl, hh, fun H' e5 => q H' (((e2.trans e3).trans e4).trans e5)⟩
def spCMach (K : PySem.W.Frag) (C : Addr) : Sp := fun vs H Q _ => ∃ (m : Addr) (zs : List Str) (xss : List (List Rat)), vs = [.ref m] ∧ MaAt K C H m zs xss ∧ ∀ H', Ex H H' → Q .non H'
def spCRoom (K : PySem.W.Frag) (C : Addr) : Sp := fun vs H Q _ => ∃ (m : Addr) (zs : List Str) (xss : List (List Rat)) (r : Nat), vs = [.ref m, .int (r : Int)] ∧ MaAt K C H m zs xss ∧ zs.length ≤ 6 ∧ r < zs.length ∧ ∀ H', Ex H H' → Q .non H'
def spSharesM (K : PySem.W.Frag) (C : Addr) : Sp := fun vs H Q _ => ∃ (m : Addr) (zs : List Str) (xss : List (List Rat)), vs = [.ref m] ∧ MaAt K C H m zs xss ∧ xss.length ≤ 6 ∧ ∀ p us H', H p = none → Ex H H' → H' p = some (.lst us) → Rows K H' us xss → Q (.ref p) H'
def spInit (K : PySem.W.Frag) (C : Addr) : Sp := fun vs H Q _ => ∃ (x dx a b : Addr) (zs : List Str) (us : List V) (xss : List (List Rat)), vs = [.ref x, .ref a, .ref b] ∧ H x = some (.ins C dx []) ∧ SqL K H a (zs.map V.str) ∧ SqL K H b us ∧ Rows K H us xss ∧ Good zs xss ∧
  ∀ H', (∀ p o, H p = some o → p ≠ x → H' p = some o) → MaAt K C H' x zs xss → Q .non H'
theorem fld_raw {tv : TE} (h : tv σ H fun y H1 => ta σ H1 fun x H2 => ∃ a C dx fs, x = .ref a ∧ H2 a = some (.ins C dx fs) ∧ Cls K C ∧ NoAttr K C f ∧ fs.length < 1000 ∧ tz D σ (upd H2 a (.ins C dx (putF f y fs)))) : tSeq (sFld K ta tv f) tz D σ H := h
theorem fld_last {tv : TE} (h : tv σ H fun y H1 => ta σ H1 fun x H2 => ∃ a C dx fs, x = .ref a ∧ H2 a = some (.ins C dx fs) ∧ Cls K C ∧ NoAttr K C f ∧ fs.length < 1000 ∧ D.nx σ (upd H2 a (.ins C dx (putF f y fs)))) : sFld K ta tv f D σ H := h
theorem ev_cmarks {a : Addr} (h : Ev ta σ H (.ref a)) (ha : SqL K H a (zs.map V.str)) (h1 : 1 ≤ zs.length) (h6 : zs.length ≤ 6) (hz : ∀ z ∈ zs, NF.Mk z) : Ev (tCall (spMarks K) [] E (tCons ta tNil)) σ H .non := fun H1 e Q q =>
  h H1 e _ fun H2 e2 => ⟨a, zs, rfl, ex_l (e.trans e2) ha, h1, h6, hz, fun H' e3 => q H' (e2.trans e3)⟩
theorem ev_cshares {a : Addr} {us : List V} {n : Nat} (h1 : Ev ta σ H (.int (n : Int))) (h : Ev tb σ H (.ref a)) (ha : SqL K H a us) (hr : Rows K H us xss) (hl : xss.length = n) (hn : n ≤ 6) (hs : ∀ xs ∈ xss, Shs xs n) : Ev (tCall (spShares K) [] E (tCons ta (tCons tb tNil))) σ H .non := fun H1 e Q q =>
  h1 H1 e _ fun H2 e2 => h H2 (e.trans e2) _ fun H3 e3 => ⟨a, us, xss, n, rfl, ex_l ((e.trans e2).trans e3) ha, hr.mono ((e.trans e2).trans e3), hl, hn, hs, fun H' e4 => q H' ((e2.trans e3).trans e4)⟩
theorem el_listOf {xs : List V} {p : Addr} (h : Ev ta σ H (.ref p)) (hp : SqL K H p xs) : EvL (tCB (fun xs H Q => ∃ p ys, xs = [V.ref p] ∧ (SqL K H p ys ∨ SqT K H p ys) ∧ ∀ l, H l = none → Q (.ref l) (upd H l (.lst ys))) (tCons ta tNil)) σ H xs := fun H1 e Q q =>
  h H1 e _ fun H2 e2 => ⟨p, xs, rfl, .inl (ex_l (e.trans e2) hp), fun l nl => q l _ (fresh_back e2 nl) (e2.trans (Ex.new nl)) upd_same⟩
end
section
variable {P : Program} {w : World} {K : PySem.W.Frag} {mg : Str → Option Value} {base : Heap} {f : Addr} {fd : FuncData} {cM : Addr}
theorem ok_within (F : Fun K "is_whole_within" "is_whole_within" s_is_whole_within f fd) (C_is_whole : Cal P w K mg base 1 "is_whole" ["thing"] [] (spWhole K)) : FnOk P w K mg base CX0 2 f fd ["thing", "least", "most"] (spWithin K) := by
  refine F.ok sc_is_whole_within (fun vs H Q E h => ?_) (fun cdv A outer s H vs Q E hr h => ?_)
  · obtain ⟨_, _, _, rfl, _⟩ := h
    rfl
  · obtain ⟨i, l, h, rfl, hl, hh, q⟩ := h
    refine ⟨_, (pss_one (ps_ret (pe_and (pe_cal C_is_whole hr (by decide) (by rfl) (pa_cons (pv 0) pa_nil)) (pe_one (pe_chain op_le op_le (pv 1) (pv 0) (pv 2)))))), ?_⟩
    have le : ∀ {i j : Int}, i ≤ j → RV (rI0 fun i j => V.bl (decide (i ≤ j))) (.int i) (.int j) H (.bl true) := fun {i j} hij => by
      have z := rv_I0 (H := H) (g := fun i j => V.bl (decide (i ≤ j))) (i := i) (j := j)
      rw [decide_eq_true hij] at z
      exact z
    exact s_ret (ev_is (w := .bl true) (ev_andV (ev_wholeI (ev_var rfl)) fun _ => ev_chain (k := true) (k2 := true) (ev_var rfl) (ev_var rfl) (le hl) (fun _ => ev_var rfl) fun _ => le hh) rfl) q
theorem ok_len (F : Fun K "__len__" "Machine.__len__" s_Machine___len__ f fd) (T : Txt K mg cM) (n_len : mg "len" = none) : FnOk P w K mg base CX0 1 f fd ["self"] (spLen K cM) := by
  refine F.ok sc_Machine___len__ (fun vs H Q E h => ?_) (fun cdv A outer s H vs Q E hr h => ?_)
  · obtain ⟨_, _, _, rfl, _⟩ := h
    rfl
  · obtain ⟨m, zs, xss, rfl, ⟨dx, am, as, us, h1, h2, h3, h4⟩, q⟩ := h
    refine ⟨_, (pss_one (ps_ret (pe_callB call_len_seq (by rfl) n_len PySem.boot_len (pa_cons (pe_fld (pv 0) rfl) pa_nil)))), ?_⟩
    refine s_ret (ev_is (ev_len (K := K) (ev_fld (ev_var rfl) h1 T.cl T.nm rfl) (SqL.of h2)) (by rw [List.length_map])) q
theorem ok_sharesM (F : Fun K "shares" "Machine.shares" s_Machine_shares f fd) (T : Txt K mg cM) (n_list : mg "list" = none) : FnOk P w K mg base CX0 1 f fd ["self"] (spSharesM K cM) := by
  refine F.ok sc_Machine_shares (fun vs H Q E h => ?_) (fun cdv A outer s H vs Q E hr h => ?_)
  · obtain ⟨_, _, _, rfl, _⟩ := h
    rfl
  · obtain ⟨m, zs, xss, rfl, ⟨dx, am, as, us, h1, h2, h3, h4⟩, hl, q⟩ := h
    refine ⟨_, (pss_one (ps_ret (pe_lc (own := [("row", 1)]) (by rfl) sc_Machine_shares.nd (pi_list (pe_fld (pv 0) rfl)) (blkOk_by (own := [("row", 1)]) (N := ["self", "row"]) (sc := defScope s_Machine_shares) (by decide +kernel)) (fun _ _ _ _ _ => (pg_name (i := 1) sc_Machine_shares.nd rfl (.inl rfl))) (fun _ _ _ _ _ => pts_nil) (fun _ _ _ _ _ => (pe_callTy (call_listK (K := K) rfl) (by rfl) n_list PyProof.Rows.boot_list (pa_cons (pv 1) pa_nil)))))), ?_⟩
    exact er_copy (K := K) (ev_fld (ev_var rfl) h1 T.cl T.ns rfl) (SqL.of h3) h4 (by rw [h4.length]; omega) (fun _ => rfl) (fun _ => rfl) H (Ex.refl H) _ fun p vs H2 np e2 hp hR => q p vs H2 np e2 hp hR
theorem ok_cmach (F : Fun K "check_machine" "check_machine" s_check_machine f fd) (n_isinstance : mg "isinstance" = none) (T : Txt K mg cM) (g_Machine : mg "Machine" = some (.ref cM)) (t1 : PySem.W.findIn K (.ref cM) "__class__" = some (some (.builtin "object.__class__"))) (t2 : PySem.W.specialIn K (.builtin "object.__class__") "__get__" = some (some (.builtin "getset_descriptor.__get__")))
    (t3 : PySem.W.takesIn K (.builtin "object.__class__") = some true) (t4 : PySem.W.mroIn K cM (.type "object") = some true) (t5 : PySem.W.kitOne K (.ref cM) (.ref cM) = some true) : FnOk P w K mg base CX0 1 f fd ["thing"] (spCMach K cM) := by
  refine F.ok sc_check_machine (fun vs H Q E h => ?_) (fun cdv A outer s H vs Q E hr h => ?_)
  · obtain ⟨_, _, _, rfl, _⟩ := h
    rfl
  · obtain ⟨m, zs, xss, rfl, ⟨dx, am, as, us, h1, _⟩, q⟩ := h
    refine ⟨_, (pss_one (ps_if (pt_not (pt_val (pe_callB call_isi (by rfl) n_isinstance PyProof.Rows.boot_isinstance (pa_cons (pv 0) (pa_cons (pe_glob (v := .ref cM) (by rfl) g_Machine rfl) pa_nil))))) (pss_one ps_never) pss_nil)), ?_⟩
    have ei : Ev (tCB (rIsi K) (tCons (tVar 0) (tCons (tC (.ref cM)) tNil))) (start ["thing"] [.ref m]) H (.bl true) := fun H1 e Q q => ⟨_, rfl, _, _, _, _, _, rfl, .own cM, .base (.ins (e _ _ h1) T.cl t1 t2 t3 t4), t5, q H1 (Ex.refl H1)⟩
    exact s_when (b := false) (et_is (et_not (et_B ei)) rfl) nofun fun _ H1 e1 => q H1 e1
theorem ok_croom (F : Fun K "check_room" "check_room" s_check_room f fd) (n_len : mg "len" = none) (L_M : LenO P w K mg base cM 1 (spLen K cM)) (C_is_whole_within : Cal P w K mg base 2 "is_whole_within" ["thing", "least", "most"] [] (spWithin K)) : FnOk P w K mg base CX0 3 f fd ["machine", "room"] (spCRoom K cM) := by
  refine F.ok sc_check_room (fun vs H Q E h => ?_) (fun cdv A outer s H vs Q E hr h => ?_)
  · obtain ⟨_, _, _, _, rfl, _⟩ := h
    rfl
  · obtain ⟨m, zs, xss, r, rfl, hm, h6, hr6, q⟩ := h
    refine ⟨_, (pss_one (ps_if (pt_not (pt_val (pe_cal C_is_whole_within hr (by decide) (by rfl) (pa_cons (pv 1) (pa_cons pe_int (pa_cons (pe_op op_sub (pe_callB (call_lenO L_M hr (by decide)) (by rfl) n_len PySem.boot_len (pa_cons (pv 0) pa_nil)) pe_int) pa_nil)))))) (pss_one ps_never) pss_nil)), ?_⟩
    exact s_when (b := false) (et_is (et_not (et_B (ev_within (K := K) (ev_var rfl) ev_c (ev_op (ev_lenO (ev_var rfl) hm h6) ev_c rv_I0) (by omega) (by omega)))) rfl) nofun fun _ H1 e1 => q H1 e1
theorem ok_init (F : Fun K "__init__" "Machine.__init__" s_Machine___init__ f fd) (T : Txt K mg cM) (n_len : mg "len" = none) (n_list : mg "list" = none) (C_check_marks : Cal P w K mg base 2 "check_marks" ["marks"] [] (spMarks K)) (C_check_shares : Cal P w K mg base 6 "check_shares" ["many", "shares"] [] (spShares K)) :
    FnOk P w K mg base CX0 7 f fd ["self", "marks", "shares"] (spInit K cM) := by
  refine F.ok sc_Machine___init__ (fun vs H Q E h => ?_) (fun cdv A outer s H vs Q E hr h => ?_)
  · obtain ⟨_, _, _, _, _, _, _, rfl, _⟩ := h
    rfl
  · obtain ⟨x, dx, a, b, zs, us, xss, rfl, hx, ha, hb, hR, ⟨g1, g2, g3, g4, g5⟩, q⟩ := h
    refine ⟨_, (pss_cons (ps_expr (pe_cal C_check_marks hr (by decide) (by rfl) (pa_cons (pv 1) pa_nil)))
      (pss_cons (ps_expr (pe_cal C_check_shares hr (by decide) (by rfl) (pa_cons (pe_callB call_len_seq (by rfl) n_len PySem.boot_len (pa_cons (pv 1) pa_nil)) (pa_cons (pv 2) pa_nil))))
      (pss_cons (ps_fld (pv 0) (pe_callTy (call_listK (K := K) rfl) (by rfl) n_list PyProof.Rows.boot_list (pa_cons (pv 1) pa_nil)) rfl)
      (pss_one (ps_fld (pv 0) (pe_lc (own := [("row", 3)]) (by rfl) sc_Machine___init__.nd (pi_list (pv 2)) (blkOk_by (own := [("row", 3)]) (N := ["self", "marks", "shares", "row"]) (sc := defScope s_Machine___init__) (by decide +kernel)) (fun _ _ _ _ _ => (pg_name (i := 3) sc_Machine___init__.nd rfl (.inl rfl))) (fun _ _ _ _ _ => pts_nil) (fun _ _ _ _ _ => (pe_callTy (call_listK (K := K) rfl) (by rfl) n_list PyProof.Rows.boot_list (pa_cons (pv 3) pa_nil)))) rfl))))), ?_⟩
    refine q_drop (ev_cmarks (K := K) (ev_var rfl) ha g1 g2 g3) fun H1 e1 => ?_
    refine q_drop (ev_cshares (K := K) (n := zs.length) (ev_is (ev_len (K := K) (ev_var rfl) (ex_l e1 ha)) (by rw [List.length_map])) (ev_var rfl) (ex_l e1 hb) (hR.mono e1) g4 g2 g5) fun H2 e2 => ?_
    have E2 := e1.trans e2
    refine fld_raw ?_
    refine el_listOf (K := K) (ev_var rfl) (ex_l E2 ha) H2 (Ex.refl H2) _ fun p3 H3 n3 e3 h3 => ?_
    refine ⟨.ref x, rfl, x, cM, dx, [], rfl, (E2.trans e3) _ _ hx, T.cl, T.nm, by show 0 < 1000; decide, ?_⟩
    have hx3 := (E2.trans e3) _ _ hx
    have X4 : Exs x H3 (upd H3 x (.ins cM dx [("kept_marks", .ref p3)])) := Exs.upd
    have R4 := ((hR.mono E2).mono e3).exN X4 hx3 (fun _ z => by cases z) (fun _ _ z => by cases z) (fun _ z => by cases z) (fun _ _ z => by cases z)
    have b4 : SqL K (upd H3 x (.ins cM dx [("kept_marks", .ref p3)])) b us := by
      rcases ex_l (E2.trans e3) hb with (h | ⟨o, h⟩) | h
      · exact .inl (.inl (X4 _ _ (ne_of h hx3 (fun z => by cases z)) h))
      · exact .inl (.inr ⟨o, X4 _ _ (ne_of h hx3 (fun z => by cases z)) h⟩)
      · exact .inr h
    refine fld_last ?_
    refine er_copy (K := K) (H := upd H3 x (.ins cM dx [("kept_marks", .ref p3)])) (ev_var rfl) b4 R4 (by rw [R4.length, g4]; omega) (fun _ => rfl) (fun _ => rfl) _ (Ex.refl _) _ fun p5 vs5 H5 n5 e5 h5 R5 => ?_
    have hx5 := e5 _ _ (upd_same (H := H3) (a := x) (o := .ins cM dx [("kept_marks", .ref p3)]))
    refine ⟨.ref x, rfl, x, cM, dx, _, rfl, hx5, T.cl, T.ns, by show 1 < 1000; decide, ?_⟩
    have X6 : Exs x H5 (upd H5 x (.ins cM dx (putF "kept_shares" (.ref p5) [("kept_marks", .ref p3)]))) := Exs.upd
    have n3x : p3 ≠ x := fun z => by
      rw [z] at n3
      rw [E2 _ _ hx] at n3
      cases n3
    have n5x : p5 ≠ x := fun z => by
      rw [z, upd_same] at n5
      cases n5
    refine q _ (fun p o hp np => X6 _ _ np (e5 _ _ (X4 _ _ np ((E2.trans e3) _ _ hp)))) ⟨dx, p3, p5, vs5, ?_, X6 _ _ n3x (e5 _ _ (X4 _ _ n3x h3)), X6 _ _ n5x h5, R5.exN X6 hx5 (fun _ z => by cases z) (fun _ _ z => by cases z) (fun _ z => by cases z) (fun _ _ z => by cases z)⟩
    rw [upd_same]
    rfl
end
end NF

namespace NF
open PySem PySem.Spec PyProof.Rows L2 Evl
abbrev s_standing_in : Stmt := topS 35
theorem sc_standing_in : FnScope ["many", "room", "each"] ["many", "room"] (defScope s_standing_in) := ⟨rfl, rfl, rfl, by decide +kernel, rfl, by decide +kernel, by decide +kernel⟩
abbrev s_stepped : Stmt := topS 36
theorem sc_stepped : FnScope ["shares", "chances", "rooms", "room", "to"] ["shares", "chances"] (defScope s_stepped) := ⟨rfl, rfl, rfl, by decide +kernel, rfl, by decide +kernel, by decide +kernel⟩
section
variable {P : Program} {w : World} {K : PySem.W.Frag} {mg : Str → Option Value} {base : Heap} {f : Addr} {fd : FuncData} {cM aO aN : Addr}
theorem ok_stand (F : Fun K "standing_in" "standing_in" s_standing_in f fd) (n_range : mg "range" = none) (m_ONE : mg "ONE" = some (.ref aO)) (hO : ∀ H, SqT K H aO [.int 1, .int 1]) (m_NOUGHT : mg "NOUGHT" = some (.ref aN)) (hN : ∀ H, SqT K H aN [.int 0, .int 1]) : FnOk P w K mg base CX0 1 f fd ["many", "room"] (spStand K) := by
  refine F.ok sc_standing_in (fun vs H Q E h => ?_) (fun cdv A outer s H vs Q E hr h => ?_)
  · obtain ⟨_, _, rfl, _⟩ := h
    rfl
  · obtain ⟨n, r, rfl, hn, q⟩ := h
    refine ⟨_, (pss_one (ps_ret (pe_lc (own := [("each", 2)]) (by rfl) sc_standing_in.nd (pi_range1 (by rfl) n_range (pa_cons (pv 0) pa_nil)) (blkOk_by (own := [("each", 2)]) (N := ["many", "room", "each"]) (sc := defScope s_standing_in) (by decide +kernel)) (fun _ _ _ _ _ => (pg_name (i := 2) sc_standing_in.nd rfl (.inl rfl))) (fun _ _ _ _ _ => pts_nil) (fun _ _ _ _ _ => (pe_ifExp (pt_cmpR op_eq (pv 2) (pv 1) (nomark _)) (pe_glob (v := .ref aO) (by rfl) m_ONE rfl) (pe_glob (v := .ref aN) (by rfl) m_NOUGHT rfl)))))), ?_⟩
    refine s_retL (el_lcR1 (n := (n : Int)) (fun _ => true) (fun i => if i = r then .ref aO else .ref aN) (ea_cons (ev_var rfl) ea_nil) (by omega) (fun _ => rfl) (fun i H1 e1 hi => fun H3 e3 Q' q' => q' H3 (Ex.refl H3)) fun i H1 e1 hi _ => ?_) fun p H1 np e1 hp => ?_
    · refine ev_if (b := decide (V.int (i : Int) = V.int (r : Int))) (et_test (ev_op (ev_var rfl) (ev_var rfl) (rv_eq rfl))) (fun hb => ?_) (fun hb => ?_)
      · have : i = r := by
          have := V.int.inj (of_decide_eq_true hb)
          omega
        rw [if_pos this]
        exact ev_c
      · have : i ≠ r := fun z => of_decide_eq_false hb (by rw [z])
        rw [if_neg this]
        exact ev_c
    · rw [given_all] at hp
      refine q p _ H1 np e1 hp ?_
      rw [Int.toNat_natCast]
      refine rt_map fun i _ => ?_
      split
      · exact ⟨aO, rfl, hO H1⟩
      · exact ⟨aN, rfl, hN H1⟩
theorem rg_get {n i : Nat} {w : V} (h : (rgV 0 (n : Int))[i]? = some w) : w = .int (i : Int) ∧ i < n := by
  unfold rgV at h
  rw [List.getElem?_map] at h
  cases hq : (List.range ((n : Int) - 0).toNat)[i]? with
  | none =>
    rw [hq] at h
    cases h
  | some k =>
    rw [hq] at h
    obtain ⟨h1, h2⟩ := List.getElem?_eq_some_iff.mp hq
    rw [List.getElem_range] at h2
    rw [List.length_range] at h1
    subst h2
    have := Option.some.inj h
    rw [← this]
    refine ⟨?_, by omega⟩
    show V.int (0 + (i : Int)) = _
    rw [Int.zero_add]
theorem ok_step (F : Fun K "stepped" "stepped" s_stepped f fd) (n_range : mg "range" = none) (n_list : mg "list" = none) (n_len : mg "len" = none) (C_total1 : Cal P w K mg base 4 "total" ["some", "start"] [.non] (spTot K)) (C_times : Cal P w K mg base 3 "times" ["one", "other"] [] (sp2 K (fun _ _ => True) (· * ·))) :
    FnOk P w K mg base CX0 5 f fd ["shares", "chances"] (spStep K) := by
  refine F.ok sc_stepped (fun vs H Q E h => ?_) (fun cdv A outer s H vs Q E hr h => ?_)
  · obtain ⟨_, _, _, _, _, _, rfl, _⟩ := h
    rfl
  · obtain ⟨a, b, us, ws, xss, cs, rfl, ha, hR, hb, hc, h6, hl, hs, hz, q⟩ := h
    refine ⟨_, (pss_cons (ps_set (i := 2) sc_stepped.nd rfl (.inr rfl) (pe_listRg rfl (by rfl) n_list (prg_1 (by rfl) n_range (pe_callB call_len_seq (by rfl) n_len PySem.boot_len (pa_cons (pv 0) pa_nil)))))
      (pss_one (ps_ret (pe_lc (own := [("to", 4)]) (by rfl) sc_stepped.nd (pi_list (pv 2)) (blkOk_by (own := [("to", 4)]) (N := ["shares", "chances", "rooms", "room", "to"]) (sc := defScope s_stepped) (by decide +kernel)) (fun _ _ _ _ _ => (pg_name (i := 4) sc_stepped.nd rfl (.inr rfl))) (fun _ _ _ _ _ => pts_nil) (fun _ _ _ _ _ => (pe_cal C_total1 hr (by decide) (by rfl) (pa_cons (pe_lc (own := [("room", 3)]) (by rfl) sc_stepped.nd (pi_listK (K := K) rfl (pv 2)) (blkOk_by (own := [("room", 3)]) (N := ["shares", "chances", "rooms", "room", "to"]) (by rfl)) (fun _ _ _ _ _ => (pg_name (i := 3) sc_stepped.nd rfl (.inl rfl))) (fun _ _ _ _ _ => pts_nil) (fun _ _ _ _ _ => (pe_cal C_times hr (by decide) (by rfl) (pa_cons (pe_ix (ix_listK (K := K) rfl) (pv 1) (pv 3) (fun _ _ => rfl)) (pa_cons (pe_ix (ix_listK (K := K) rfl) (pe_ix (ix_listK (K := K) rfl) (pv 0) (pv 3) (fun _ _ => rfl)) (pv 4) (fun _ _ => rfl)) pa_nil))))) pa_nil))))))), ?_⟩
    have hlu : us.length = xss.length := hR.length
    have er : EvL (tLstRg (tRg1 (tCB (rLenS K) (tCons (tVar 0) tNil)))) (start ["shares", "chances", "rooms", "room", "to"] [.ref a, .ref b]) H (rgV 0 (xss.length : Int)) := fun H1 e Q q =>
      ev_len (K := K) (ev_var rfl) ha H1 e _ fun H2 e2 => ⟨_, rfl, RgOk.of_le (by omega) (by omega) (by omega) (by omega), fun l nl => q l _ (fresh_back e2 nl) (e2.trans (Ex.new nl)) (by rw [hlu]; exact upd_same)⟩
    refine q_asgL er fun p1 H1 n1 e1 h1 => ?_
    have lrg : (rgV 0 (xss.length : Int)).length = xss.length := by
      rw [rgV_length]
      omega
    have szc : ∀ r, Sz 245 (cs.getD r 0) := fun r => by
      rw [List.getD_eq_getElem?_getD]
      cases hq : cs[r]? with
      | none => exact ⟨by decide, by decide⟩
      | some c => exact hz c (List.mem_of_getElem? hq)
    refine er_lcL (K := K) (xs := step1 xss cs) (ev_var rfl) (SqL.of h1) (by rw [lrg]; simp [step1]) (by omega) (fun _ => rfl) ?_ H1 (Ex.refl H1) _ fun p us' H2 np e2 hp hr2 => q p us' H2 (fresh_back e1 np) (e1.trans e2) hp hr2
    intro to wt x H3 e3 hto hx
    obtain ⟨rfl, hlt⟩ := rg_get hto
    have hxe : x = dot xss cs to := by
      unfold step1 at hx
      rw [List.getElem?_map, List.getElem?_range hlt] at hx
      exact (Option.some.inj hx).symm
    subst hxe
    have E3 := e1.trans e3
    have szs : ∀ r, r < xss.length → ∃ xs, xss[r]? = some xs ∧ xss.getD r [] = xs ∧ ∃ y, xs[to]? = some y ∧ xs.getD to 0 = y ∧ Sz 245 y := fun r hr' => by
      have hm : xss[r] ∈ xss := List.getElem_mem hr'
      obtain ⟨s1, s2, s3⟩ := hs _ hm
      have ht : to < xss[r].length := by omega
      refine ⟨xss[r], List.getElem?_eq_getElem hr', by rw [List.getD_eq_getElem?_getD, List.getElem?_eq_getElem hr']; rfl, xss[r][to], List.getElem?_eq_getElem ht, by rw [List.getD_eq_getElem?_getD, List.getElem?_eq_getElem ht]; rfl, ((s2 _ (List.getElem_mem ht)).sz).mono (by decide)⟩
    refine ef_totR (B := 491) (xs := (List.range xss.length).map fun r => cs.getD r 0 * (xss.getD r []).getD to 0) ?_ ?_ ?_ (by decide)
    · refine er_lcL (K := K) (ev_var rfl) (SqL.of (e3 _ _ h1)) (by rw [lrg]; simp) (by omega) (fun _ => rfl) ?_
      intro r wr y H4 e4 hro hy
      obtain ⟨rfl, hrl⟩ := rg_get hro
      obtain ⟨xs, g1, g2, y0, g3, g4, g5⟩ := szs r hrl
      have hye : y = cs.getD r 0 * y0 := by
        rw [List.getElem?_map, List.getElem?_range hrl] at hy
        have := (Option.some.inj hy).symm
        rw [this]
        show cs.getD r 0 * (xss.getD r []).getD to 0 = _
        rw [g2, g4]
      subst hye
      have hcr : cs[r]? = some (cs.getD r 0) := by
        rw [List.getD_eq_getElem?_getD, List.getElem?_eq_getElem (show r < cs.length by omega)]
        rfl
      have E4 := E3.trans e4
      obtain ⟨pr, wr2, er1, er2, er3⟩ := ev_row (K := K) (σ := [some (.ref a), some (.ref b), some (.ref p1), some (.int (r : Int)), some (.int (to : Int))]) (ta := tVar 0) (tb := tVar 3) (ev_var rfl) (ev_var rfl) (ex_l E4 ha) (hR.mono E4) g1
      exact ef_2 (f := (· * ·)) (B := 245) (ef_at (K := K) (ev_var rfl) (ev_var rfl) (ex_l E4 hb) (hc.mono E4) hcr) (ef_at (K := K) er1 (ev_var rfl) er2 er3 g3) True.intro (szc r) g5 (by decide) (by decide)
    · intro y hy
      obtain ⟨r, hr1, rfl⟩ := List.mem_map.mp hy
      obtain ⟨xs, g1, g2, y0, g3, g4, g5⟩ := szs r (List.mem_range.mp hr1)
      rw [g2, g4]
      exact (szc r).mul g5
    · rw [List.length_map, List.length_range]
      have : (xss.length + 2) * (491 + 1) ≤ 8 * (491 + 1) := Nat.mul_le_mul_right _ (by omega)
      omega
end
end NF

namespace NF
open PySem PySem.Spec PyProof.Rows L2 Evl
abbrev s_where : Stmt := topS 37
theorem sc_where : FnScope ["machine", "room", "steps", "shares", "chances", "step"] ["machine", "room", "steps"] (defScope s_where) := ⟨rfl, rfl, rfl, by decide +kernel, rfl, by decide +kernel, by decide +kernel⟩
section
variable {K : PySem.W.Frag} {H H1 H2 : Hp} {σ : L2.St} {ta tb te tl : TE} {v w u : V} {E : XK} {C a m : Addr} {zs : List Str} {xss : List (List Rat)} {D : Ends} {tz : TS}
theorem ev_cmach (h : Ev ta σ H (.ref m)) (hm : MaAt K C H m zs xss) : Ev (tCall (spCMach K C) [] E (tCons ta tNil)) σ H .non := fun H1 e Q q =>
  h H1 e _ fun H2 e2 => ⟨m, zs, xss, rfl, hm.mono (e.trans e2), fun H' e3 => q H' (e2.trans e3)⟩
theorem ev_croom {r : Nat} (h : Ev ta σ H (.ref m)) (h2 : Ev tb σ H (.int (r : Int))) (hm : MaAt K C H m zs xss) (h6 : zs.length ≤ 6) (hr : r < zs.length) : Ev (tCall (spCRoom K C) [] E (tCons ta (tCons tb tNil))) σ H .non := fun H1 e Q q =>
  h H1 e _ fun H2 e2 => h2 H2 (e.trans e2) _ fun H3 e3 => ⟨m, zs, xss, r, rfl, hm.mono ((e.trans e2).trans e3), h6, hr, fun H' e4 => q H' ((e2.trans e3).trans e4)⟩
theorem er_sharesM (h : Ev ta σ H (.ref m)) (hm : MaAt K C H m zs xss) (h6 : xss.length ≤ 6) : EvRows K (tMeth C "shares" (spSharesM K C) [] E ta tNil) σ H xss := fun H1 e Q q =>
  h H1 e _ fun H2 e2 => by
    have hm2 := hm.mono (e.trans e2)
    obtain ⟨dx, am, as, us, h1, _⟩ := id hm2
    exact ⟨m, dx, _, rfl, h1, rfl, m, zs, xss, rfl, hm2, h6, fun p vs H' np e3 hp hR => q p vs H' (fresh_back e2 np) (e2.trans e3) hp hR⟩
theorem er_stand {n r : Nat} (h : Ev ta σ H (.int (n : Int))) (h2 : Ev tb σ H (.int (r : Int))) (h6 : n ≤ 6) : EvR K (tCall (spStand K) [] E (tCons ta (tCons tb tNil))) σ H (unit n r) := fun H1 e Q q =>
  h H1 e _ fun H2 e2 => h2 H2 (e.trans e2) _ fun H3 e3 => ⟨n, r, rfl, h6, fun p us H' np e4 hp hR => q p us H' (fresh_back (e2.trans e3) np) ((e2.trans e3).trans e4) hp hR⟩
theorem er_step {b : Addr} {us ws : List V} {cs : List Rat} (h : Ev ta σ H (.ref a)) (h2 : Ev tb σ H (.ref b)) (ha : SqL K H a us) (hR : Rows K H us xss) (hb : SqL K H b ws) (hc : RtAll K H ws cs) (h6 : xss.length ≤ 6) (hl : cs.length = xss.length) (hs : ∀ xs ∈ xss, Shs xs xss.length) (hz : ∀ c ∈ cs, Sz 245 c) :
    EvR K (tCall (spStep K) [] E (tCons ta (tCons tb tNil))) σ H (step1 xss cs) := fun H1 e Q q =>
  h H1 e _ fun H2 e2 => h2 H2 (e.trans e2) _ fun H3 e3 => by
    have E3 := (e.trans e2).trans e3
    exact ⟨a, b, us, ws, xss, cs, rfl, ex_l E3 ha, hR.mono E3, ex_l E3 hb, hc.mono E3, h6, hl, hs, hz, fun p us' H' np e4 hp hr => q p us' H' (fresh_back (e2.trans e3) np) ((e2.trans e3).trans e4) hp hr⟩
theorem q_asgR {i : Nat} {xs : List Rat} (h : EvR K te σ H xs) (k : ∀ p us H1, H p = none → Ex H H1 → H1 p = some (.lst us) → RtAll K H1 us xs → tz D (σ.set i (some (.ref p))) H1) : tSeq (tAsg te (gName i)) tz D σ H := h H (Ex.refl H) _ fun p us H1 np e hp r => k p us H1 np e hp r
theorem s_asgR {i : Nat} {xs : List Rat} (h : EvR K te σ H xs) (k : ∀ p us H1, H p = none → Ex H H1 → H1 p = some (.lst us) → RtAll K H1 us xs → D.nx (σ.set i (some (.ref p))) H1) : tAsg te (gName i) D σ H := h H (Ex.refl H) _ fun p us H1 np e hp r => k p us H1 np e hp r
theorem q_asgRows {i : Nat} (h : EvRows K te σ H xss) (k : ∀ p us H1, H p = none → Ex H H1 → H1 p = some (.lst us) → Rows K H1 us xss → tz D (σ.set i (some (.ref p))) H1) : tSeq (tAsg te (gName i)) tz D σ H := h H (Ex.refl H) _ fun p us H1 np e hp r => k p us H1 np e hp r
def spWhere (K : PySem.W.Frag) (C : Addr) : Sp := fun vs H Q _ => ∃ (m : Addr) (zs : List Str) (xss : List (List Rat)) (r k : Nat), vs = [.ref m, .int (r : Int), .int (k : Int)] ∧ MaAt K C H m zs xss ∧ Good zs xss ∧ r < zs.length ∧ k ≤ 12 ∧ (∀ j, j ≤ k → ∀ c ∈ walk xss r j, Sz 245 c) ∧
  ∀ p us H', H p = none → Ex H H' → H' p = some (.lst us) → RtAll K H' us (walk xss r k) → Q (.ref p) H'
def spSharesOf (K : PySem.W.Frag) (C : Addr) : Sp := fun vs H Q _ => ∃ (m : Addr) (zs : List Str) (xss : List (List Rat)) (r : Nat) (xs : List Rat), vs = [.ref m, .int (r : Int)] ∧ MaAt K C H m zs xss ∧ Good zs xss ∧ r < zs.length ∧ xss[r]? = some xs ∧
  ∀ p us H', H p = none → Ex H H' → H' p = some (.lst us) → RtAll K H' us xs → Q (.ref p) H'
end
section
variable {P : Program} {w : World} {K : PySem.W.Frag} {mg : Str → Option Value} {base : Heap} {f : Addr} {fd : FuncData} {cM : Addr}
theorem ok_where {dvs : List V} (F : FunD K "where" "where" (defArgs s_where) (defBody s_where) (defScope s_where) dvs [] f fd) (n_range : mg "range" = none) (n_len : mg "len" = none) {tk : Tok} (m_MOST_STEPS : mg "MOST_STEPS" = some (.int 12 tk)) (L_M : LenO P w K mg base cM 1 (spLen K cM)) (M_shares : CalM P w K mg base cM 1 "shares" ["self"] (spSharesM K cM))
    (C_check_machine : Cal P w K mg base 1 "check_machine" ["thing"] [] (spCMach K cM)) (C_check_room : Cal P w K mg base 3 "check_room" ["machine", "room"] [] (spCRoom K cM)) (C_is_whole_within : Cal P w K mg base 2 "is_whole_within" ["thing", "least", "most"] [] (spWithin K)) (C_standing_in : Cal P w K mg base 1 "standing_in" ["many", "room"] [] (spStand K))
    (C_stepped : Cal P w K mg base 5 "stepped" ["shares", "chances"] [] (spStep K)) : FnOk P w K mg base CX0 6 f fd ["machine", "room", "steps"] (spWhere K cM) := by
  refine F.ok sc_where (fun vs H Q E h => ?_) (fun cdv A outer s H vs Q E hr h => ?_)
  · obtain ⟨_, _, _, _, _, rfl, _⟩ := h
    rfl
  · obtain ⟨m, zs, xss, r, k, rfl, hm, ⟨g1, g2, g3, g4, g5⟩, hr6, hk, hz, q⟩ := h
    refine ⟨_, PSs.nox ((pss_cons (ps_expr (pe_cal C_check_machine hr (by decide) (by rfl) (pa_cons (pv 0) pa_nil)))
      (pss_cons (ps_expr (pe_cal C_check_room hr (by decide) (by rfl) (pa_cons (pv 0) (pa_cons (pv 1) pa_nil))))
      (pss_cons (ps_if (pt_not (pt_val (pe_cal C_is_whole_within hr (by decide) (by rfl) (pa_cons (pv 2) (pa_cons pe_int (pa_cons (pe_glob (v := .int 12) (by rfl) m_MOST_STEPS ⟨_, rfl⟩) pa_nil)))))) (pss_one ps_never) pss_nil)
      (pss_cons (ps_set (i := 3) sc_where.nd rfl (.inl rfl) (pe_calM0 M_shares hr (by decide) (pv 0)))
      (pss_cons (ps_set (i := 4) sc_where.nd rfl (.inl rfl) (pe_cal C_standing_in hr (by decide) (by rfl) (pa_cons (pe_callB (call_lenO L_M hr (by decide)) (by rfl) n_len PySem.boot_len (pa_cons (pv 0) pa_nil)) (pa_cons (pv 1) pa_nil))))
      (pss_cons (ps_for PassesOwn.never rfl (pi_range1 (by rfl) n_range (pa_cons (pv 2) pa_nil)) (pg_name (i := 5) sc_where.nd rfl (.inl rfl)) (pss_one (ps_set (i := 4) sc_where.nd rfl (.inl rfl) (pe_cal C_stepped hr (by decide) (by rfl) (pa_cons (pv 3) (pa_cons (pv 4) pa_nil))))))
      (pss_one (ps_ret (pv 4)))))))))), ?_⟩
    refine q_drop (ev_cmach (K := K) (ev_var rfl) hm) fun H1 e1 => ?_
    refine q_drop (ev_croom (K := K) (ev_var rfl) (ev_var rfl) (hm.mono e1) g2 hr6) fun H2 e2 => ?_
    refine q_when (b := false) (et_is (et_not (et_B (ev_within (K := K) (ev_var rfl) ev_c ev_c (by omega) (by omega)))) rfl) nofun fun _ H3 e3 => ?_
    have E3 := (e1.trans e2).trans e3
    refine q_asgRows (er_sharesM (K := K) (ev_var rfl) (hm.mono E3) (by omega)) fun ps us H4 n4 e4 h4 hR => ?_
    refine q_asgR (er_stand (K := K) (n := zs.length) (r := r) (ev_lenO (ev_var rfl) (hm.mono (E3.trans e4)) g2) (ev_var rfl) g2) fun pc cu H5 n5 e5 h5 hc => ?_
    have E4 := E3.trans e4
    refine q_forR1 (n := (k : Int)) (ea_cons (ev_var rfl) ea_nil) (by omega) (fun i σ' H' => ∃ pc cu y5, σ' = [some (.ref m), some (.int (r : Int)), some (.int (k : Int)), some (.ref ps), some (.ref pc), y5] ∧ Ex H4 H' ∧ H pc = none ∧ H' pc = some (.lst cu) ∧ RtAll K H' cu (walk xss r i)) (fun H6 e6 => ⟨pc, cu, none, rfl, e5.trans e6, fresh_back E4 n5, e6 _ _ h5, by
      show RtAll K H6 cu (unit xss.length r)
      rw [g4]
      exact hc.mono e6⟩) ?_ ?_
    · rintro i σ' H6 hi ⟨pc', cu', y5, rfl, e6, n6, h6, hc6⟩
      refine s_asgR (er_step (K := K) (ev_var rfl) (ev_var rfl) (SqL.of (e6 _ _ h4)) (hR.mono e6) (SqL.of h6) hc6 (by omega) (walk_len xss r i) (by rw [g4]; exact g5) (hz i (by omega))) fun p7 u7 H7 n7 e7 h7 hc7 => ?_
      exact ⟨p7, u7, _, rfl, e6.trans e7, fresh_back (E4.trans e6) n7, h7, hc7⟩
    · rintro σ' H6 ⟨pc', cu', y5, rfl, e6, n6, h6, hc6⟩
      rw [Int.toNat_natCast] at hc6
      exact s_ret (ev_var rfl) fun H7 e7 => q pc' cu' H7 n6 ((E4.trans e6).trans e7) (e7 _ _ h6) (hc6.mono e7)
end
end NF

namespace NF
open PySem PySem.Spec PyProof.Rows L2 Evl
abbrev s__law_bag : Stmt := topS 42
theorem sc__law_bag : FnScope ["_law_script", "_law_k", "_law_cell", "_law_great"] ["_law_script", "_law_k"] (defScope s__law_bag) := ⟨rfl, rfl, rfl, by decide +kernel, rfl, by decide +kernel, by decide +kernel⟩
abbrev s__law_out : Stmt := topS 43
theorem sc__law_out : FnScope ["_law_bag_here", "_law_many", "_law_found"] ["_law_bag_here", "_law_many"] (defScope s__law_out) := ⟨rfl, rfl, rfl, by decide +kernel, rfl, by decide +kernel, by decide +kernel⟩
abbrev s__law_low : Stmt := topS 44
theorem sc__law_low : FnScope ["_law_top", "_law_bottom", "_law_one", "_law_other"] ["_law_top", "_law_bottom"] (defScope s__law_low) := ⟨rfl, rfl, rfl, by decide +kernel, rfl, by decide +kernel, by decide +kernel⟩
abbrev s__law_add : Stmt := topS 45
theorem sc__law_add : FnScope ["_law_one", "_law_other"] ["_law_one", "_law_other"] (defScope s__law_add) := ⟨rfl, rfl, rfl, by decide +kernel, rfl, by decide +kernel, by decide +kernel⟩
abbrev s__law_mul : Stmt := topS 46
theorem sc__law_mul : FnScope ["_law_one", "_law_other"] ["_law_one", "_law_other"] (defScope s__law_mul) := ⟨rfl, rfl, rfl, by decide +kernel, rfl, by decide +kernel, by decide +kernel⟩
section
variable {P : Program} {w : World} {K : PySem.W.Frag} {mg : Str → Option Value} {base : Heap} {f : Addr} {fd : FuncData}
theorem ok_bag (F : Fun K "_law_bag" "_law_bag" s__law_bag f fd) (n_len : mg "len" = none) : FnOk P w K mg base CX0 1 f fd ["_law_script", "_law_k"] (spBag K) := by
  refine F.ok sc__law_bag (fun vs H Q E h => ?_) (fun cdv A outer s H vs Q E hr h => ?_)
  · obtain ⟨_, _, _, rfl, _⟩ := h
    rfl
  · obtain ⟨a, ns, k, rfl, ha, hl, hk, q⟩ := h
    refine ⟨_, (pss_cons (ps_set (i := 2) sc__law_bag.nd rfl (.inl rfl) pe_int)
      (pss_cons (ps_if (pt_cmpR op_lt (pv 1) (pe_callB call_len_seq (by rfl) n_len PySem.boot_len (pa_cons (pv 0) pa_nil)) (nomark _)) (pss_one (ps_set (i := 2) sc__law_bag.nd rfl (.inl rfl) (pe_ix ix_list (pv 0) (pv 1) (fun _ _ => rfl)))) pss_nil)
      (pss_cons (ps_set (i := 3) sc__law_bag.nd rfl (.inl rfl) pe_int)
      (pss_cons (ps_if (pt_cmpR op_ge (pv 2) (pe_op op_pow pe_int pe_int) (nomark _)) (pss_one (ps_set (i := 3) sc__law_bag.nd rfl (.inl rfl) (pv 2))) pss_nil)
      (pss_one (ps_ret (pe_lst (pa_cons (pv 3) (pa_cons (pe_op op_modN (pe_op op_pow (pe_op op_add (pe_op op_add (pe_op op_modN (pv 2) pe_int) (pe_op op_mul pe_int (pv 1))) pe_int) pe_int) pe_int) pa_nil))))))))), ?_⟩
    refine q_asg ev_c fun H1 e1 => ?_
    refine q_ifAsg (v := .int (ns.getD k 0)) (et_test (ev_op (ev_var rfl) (ev_len (ev_var rfl) (ex_l e1 ha)) rv_I0)) (fun hb => ?_) (fun hb => ?_) fun H2 e2 => ?_
    · have hlt : k < ns.length := by
        have := of_decide_eq_true hb
        rw [List.length_map] at this
        omega
      refine ev_op (ev_var rfl) (ev_var rfl) (rv_ixL (ex_l e1 ha) (atI_nat ?_))
      rw [List.getElem?_map, List.getElem?_eq_getElem hlt, List.getD_eq_getElem?_getD, List.getElem?_eq_getElem hlt]
      rfl
    · have hlt : ¬ k < ns.length := fun z => of_decide_eq_false hb (by rw [List.length_map]; omega)
      rw [List.getD_eq_getElem?_getD, List.getElem?_eq_none (by omega)]
      rfl
    generalize ns.getD k 0 = c
    refine q_asg ev_c fun H3 e3 => ?_
    refine q_ifAsg (v := .int (if 10 ^ 18 ≤ c then c else 0)) (et_test (ev_op (ev_var rfl) (ev_op ev_c ev_c (rv_I ⟨by decide, by decide, by decide⟩)) rv_I0)) (fun hb => ?_) (fun hb => ?_) fun H4 e4 => ?_
    · have hc : (10 : Int) ^ 18 ≤ c := of_decide_eq_true hb
      rw [if_pos hc]
      exact ev_var rfl
    · have hc : ¬ (10 : Int) ^ 18 ≤ c := of_decide_eq_false hb
      rw [if_neg hc]
      rfl
    have m0 : 0 ≤ c.fmod 998244353 := Int.fmod_nonneg_of_pos _ (by decide)
    have m1 : c.fmod 998244353 < 998244353 := Int.fmod_lt_of_pos _ (by decide)
    refine s_retL (el_lst (ea_cons (ev_var rfl) (ea_cons (ev_op (ev_op (ev_op (ev_op (ev_op (ev_var rfl) ev_c (rv_I (by decide))) (ev_op ev_c (ev_var rfl) (rv_I (.inl ⟨by decide, by decide⟩))) rv_I0) ev_c rv_I0) ev_c (rv_I (C := CPow) (g := fun i j => .int (i ^ j.toNat)) ⟨by decide, by decide, by omega⟩)) ev_c (rv_I (by decide))) ea_nil)) (by show 2 ≤ 100000; decide)) fun p H5 np e5 hp => ?_
    have E4 := ((e1.trans e2).trans e3).trans e4
    exact q p H5 (fresh_back E4 np) (E4.trans e5) ⟨_, _, hp⟩
theorem ok_out (F : Fun K "_law_out" "_law_out" s__law_out f fd) : FnOk P w K mg base CX0 1 f fd ["_law_bag_here", "_law_many"] spOut := by
  refine F.ok sc__law_out (fun vs H Q E h => ?_) (fun cdv A outer s H vs Q E hr h => ?_)
  · obtain ⟨_, _, rfl, _⟩ := h
    rfl
  · obtain ⟨st, many, rfl, ⟨g, m, hs⟩, h0, hm, q⟩ := h
    refine ⟨_, (pss_cons (ps_if (pt_cmpR op_gt (pe_ix ix_list (pv 0) pe_int (fun _ _ => rfl)) pe_int (nomark _)) (pss_cons (ps_set (i := 2) sc__law_out.nd rfl (.inl rfl) (pe_op op_modN (pe_ix ix_list (pv 0) pe_int (fun _ _ => rfl)) (pv 1)))
      (pss_cons (ps_asg (pe_op op_fdivX (pe_ix ix_list (pv 0) pe_int (fun _ _ => rfl)) (pv 1)) (pg_sub (pv 0) pe_int set_list))
      (pss_one (ps_ret (pv 2))))) pss_nil)
      (pss_cons (ps_asg (pe_op op_modN (pe_op op_add (pe_op op_mul (pe_ix ix_list (pv 0) pe_int (fun _ _ => rfl)) pe_int) pe_int) pe_int) (pg_sub (pv 0) pe_int set_list))
      (pss_one (ps_ret (pe_op op_modN (pe_op op_fdivX (pe_op op_modN (pe_op op_mul (pe_ix ix_list (pv 0) pe_int (fun _ _ => rfl)) (pe_op op_add (pe_op op_fdivX (pe_ix ix_list (pv 0) pe_int (fun _ _ => rfl)) pe_int) pe_int)) pe_int) pe_int) (pv 1)))))), ?_⟩
    have i0 : ∀ {σ : L2.St} {H : Hp} {a b : V}, σ[0]? = some (some (.ref st)) → H st = some (.lst [a, b]) → Ev (tOp (rIxL K) (tVar 0) (tC (.int 0))) σ H a := fun hσ h => ev_op (ev_var hσ) ev_c (rv_ixL (SqL.of h) (atI_nat (j := 0) rfl))
    have i1 : ∀ {σ : L2.St} {H : Hp} {a b : V}, σ[0]? = some (some (.ref st)) → H st = some (.lst [a, b]) → Ev (tOp (rIxL K) (tVar 0) (tC (.int 1))) σ H b := fun hσ h => ev_op (ev_var hσ) ev_c (rv_ixL (SqL.of h) (atI_nat (j := 1) rfl))
    have mb : many.natAbs < 2 ^ 60 := by omega
    refine q_when (et_test (ev_op (i0 rfl hs) ev_c rv_I0)) (fun hb H1 x1 => ?_) fun hb H1 x1 => ?_
    · refine q_asg (ev_op (i0 rfl (x1 _ _ hs)) (ev_var rfl) (rv_I (Int.ne_of_gt h0))) fun H2 x2 => ?_
      refine q_setL (j := 0) ((x1.trans x2) _ _ hs) (ev_op (i0 rfl ((x1.trans x2) _ _ hs)) (ev_var rfl) (rv_I (divX (Int.ne_of_gt h0) mb (by decide) (by decide)))) (ev_var rfl) ev_c (by show 0 < 2; decide) fun H3 x3 => ?_
      exact s_ret (ev_var rfl) fun H5 x5 => q _ H5 (Int.fmod_nonneg_of_pos g h0) (Int.fmod_lt_of_pos g h0) ⟨_, _, x5 _ _ upd_same⟩ (((ExS.of ((x1.trans x2).trans x3)).trans ExS.upd).trans (ExS.of x5))
    · have p0 : 0 ≤ (m * 40692 + 12345).fmod 2147483399 := Int.fmod_nonneg_of_pos _ (by decide)
      have p1 : (m * 40692 + 12345).fmod 2147483399 < 2147483399 := Int.fmod_lt_of_pos _ (by decide)
      refine q_setL (j := 1) (x1 _ _ hs) (ev_op (ev_op (ev_op (i1 rfl (x1 _ _ hs)) ev_c (rv_I (.inr ⟨by decide, by decide⟩))) ev_c rv_I0) ev_c (rv_I (by decide))) (ev_var rfl) ev_c (by show 1 < 2; decide) fun H3 x3 => ?_
      refine s_ret (ev_op (ev_op (ev_op (ev_op (i1 rfl upd_same) (ev_op (ev_op (i1 rfl upd_same) ev_c (rv_I (divX (b := 11) (by decide) (by decide) (by decide) (by decide)))) ev_c rv_I0) (rv_I (.inl ⟨by omega, by omega⟩))) ev_c (rv_I (by decide))) ev_c (rv_I (divX (b := 6) (by decide) (by decide) (by decide) (by decide)))) (ev_var rfl) (rv_I (Int.ne_of_gt h0))) fun H5 x5 => ?_
      exact q _ H5 (Int.fmod_nonneg_of_pos _ h0) (Int.fmod_lt_of_pos _ h0) ⟨_, _, x5 _ _ upd_same⟩ (((ExS.of (x1.trans x3)).trans ExS.upd).trans (ExS.of x5))
theorem ok_low (F : Fun K "_law_low" "_law_low" s__law_low f fd) (n_abs : mg "abs" = none) : FnOk P w K mg base CX0 1 f fd ["_law_top", "_law_bottom"] (spLow K) := by
  refine F.ok sc__law_low (fun vs H Q E h => ?_) (fun cdv A outer s H vs Q E hr h => ?_)
  · obtain ⟨_, _, _, rfl, _⟩ := h
    rfl
  · obtain ⟨a, b, B, rfl, hb0, ha, hb, hB0, hB, q⟩ := h
    refine ⟨_, (pss_cons (ps_set (i := 2) sc__law_low.nd rfl (.inl rfl) (pe_callB call_abs (by rfl) n_abs PyProof.Rows.boot_abs (pa_cons (pv 0) pa_nil)))
      (pss_cons (ps_set (i := 3) sc__law_low.nd rfl (.inl rfl) (pv 1))
      (pss_cons (ps_while PassesOwn.never (pt_cmpR op_ne (pv 3) pe_int (nomark _)) (pss_one (ps_par (i := 2) (j := 3) (by rfl) sc__law_low.nd rfl rfl (by decide) rfl rfl (pa_cons (pv 3) (pa_cons (pe_op op_modN (pv 2) (pv 3)) pa_nil)) (by rfl))))
      (pss_one (ps_ret (pe_tup (pa_cons (pe_op op_fdivX (pv 0) (pv 2)) (pa_cons (pe_op op_fdivX (pv 1) (pv 2)) pa_nil)))))))), ?_⟩
    have ea : RC (fun xs H Q => ∃ i, xs = [V.int i] ∧ Q (V.int (if i < 0 then -i else i)) H) [V.int a] H (V.int (if a < 0 then -a else a)) := fun H1 _ Q' q' => ⟨a, rfl, q' H1 (Ex.refl H1)⟩
    refine q_asg (ev_cb (ea_cons (ev_var rfl) ea_nil) ea) fun H1 e1 => ?_
    refine q_asg (ev_var rfl) fun H2 e2 => ?_
    refine q_while (fun m σ' H' => ∃ c d : Int, σ' = [some (.int a), some (.int b), some (.int c), some (.int d)] ∧ 0 ≤ c ∧ 0 ≤ d ∧ d.natAbs = m ∧ Int.gcd c d = Int.gcd a b ∧ Ex H H') b.natAbs ⟨_, b, rfl, by split <;> omega, by omega, rfl, ?_, e1.trans e2⟩ ?_
    · split
      · simp [Int.gcd]
      · rfl
    rintro m σ' H' ⟨c, d, rfl, hc0, hd0, rfl, eg, ex⟩
    refine ⟨_, et_test (ev_op (ev_var rfl) ev_c (rv_ne rfl)), fun hb => ?_, fun hb => ?_⟩
    · intro H3 e3
      have hd : 0 < d := by
        have : d ≠ 0 := fun z => by
          subst z
          simp at hb
        omega
      obtain ⟨g1, g2⟩ := gcd_step (a := c) (b := d) (by omega)
      have g3 := Int.fmod_nonneg_of_pos c hd
      refine ⟨fun σ2 H2 => ∃ c' d' : Int, σ2 = [some (.int a), some (.int b), some (.int c'), some (.int d')] ∧ 0 ≤ c' ∧ 0 ≤ d' ∧ d'.natAbs < d.natAbs ∧ Int.gcd c' d' = Int.gcd a b ∧ Ex H H2, ?_, ?_⟩
      · rintro σ2 H2 ⟨c', d', e, z1, z2, l, g, x⟩
        exact ⟨_, l, c', d', e, z1, z2, rfl, g, x⟩
      · exact s_par (ea_cons (ev_var rfl) (ea_cons (ev_op (ev_var rfl) (ev_var rfl) (rv_I (by omega))) ea_nil)) fun H4 e4 => ⟨d, c.fmod d, rfl, hd0, g3, g2, by rw [g1, eg], (ex.trans e3).trans e4⟩
    · intro H3 e3
      have hd : d = 0 := by
        by_cases z : d = 0
        · exact z
        · simp [z] at hb
      subst hd
      have hcg : c = (Int.gcd a b : Int) := by
        rw [← eg, Int.gcd_zero_right]
        omega
      subst hcg
      have hg : 0 < Int.gcd a b := Int.gcd_pos_of_ne_zero_right _ (by omega)
      have hgb : ((Int.gcd a b : Nat) : Int).natAbs < 2 ^ B := by
        have h1 : Int.gcd a b ≤ b.natAbs := Nat.le_of_dvd (by omega) (Int.gcd_dvd_natAbs_right a b)
        omega
      have hd0' : (Int.gcd a b : Int) ≠ 0 := by omega
      refine s_retU (eu_tup (ea_cons (ev_op (ev_var rfl) (ev_var rfl) (rv_I (divX hd0' hgb hB0 hB))) (ea_cons (ev_op (ev_var rfl) (ev_var rfl) (rv_I (divX hd0' hgb hB0 hB))) ea_nil)) (by show 2 ≤ 100000; decide)) fun p H4 _ e4 hp => ?_
      exact q _ _ ((ex.trans e3).trans e4) (Rt.of hp (red_pos hb0).1 (red_pos hb0).2)
theorem ok_add (F : Fun K "_law_add" "_law_add" s__law_add f fd) (C__law_low : Cal P w K mg base 1 "_law_low" ["_law_top", "_law_bottom"] [] (spLow K)) : FnOk P w K mg base CX0 2 f fd ["_law_one", "_law_other"] (sp2 K (fun _ _ => True) (· + ·)) := by
  refine F.ok sc__law_add (fun vs H Q E h => ?_) (fun cdv A outer s H vs Q E hr h => ?_)
  · obtain ⟨_, _, _, _, _, rfl, _⟩ := h
    rfl
  · obtain ⟨v, w, x, y, B, rfl, rx, ry, _, sx, sy, h0, hB, q⟩ := h
    refine ⟨_, (pss_one (ps_ret (pe_cal C__law_low hr (by decide) (by rfl) (pa_cons (pe_op op_add (pe_op op_mulW (pe_ix ix_tup (pv 0) pe_int (fun _ _ => rfl)) (pe_ix ix_tup (pv 1) pe_int (fun _ _ => rfl))) (pe_op op_mulW (pe_ix ix_tup (pv 1) pe_int (fun _ _ => rfl)) (pe_ix ix_tup (pv 0) pe_int (fun _ _ => rfl)))) (pa_cons (pe_op op_mulW (pe_ix ix_tup (pv 0) pe_int (fun _ _ => rfl)) (pe_ix ix_tup (pv 1) pe_int (fun _ _ => rfl))) pa_nil))))), ?_⟩
    have m1 := rv_I (H := H) (g := fun i j => V.int (i * j)) (wide_mul sx.num sy.den h0 h0 (by omega))
    have m2 := rv_I (H := H) (g := fun i j => V.int (i * j)) (wide_mul sy.num sx.den h0 h0 (by omega))
    have m3 := rv_I (H := H) (g := fun i j => V.int (i * j)) (wide_mul sx.den sy.den h0 h0 (by omega))
    have a1 : EvF K (tVar 0) (start ["_law_one", "_law_other"] [v, w]) H x := ef_var rfl rx
    have a2 : EvF K (tVar 1) (start ["_law_one", "_law_other"] [v, w]) H y := ef_var rfl ry
    refine s_retF (EvF.to (ef_low (B := 2 * B + 1) (ev_op (ev_op (ev_ix0 a1) (ev_ix1 a2) m1) (ev_op (ev_ix0 a2) (ev_ix1 a1) m2) rv_I0) (ev_op (ev_ix1 a1) (ev_ix1 a2) m3) (Int.mul_pos (denp x) (denp y))
      (bits_up (bits_add (bits_mul sx.num sy.den) (bits_mul sy.num sx.den)) (by omega)) (bits_up (bits_mul sx.den sy.den) (by omega)) (by omega) (by omega)) (add_rt x y).symm) fun u H1 e1 r => q u H1 e1 r
theorem ok_mul (F : Fun K "_law_mul" "_law_mul" s__law_mul f fd) (C__law_low : Cal P w K mg base 1 "_law_low" ["_law_top", "_law_bottom"] [] (spLow K)) : FnOk P w K mg base CX0 2 f fd ["_law_one", "_law_other"] (sp2 K (fun _ _ => True) (· * ·)) := by
  refine F.ok sc__law_mul (fun vs H Q E h => ?_) (fun cdv A outer s H vs Q E hr h => ?_)
  · obtain ⟨_, _, _, _, _, rfl, _⟩ := h
    rfl
  · obtain ⟨v, w, x, y, B, rfl, rx, ry, _, sx, sy, h0, hB, q⟩ := h
    refine ⟨_, (pss_one (ps_ret (pe_cal C__law_low hr (by decide) (by rfl) (pa_cons (pe_op op_mulW (pe_ix ix_tup (pv 0) pe_int (fun _ _ => rfl)) (pe_ix ix_tup (pv 1) pe_int (fun _ _ => rfl))) (pa_cons (pe_op op_mulW (pe_ix ix_tup (pv 0) pe_int (fun _ _ => rfl)) (pe_ix ix_tup (pv 1) pe_int (fun _ _ => rfl))) pa_nil))))), ?_⟩
    have m1 := rv_I (H := H) (g := fun i j => V.int (i * j)) (wide_mul sx.num sy.num h0 h0 (by omega))
    have m3 := rv_I (H := H) (g := fun i j => V.int (i * j)) (wide_mul sx.den sy.den h0 h0 (by omega))
    have a1 : EvF K (tVar 0) (start ["_law_one", "_law_other"] [v, w]) H x := ef_var rfl rx
    have a2 : EvF K (tVar 1) (start ["_law_one", "_law_other"] [v, w]) H y := ef_var rfl ry
    refine s_retF (EvF.to (ef_low (B := 2 * B + 1) (ev_op (ev_ix0 a1) (ev_ix0 a2) m1) (ev_op (ev_ix1 a1) (ev_ix1 a2) m3) (Int.mul_pos (denp x) (denp y))
      (bits_up (bits_mul sx.num sy.num) (by omega)) (bits_up (bits_mul sx.den sy.den) (by omega)) (by omega) (by omega)) (mul_rt x y).symm) fun u H1 e1 r => q u H1 e1 r
end
end NF

namespace WL
open PySem PySem.Spec PyProof.Rows L2 Evl NF
/-! ### a Machine -/
def mach (K : PySem.W.Frag) (C : Addr) (zs : List Str) (xss : List (List Rat)) : MP := ⟨fun H v => ∃ m, v = .ref m ∧ MaAt K C H m zs xss, fun e h => by
  obtain ⟨m, h1, h2⟩ := h
  exact ⟨m, h1, h2.mono e⟩⟩
section
variable {K : PySem.W.Frag} {W0 W W1 W2 W3 : Wd} {M : Addr → Prop} {σ σ2 : L2.St} {ρ ρ2 : List Sl} {i j k n : Nat} {P P1 P2 P3 : MP} {Ps Qs : List MP} {ta tb tc td te tl : TE} {Ψ : Sl → Prop} {v w u : V} {R : Post} {t : TS} {s : Sl} {tA tr : TA} {C : Addr} {zs : List Str} {xss : List (List Rat)} {pre : List Sl → (Sl → Prop) → Prop} {dvs : List V} {Ex0 : XK} {m : Str}
theorem d_lenM (h : D ρ ta (mach K C zs xss)) (h6 : zs.length ≤ 6) : D ρ (tCB (rLenO C (spLen K C)) (tCons ta tNil)) (int (zs.length : Int)) := fun W0 M W σ e Q k => h W0 M W σ e _ fun v W2 g p => by
  obtain ⟨a, rfl, hm⟩ := p
  have hm' := hm.mono g.sub
  obtain ⟨dx, am, as, us, h1, _⟩ := id hm'
  refine ⟨a, dx, _, rfl, h1, a, zs, xss, rfl, hm', fun H' e3 => ⟨_, rfl, by omega, by omega, ?_⟩⟩
  exact k _ ⟨Rplus W2.r H', H'⟩ (g.trans ⟨rplus_sub (g.sub.trans e3), rplus_le g.sub e3, fun p b => by
    obtain ⟨x, y, hb⟩ := ((e.go g).bag b).1
    exact ⟨x, y, e3 _ _ hb⟩⟩) rfl
theorem e_meth (h : D ρ ta (mach K C zs xss)) (hm : m ≠ "kept_marks" ∧ m ≠ "kept_shares") (q : EA ρ tA fun ss => oneBag (.val (mach K C zs xss) :: (ss ++ (dvs.map sc).map .val)) = true ∧ pre (.val (mach K C zs xss) :: (ss ++ (dvs.map sc).map .val)) Ψ) : E ρ (tMeth C m (spP pre) dvs Ex0 ta tA) Ψ := fun W0 M W σ e Q k => h W0 M W σ e _ fun v W1 g1 p => by
  obtain ⟨a, rfl, hma⟩ := p
  obtain ⟨dx, am, as, us, h1, _⟩ := hma.mono g1.sub
  refine ⟨a, dx, _, rfl, h1, ?_, q W0 M W1 σ (e.go g1) _ fun ss vs W2 g2 as' q2 => ?_⟩
  · have n1 : (m == ("kept_marks" : Str)) = false := by simpa using hm.1
    have n2 : (m == ("kept_shares" : Str)) = false := by simpa using hm.2
    simp only [List.lookup, n1, n2]
  · have as2 : AOks σ ρ W2 (.ref a :: (vs ++ dvs)) (.val (mach K C zs xss) :: (ss ++ (dvs.map sc).map .val)) := .cons (s := .val (mach K C zs xss)) ⟨a, rfl, hma.mono g2.le.r⟩ (as'.app al_sc)
    have e2 := (e.go g1).go g2
    refine ⟨W2, _, Ψ, rfl, g2.sub, as2.pok e2, q2.1, q2.2, fun s v W3 sub le bg r z => ?_⟩
    have g3 : Go σ ρ W2 W3 := ⟨sub, le.more fun p b => as2.bag b, fun p b => ?_⟩
    · exact k s v W3 ((g1.trans g2).trans g3) (r.back e (g1.trans g2)) z
    · by_cases c : BagOf (.ref a :: (vs ++ dvs)) (.val (mach K C zs xss) :: (ss ++ (dvs.map sc).map .val)) p
      · exact bg p c
      · obtain ⟨x, y, hb⟩ := (e2.bag b).1
        exact ⟨x, y, le.h _ _ c hb⟩
theorem d_fldM (h : D ρ ta (mach K C zs xss)) (cl : Cls K C) (na : NoAttr K C "kept_marks") : D ρ (tFld K ta "kept_marks") (txts K zs) := fun W0 M W σ e Q k => h W0 M W σ e _ fun v W1 g1 p => by
  obtain ⟨a, rfl, dx, am, as, us, h1, h2, h3, h4⟩ := p
  exact ⟨a, C, dx, _, _, rfl, g1.sub _ _ h1, cl, na, rfl, k _ W1 g1 ⟨am, _, rfl, SqL.of h2, al_of_str zs⟩⟩
theorem al_of_rows {H : Hp} : ∀ {xss : List (List Rat)} {vs : List V}, Rows K H vs xss → Al H vs (xss.map (rats K))
  | [], _, .nil => .nil
  | _ :: _, _, .cons h r t => .cons ⟨_, _, rfl, h, al_of_rat r⟩ (al_of_rows t)
theorem d_fldS (h : D ρ ta (mach K C zs xss)) (cl : Cls K C) (na : NoAttr K C "kept_shares") : D ρ (tFld K ta "kept_shares") (rows K xss) := fun W0 M W σ e Q k => h W0 M W σ e _ fun v W1 g1 p => by
  obtain ⟨a, rfl, dx, am, as, us, h1, h2, h3, h4⟩ := p
  exact ⟨a, C, dx, _, _, rfl, g1.sub _ _ h1, cl, na, rfl, k _ W1 g1 ⟨as, _, rfl, SqL.of h3, al_of_rows h4⟩⟩
end
/-! ### the old promises, in the new form -/
section
variable {P : Program} {w : World} {K : PySem.W.Frag} {mg : Str → Option Value} {base : Heap} {k : Nat} {f : Addr} {fd : FuncData} {ps : List Str} {C : Addr}
def preLow (K : PySem.W.Frag) (ss : List Sl) (Ψ : Sl → Prop) : Prop := ∃ (a b : Int) (B : Nat), ss = [.val (int a), .val (int b)] ∧ 0 < b ∧ a.natAbs < 2 ^ B ∧ b.natAbs < 2 ^ B ∧ 0 < B ∧ B ≤ 9000 ∧ Ψ (.val (rat K (Rat.divInt a b)))
theorem POks.two {W : Wd} {vs : List V} {a b : Sl} (h : POks W vs [a, b]) : ∃ v w, vs = [v, w] ∧ POk W v a ∧ POk W w b := by
  cases h with
  | cons h t =>
    cases t with
    | cons h' t =>
      cases t
      exact ⟨_, _, rfl, h, h'⟩
theorem POks.three {W : Wd} {vs : List V} {a b c : Sl} (h : POks W vs [a, b, c]) : ∃ v w u, vs = [v, w, u] ∧ POk W v a ∧ POk W w b ∧ POk W u c := by
  cases h with
  | cons h t =>
    obtain ⟨_, _, rfl, h1, h2⟩ := t.two
    exact ⟨_, _, _, rfl, h, h1, h2⟩
theorem POks.one {W : Wd} {vs : List V} {a : Sl} (h : POks W vs [a]) : ∃ v, vs = [v] ∧ POk W v a := by
  cases h with
  | cons h t =>
    cases t
    exact ⟨_, rfl, h⟩
theorem ad_low (F : FnOk P w K mg base CX0 k f fd ps (spLow K)) : FnOk P w K mg base CX0 k f fd ps (spP (preLow K)) := F.imp fun vs H Q E0 h => by
  obtain ⟨W, ss, Ψ, rfl, sub, pk, _, ⟨a, b, B, rfl, hb, ba, bb, B0, B9, z⟩, q⟩ := h
  obtain ⟨v, w, rfl, e1, e2⟩ := pk.two
  cases e1
  cases e2
  exact ⟨a, b, B, rfl, hb, ba, bb, B0, B9, fun u H' e r => old_r sub pk q e r z⟩
def pre2 (K : PySem.W.Frag) (C : Rat → Rat → Prop) (g : Rat → Rat → Rat) (ss : List Sl) (Ψ : Sl → Prop) : Prop := ∃ (x y : Rat) (B : Nat), ss = [.val (rat K x), .val (rat K y)] ∧ C x y ∧ Sz B x ∧ Sz B y ∧ 0 < B ∧ B ≤ 4000 ∧ Ψ (.val (rat K (g x y)))
theorem ad_2 {Cd : Rat → Rat → Prop} {g : Rat → Rat → Rat} (F : FnOk P w K mg base CX0 k f fd ps (sp2 K Cd g)) : FnOk P w K mg base CX0 k f fd ps (spP (pre2 K Cd g)) := F.imp fun vs H Q E0 h => by
  obtain ⟨W, ss, Ψ, rfl, sub, pk, _, ⟨x, y, B, rfl, hc, sx, sy, B0, B4, z⟩, q⟩ := h
  obtain ⟨v, w, rfl, e1, e2⟩ := pk.two
  exact ⟨v, w, x, y, B, rfl, Rt.mono e1 sub, Rt.mono e2 sub, hc, sx, sy, B0, B4, fun u H' e r => old_r sub pk q e r z⟩
def preTot (K : PySem.W.Frag) (ss : List Sl) (Ψ : Sl → Prop) : Prop := ∃ (xs : List Rat) (B : Nat), ss = [.val (rats K xs), .val (sc .non)] ∧ (∀ x ∈ xs, Sz B x) ∧ 0 < B ∧ (xs.length + 2) * (B + 1) ≤ 4000 ∧ Ψ (.val (rat K (sumF 0 xs)))
theorem ad_tot (F : FnOk P w K mg base CX0 k f fd ps (spTot K)) : FnOk P w K mg base CX0 k f fd ps (spP (preTot K)) := F.imp fun vs H Q E0 h => by
  obtain ⟨W, ss, Ψ, rfl, sub, pk, _, ⟨xs, B, rfl, hs, B0, hB, z⟩, q⟩ := h
  obtain ⟨v, w, rfl, ⟨p, us, rfl, h1, h2⟩, e2⟩ := pk.two
  cases e2
  exact ⟨p, us, xs, .non, 0, B, rfl, ex_l sub h1, (al_rat h2).mono sub, .inl ⟨rfl, rfl⟩, ⟨Nat.pow_pos (by decide), by show 1 < 2 ^ B; exact Nat.one_lt_two_pow (by omega)⟩, hs, hB, fun u H' e r => old_r sub pk q e r z⟩
def preOut (ss : List Sl) (Ψ : Sl → Prop) : Prop := ∃ n : Int, ss = [.bag, .val (int n)] ∧ 0 < n ∧ n < 2 ^ 60 ∧ ∀ d : Int, 0 ≤ d → d < n → Ψ (.val (int d))
theorem ad_out (F : FnOk P w K mg base CX0 k f fd ps spOut) : FnOk P w K mg base CX0 k f fd ps (spP preOut) := F.imp fun vs H Q E0 h => by
  obtain ⟨W, ss, Ψ, rfl, sub, pk, _, ⟨n, rfl, n0, n6, z⟩, q⟩ := h
  obtain ⟨v, w, rfl, ⟨st, rfl, hb, hr⟩, e2⟩ := pk.two
  cases e2
  refine ⟨st, n, rfl, hb, n0, n6, fun d H' d0 dn hb' x => ?_⟩
  have ib : BagOf [V.ref st, .int n] [.bag, .val (int n)] st := ⟨0, rfl, rfl⟩
  refine q (.val (int d)) (.int d) ⟨W.r, H'⟩ (fun p o hp => x _ _ (fun c => ?_) (sub _ _ hp)) ⟨Ex.refl _, fun p o np hp => x _ _ (fun c => np (c ▸ ib)) hp, fun p hp => ?_⟩ (fun p hp => ?_) rfl (z d d0 dn)
  · have hp' : W.r p = some o := hp
    rw [c, hr] at hp'
    cases hp'
  · obtain ⟨⟨xs, h1, hnt⟩, h2⟩ := hp
    by_cases c : p = st
    · obtain ⟨_, _, h⟩ := hb'
      exact ⟨⟨_, by rw [c]; exact h, rfl⟩, h2⟩
    · exact ⟨⟨xs, x _ _ c h1, hnt⟩, h2⟩
  · obtain ⟨i, h1, h2⟩ := hp
    match i, h1, h2 with
    | 0, _, h2 =>
      cases h2
      exact hb'
    | 1, h1, _ => cases h1
    | n + 2, h1, _ => cases h1
def preBag (K : PySem.W.Frag) (ss : List Sl) (Ψ : Sl → Prop) : Prop := ∃ (ns : List Int) (j : Nat), ss = [.val (nums K ns), .val (int (j : Int))] ∧ ns.length ≤ 1000 ∧ j ≤ 1000 ∧ ∀ a b : Int, Ψ (.own [int a, int b])
theorem ad_bag (F : FnOk P w K mg base CX0 k f fd ps (spBag K)) : FnOk P w K mg base CX0 k f fd ps (spP (preBag K)) := F.imp fun vs H Q E0 h => by
  obtain ⟨W, ss, Ψ, rfl, sub, pk, _, ⟨ns, j, rfl, nl, j1, z⟩, q⟩ := h
  obtain ⟨v, w, rfl, ⟨p, us, rfl, h1, h2⟩, e2⟩ := pk.two
  cases e2
  rw [al_int h2] at h1
  refine ⟨p, ns, j, rfl, ex_l sub h1, nl, j1, fun st H' ns e hb => ?_⟩
  obtain ⟨a, b, hb⟩ := hb
  have rp : W.r st = none := by
    cases c : W.r st with
    | none => rfl
    | some o => rw [sub _ _ c] at ns; cases ns
  refine q (.own [int a, int b]) (.ref st) ⟨W.r, H'⟩ (sub.trans e) ⟨Ex.refl _, fun p o _ hp => e _ _ hp, fun p hp => ⟨⟨_, e _ _ hp.1.choose_spec.1, hp.1.choose_spec.2⟩, hp.2⟩⟩ (fun p hp => ?_) ⟨st, _, rfl, hb, rp, ns, .cons rfl (Al.one rfl)⟩ (z a b)
  obtain ⟨i, h1, h2⟩ := hp
  match i, h1, h2 with
  | 0, h1, _ => cases h1
  | 1, h1, _ => cases h1
  | n + 2, h1, _ => cases h1
def preWhere (K : PySem.W.Frag) (C : Addr) (ss : List Sl) (Ψ : Sl → Prop) : Prop := ∃ (zs : List Str) (xss : List (List Rat)) (r k : Nat), ss = [.val (mach K C zs xss), .val (int (r : Int)), .val (int (k : Int))] ∧ Good zs xss ∧ r < zs.length ∧ k ≤ 12 ∧ (∀ j, j ≤ k → ∀ c ∈ walk xss r j, Sz 245 c) ∧ Ψ (.own ((walk xss r k).map (rat K)))
theorem ad_where (F : FnOk P w K mg base CX0 k f fd ps (spWhere K C)) : FnOk P w K mg base CX0 k f fd ps (spP (preWhere K C)) := F.imp fun vs H Q E0 h => by
  obtain ⟨W, ss, Ψ, rfl, sub, pk, _, ⟨zs, xss, r, k, rfl, hg, hr, hk, hz, z⟩, q⟩ := h
  obtain ⟨v, w, u, rfl, ⟨m, rfl, hm⟩, e2, e3⟩ := pk.three
  cases e2
  cases e3
  exact ⟨m, zs, xss, r, k, rfl, hm.mono sub, hg, hr, hk, hz, fun p us H' np e hp hr => old_l sub pk q np e hp hr z⟩
def preCM (K : PySem.W.Frag) (C : Addr) (ss : List Sl) (Ψ : Sl → Prop) : Prop := ∃ (zs : List Str) (xss : List (List Rat)), ss = [.val (mach K C zs xss)] ∧ Ψ (.val (sc .non))
theorem ad_cm (F : FnOk P w K mg base CX0 k f fd ps (spCMach K C)) : FnOk P w K mg base CX0 k f fd ps (spP (preCM K C)) := F.imp fun vs H Q E0 h => by
  obtain ⟨W, ss, Ψ, rfl, sub, pk, _, ⟨zs, xss, rfl, z⟩, q⟩ := h
  obtain ⟨v, rfl, m, rfl, hm⟩ := pk.one
  exact ⟨m, zs, xss, rfl, hm.mono sub, fun H' e => old_v sub pk q e z⟩
def preCR (K : PySem.W.Frag) (C : Addr) (ss : List Sl) (Ψ : Sl → Prop) : Prop := ∃ (zs : List Str) (xss : List (List Rat)) (r : Nat), ss = [.val (mach K C zs xss), .val (int (r : Int))] ∧ zs.length ≤ 6 ∧ r < zs.length ∧ Ψ (.val (sc .non))
theorem ad_cr (F : FnOk P w K mg base CX0 k f fd ps (spCRoom K C)) : FnOk P w K mg base CX0 k f fd ps (spP (preCR K C)) := F.imp fun vs H Q E0 h => by
  obtain ⟨W, ss, Ψ, rfl, sub, pk, _, ⟨zs, xss, r, rfl, h6, hr, z⟩, q⟩ := h
  obtain ⟨v, w, rfl, ⟨m, rfl, hm⟩, e2⟩ := pk.two
  cases e2
  exact ⟨m, zs, xss, r, rfl, hm.mono sub, h6, hr, fun H' e => old_v sub pk q e z⟩
def preMarks (K : PySem.W.Frag) (ss : List Sl) (Ψ : Sl → Prop) : Prop := ∃ zs : List Str, ss = [.val (txts K zs)] ∧ 1 ≤ zs.length ∧ zs.length ≤ 6 ∧ (∀ z ∈ zs, NF.Mk z) ∧ Ψ (.val (sc .non))
theorem ad_marks (F : FnOk P w K mg base CX0 k f fd ps (spMarks K)) : FnOk P w K mg base CX0 k f fd ps (spP (preMarks K)) := F.imp fun vs H Q E0 h => by
  obtain ⟨W, ss, Ψ, rfl, sub, pk, _, ⟨zs, rfl, h1, h6, hz, z⟩, q⟩ := h
  obtain ⟨v, rfl, p, us, rfl, k1, k2⟩ := pk.one
  rw [al_str k2] at k1
  exact ⟨p, zs, rfl, ex_l sub k1, h1, h6, hz, fun H' e => old_v sub pk q e z⟩
def preShares (K : PySem.W.Frag) (ss : List Sl) (Ψ : Sl → Prop) : Prop := ∃ (xss : List (List Rat)) (n : Nat), ss = [.val (int (n : Int)), .val (rows K xss)] ∧ xss.length = n ∧ n ≤ 6 ∧ (∀ xs ∈ xss, Shs xs n) ∧ Ψ (.val (sc .non))
theorem ad_shares (F : FnOk P w K mg base CX0 k f fd ps (spShares K)) : FnOk P w K mg base CX0 k f fd ps (spP (preShares K)) := F.imp fun vs H Q E0 h => by
  obtain ⟨W, ss, Ψ, rfl, sub, pk, _, ⟨xss, n, rfl, hl, h6, hs, z⟩, q⟩ := h
  obtain ⟨v, w, rfl, e1, p, us, rfl, k1, k2⟩ := pk.two
  cases e1
  exact ⟨p, us, xss, n, rfl, ex_l sub k1, (al_rows k2).mono sub, hl, h6, hs, fun H' e => old_v sub pk q e z⟩
def preWhole (K : PySem.W.Frag) (ss : List Sl) (Ψ : Sl → Prop) : Prop := ∃ a : Int, ss = [.val (int a)] ∧ Ψ (.val (tru true))
theorem ad_whole (F : FnOk P w K mg base CX0 k f fd ps (spWhole K)) : FnOk P w K mg base CX0 k f fd ps (spP (preWhole K)) := F.imp fun vs H Q E0 h => by
  obtain ⟨W, ss, Ψ, rfl, sub, pk, _, ⟨a, rfl, z⟩, q⟩ := h
  obtain ⟨v, rfl, e1⟩ := pk.one
  cases e1
  exact ⟨.int a, "int", true, false, rfl, ty_int a, kit_ii, kit_ib, fun H' e => old_v sub pk q e z⟩
end
end WL

namespace WL
open PySem PySem.Spec PyProof.Rows L2 Evl NF
section
variable {K : PySem.W.Frag} {W0 W W1 W2 W3 : Wd} {M : Addr → Prop} {σ σ2 : L2.St} {ρ ρ2 : List Sl} {i j k n : Nat} {P P1 P2 P3 : MP} {Ps Qs : List MP} {ta tb tc td te tl : TE} {Ψ : Sl → Prop} {v w u : V} {R : Post} {t : TS} {s : Sl} {tA tr : TA} {r : R2} {Ex0 : XK} {Φ : Nat → (Nat → Bd → Prop) → Prop}
theorem e_opS (h : E ρ ta fun s => ∃ P1, Set K s P1 ∧ E ρ tb fun t => ∃ P2 P3, Set K t P2 ∧ OpV r P1 P2 P3 ∧ Ψ (.val P3)) : E ρ (tOp r ta tb) Ψ := fun W0 M W σ e Q k => h W0 M W σ e _ fun s x W1 g1 px q => by
  obtain ⟨P1, hs, h2⟩ := q
  obtain ⟨W3, e3, _, g3, p3⟩ := settle e g1 px hs
  show tb σ W1.h _
  rw [← e3]
  refine h2 W0 M W3 σ (e.go g3) _ fun t y W2 g2 py q => ?_
  obtain ⟨P2, P3, ht, hr, hq⟩ := q
  obtain ⟨W4, e4, _, g4, p4⟩ := settle (e.go g3) g2 py ht
  show r x y W2.h _
  rw [← e4]
  exact hr W4.r W4.h x y g4.sub (P1.mono g4.le.r p3) p4 _ fun v pv => k (.val P3) v W4 (g3.trans g4) pv hq
theorem d_opS (ha : D ρ ta P1) (hb : E ρ tb fun s => Set K s P2) (hr : OpV r P1 P2 P3) : D ρ (tOp r ta tb) P3 := d_op ha (D.of hb) hr
theorem wk_rangeE (h : EA ρ tA fun ss => ∃ m : Int, ss = [.val (int m)] ∧ m < 2 ^ 60 ∧ -(2 ^ 60) < m ∧ Φ m.toNat fun i L => L = [(j, int (i : Int))]) : Wk ρ (iRng1 tA) (gName j) Φ := fun W0 M W σ e R k => h W0 M W σ e _ fun ss vs W2 g a q => by
  obtain ⟨m, rfl, hn, hm, q⟩ := q
  cases a with
  | cons pv tl =>
    cases tl
    cases pv
    refine ⟨m, rfl, by omega, by omega, k _ W2 _ _ g ⟨fun i W1 _ _ h => h, fun i W1 _ _ h => h, fun i W1 x H' _ sub hi y σ' Q z => ?_⟩ q⟩
    obtain ⟨rfl, rfl⟩ := y
    have := z [(j, int (i : Int))] W1 [.int (i : Int)] rfl (Grow.refl sub) (Al.one rfl)
    have z0 : (0 : Int) + (i : Int) = (i : Int) := Int.zero_add _
    show Q (σ'.set j (some (.int (0 + (i : Int))))) W1.h
    rw [z0]
    exact this
theorem e_out {m : Int} (h : ρ[i]? = some .bag) (hb : D ρ tb (int m)) (h0 : 0 < m) (h6 : m < 2 ^ 60) (q : ∀ d : Int, 0 ≤ d → d < m → Ψ (.val (int d))) : E ρ (tCall (spP preOut) [] Ex0 (tCons (tVar i) (tCons tb tNil))) Ψ :=
  e_call (ea_bag h (ea_d hb (ea_nil ⟨rfl, m, rfl, h0, h6, q⟩)))
def rJoin (K : PySem.W.Frag) : V → List V → Hp → VK → Prop := fun x xs H Q => ∃ a p, ∃ ys : List Str, x = .str a ∧ xs = [.ref p] ∧ (SqL K H p (ys.map V.str) ∨ SqT K H p (ys.map V.str)) ∧ (ys.map (·.length)).sum + ys.length * a.length ≤ 16777216 ∧ Q (.str (Txt.join a ys)) H
theorem e_join {a : Str} (h : E ρ tl fun s => ∃ zs : List Str, Set K s (txts K zs) ∧ (zs.map (·.length)).sum + zs.length * a.length ≤ 100000 ∧ Ψ (.val (str (Txt.join a zs)))) : E ρ (tBM K "str" (rJoin K) (tC (.str a)) (tCons tl tNil)) Ψ := fun W0 M W σ e Q k => by
  refine ⟨rfl, h W0 M W σ e _ fun s v W2 g r q => ?_⟩
  obtain ⟨zs, hs, hl, q⟩ := q
  obtain ⟨W3, e3, _, g3, p, us, rfl, hp, al⟩ := settle e g r hs
  rw [al_str al] at hp
  show rJoin K _ _ W2.h _
  rw [← e3]
  exact ⟨a, p, zs, rfl, rfl, .inl (ex_l g3.sub hp), Nat.le_trans hl (by decide), k (.val (str (Txt.join a zs))) _ W3 g3 rfl q⟩
theorem ov_ixS {z : Str} {m : Int} {c : Nat} (h : z.length ≤ 100000) (ha : atI z.cps.toList m = some c) : OpV rIxS (str z) (int m) (str ⟨#[c]⟩) := ov_v fun H C q => ⟨z, m, c, rfl, rfl, sz_of h, ha, q⟩
/-- x if b else y of the numbers 0 and 1 -/
theorem d_int01 {b : Bool} (h : D ρ te (tru b)) : D ρ (tCB (fun xs H Q => (∃ i, xs = [V.int i] ∧ Q (.int i) H) ∨ ∃ k, xs = [V.bl k] ∧ Q (.int (if k = true then 1 else 0)) H) (tCons te tNil)) (int (if b = true then 1 else 0)) :=
  d_cb (da_cons h da_nil) (cb_v fun H C q => .inr ⟨b, rfl, q⟩)
theorem e_int01 (h : E ρ te fun s => ∃ b, s = .val (tru b) ∧ Ψ (.val (int (if b = true then 1 else 0)))) : E ρ (tCB (fun xs H Q => (∃ i, xs = [V.int i] ∧ Q (.int i) H) ∨ ∃ k, xs = [V.bl k] ∧ Q (.int (if k = true then 1 else 0)) H) (tCons te tNil)) Ψ := fun W0 M W σ e Q kk => h W0 M W σ e _ fun s v W2 g r q => by
  obtain ⟨b, rfl, q⟩ := q
  cases r
  exact .inr ⟨b, rfl, kk (.val (int (if b = true then 1 else 0))) _ W2 g rfl q⟩
theorem d_low {a b : Int} {B : Nat} (ha : D ρ ta (int a)) (hb : D ρ tb (int b)) (h0 : 0 < b) (ba : a.natAbs < 2 ^ B) (bb : b.natAbs < 2 ^ B) (B0 : 0 < B) (B9 : B ≤ 9000) : D ρ (tCall (spP (preLow K)) [] Ex0 (tCons ta (tCons tb tNil))) (rat K (Rat.divInt a b)) :=
  d_call (da_cons ha (da_cons hb da_nil)) fun Ψ z => ⟨a, b, B, rfl, h0, ba, bb, B0, B9, z⟩
theorem d_2 {Cd : Rat → Rat → Prop} {g : Rat → Rat → Rat} {x y : Rat} {B : Nat} (ha : D ρ ta (rat K x)) (hb : D ρ tb (rat K y)) (hc : Cd x y) (sx : Sz B x) (sy : Sz B y) (B0 : 0 < B) (B4 : B ≤ 4000) : D ρ (tCall (spP (pre2 K Cd g)) [] Ex0 (tCons ta (tCons tb tNil))) (rat K (g x y)) :=
  d_call (da_cons ha (da_cons hb da_nil)) fun Ψ z => ⟨x, y, B, rfl, hc, sx, sy, B0, B4, z⟩
theorem d_tot {xs : List Rat} {B : Nat} (ha : D ρ ta (rats K xs)) (hs : ∀ x ∈ xs, Sz B x) (B0 : 0 < B) (hB : (xs.length + 2) * (B + 1) ≤ 4000) : D ρ (tCall (spP (preTot K)) [.non] Ex0 (tCons ta tNil)) (rat K (sumF 0 xs)) :=
  d_call (da_cons ha da_nil) fun Ψ z => ⟨xs, B, rfl, hs, B0, hB, z⟩
end
def preWord (ss : List Sl) (Ψ : Sl → Prop) : Prop := ss = [.bag] ∧ ∀ z, NF.Mk z → Ψ (.val (str z))
/-- what goes tells: shares, a bottom of all -/
def Gs (xs : List Rat) (n wide : Nat) : Prop := xs.length = n ∧ sumF 0 xs = 1 ∧ ∃ d : Nat, 0 < d ∧ d ≤ wide ∧ ∀ x ∈ xs, 0 ≤ x ∧ x ≤ 1 ∧ Ml d x
def preGoes (K : PySem.W.Frag) (ss : List Sl) (Ψ : Sl → Prop) : Prop := ∃ n wide : Nat, ss = [.bag, .val (int (n : Int)), .val (int (wide : Int))] ∧ 1 ≤ n ∧ n ≤ 6 ∧ 6 ≤ wide ∧ wide ≤ 1000000 ∧ ∀ xs, Gs xs n wide → Ψ (.own (xs.map (rat K)))
def preKit (K : PySem.W.Frag) (ss : List Sl) (Ψ : Sl → Prop) : Prop := ∃ wide : Nat, ss = [.bag, .val (int 6), .val (int (wide : Int))] ∧ 6 ≤ wide ∧ wide ≤ 999 ∧ ∀ zs xss, Good zs xss → Bot wide xss → Ψ (.val (tup K [txts K zs, rows K xss]))
theorem Gs.shs {xs : List Rat} {n wide : Nat} (h : Gs xs n wide) (hw : wide ≤ 999) : Shs xs n := by
  obtain ⟨h1, h2, d, d0, dw, h3⟩ := h
  refine ⟨h1, fun x hx => ?_, h2⟩
  obtain ⟨a, b, c⟩ := h3 x hx
  obtain ⟨t, rfl⟩ := c.eq d0
  have := den_le (t := t) d0
  obtain ⟨p, q⟩ := num01 a b
  exact ⟨p, q, by omega⟩
theorem div01 {p : Int} {b : Nat} (h0 : 0 ≤ p) (h1 : p ≤ b) (hb : 0 < b) : 0 ≤ Rat.divInt p b ∧ Rat.divInt p b ≤ 1 := by
  have h := div_eq p hb
  have hb' : (0 : Rat) < (b : Rat) := by exact_mod_cast hb
  have p0 : (0 : Rat) ≤ (p : Rat) := by exact_mod_cast h0
  have p1 : (p : Rat) ≤ (b : Rat) := by
    have : (p : Rat) ≤ ((b : Int) : Rat) := by exact_mod_cast h1
    exact this
  constructor
  · rw [← Rat.num_nonneg, Rat.num_divInt]
    apply Int.ediv_nonneg
    · rw [Int.sign_eq_one_of_pos (by omega)]
      omega
    · omega
  · apply Rat.not_lt.mp
    intro c
    have : (1 : Rat) * b < Rat.divInt p b * b := Rat.mul_lt_mul_of_pos_right c hb'
    grind
end WL

namespace WL
open PySem PySem.Spec PyProof.Rows L2 Evl NF
section
variable {K : PySem.W.Frag} {W0 W W1 W2 W3 : Wd} {M : Addr → Prop} {σ σ2 : L2.St} {ρ ρ2 : List Sl} {i j k n : Nat} {P P1 P2 P3 : MP} {Ps Qs : List MP} {ta tb tc td te tl : TE} {Ψ : Sl → Prop} {v w u : V} {R : Post} {t : TS} {s : Sl} {tA tr : TA} {C : Addr} {zs : List Str} {xss : List (List Rat)}
theorem settle_own (e : En W0 M W σ ρ) (g : Go σ ρ W W2) (h : ROk W W2 v (.own Ps)) : ∃ W3 p vs, v = .ref p ∧ W3.h = W2.h ∧ Ex W2.r W3.r ∧ Go σ ρ W W3 ∧ W.h p = none ∧ W3.r p = some (.lst vs) ∧ Al W3.r vs Ps := by
  obtain ⟨p, vs, rfl, h1, h2, h3, h4⟩ := h
  have ex : Ex W2.r (upd W2.r p (.lst vs)) := Ex.new h2
  refine ⟨⟨upd W2.r p (.lst vs), W2.h⟩, p, vs, rfl, rfl, ex, ⟨fun a o (ha : upd W2.r p (.lst vs) a = some o) => ?_, ⟨g.le.r.trans ex, g.le.h, fun q hq => ?_⟩, g.bg⟩, h3, upd_same, h4.mono ex⟩
  · by_cases c : a = p
    · subst c
      rw [upd_same] at ha
      cases ha
      exact h1
    · rw [upd_ne c] at ha
      exact g.sub _ _ ha
  · have c : q ≠ p := fun z => by
      obtain ⟨⟨xs, hx, _⟩, _⟩ := hq
      rw [z, h3] at hx
      cases hx
    exact ⟨(g.le.w q hq).1, by show upd W2.r p _ q = none; rw [upd_ne c]; exact (g.le.w q hq).2⟩
/-- Machine(marks, shares), of good ones -/
def spIn (K : PySem.W.Frag) (C : Addr) : Sp := fun vs H Q _ => ∃ (x dx : Addr) (W : Wd) (zs : List Str) (xss : List (List Rat)) (a b : V), vs = [.ref x, a, b] ∧ W.h = H ∧ Ex W.r W.h ∧ W.r x = none ∧ H x = some (.ins C dx []) ∧ (txts K zs).p W.r a ∧ (rows K xss).p W.r b ∧ Good zs xss ∧
  ∀ W2 : Wd, Ex W2.r W2.h → Ex W.r W2.r → (∀ p o, p ≠ x → W.h p = some o → W2.h p = some o) → (∀ p, p ≠ x → Ow W p → Ow W2 p) → (mach K C zs xss).p W2.r (.ref x) → Q .non W2.h
theorem e_make (h : EA ρ tA fun ss => ∃ zs xss, ss = [.val (txts K zs), .val (rows K xss)] ∧ Good zs xss ∧ Ψ (.val (mach K C zs xss))) : E ρ (tMake C (spIn K C) [] E0 tA) Ψ := fun W0 M W σ e Q k => h W0 M W σ e _ fun ss vs W1 g1 as q => by
  obtain ⟨zs, xss, rfl, hg, q⟩ := q
  have e1 := e.go g1
  cases as with
  | cons a1 as =>
    cases as with
    | cons a2 as =>
      cases as
      intro x dx nx nd ne
      have rx : W1.r x = none := by
        cases c : W1.r x with
        | none => rfl
        | some o => rw [g1.sub _ _ c] at nx; cases nx
      have up : ∀ p o, W1.h p = some o → upd (upd W1.h dx (.own x)) x (.ins C dx []) p = some o := fun p o hp => by
        rw [upd_ne (ne_of_none hp nx), upd_ne (ne_of_none hp nd)]
        exact hp
      refine ⟨x, dx, ⟨W1.r, upd (upd W1.h dx (.own x)) x (.ins C dx [])⟩, zs, xss, _, _, rfl, rfl, fun p o hp => up p o (g1.sub _ _ hp), rx, upd_same, a1, a2, hg, fun W2 sub er eh ew hm => ⟨rfl, ?_⟩⟩
      refine k (.val (mach K C zs xss)) _ W2 (g1.trans ⟨sub, ⟨er, fun p o _ hp => eh p o (ne_of_none hp nx) (up p o hp), fun p hp => ?_⟩, fun p b => ?_⟩) hm q
      · obtain ⟨⟨o, h1, hnt⟩, h2⟩ := hp
        exact ew p (ne_of_none h1 nx) ⟨⟨o, up p o h1, hnt⟩, h2⟩
      · obtain ⟨a, c, hb⟩ := (e1.bag b).1
        exact ⟨a, c, eh p _ (ne_of_none hb nx) (up p _ hb)⟩
end
/-! ### what the program's walking tells -/
def preM1 (K : PySem.W.Frag) (C : Addr) (g : List Str → List (List Rat) → Sl) (ss : List Sl) (Ψ : Sl → Prop) : Prop := ∃ zs xss, ss = [.val (mach K C zs xss)] ∧ Good zs xss ∧ Ψ (g zs xss)
/-- an order of n rooms -/
def Order (n : Nat) (os : List Nat) : Prop := os.Perm (List.range n)
abbrev nats (K : PySem.W.Frag) (os : List Nat) : MP := lst K (os.map fun o : Nat => int (o : Int))
def preOrd (K : PySem.W.Frag) (ss : List Sl) (Ψ : Sl → Prop) : Prop := ∃ (n : Nat) (os : List Nat), ss = [.val (int (n : Int)), .val (nats K os)] ∧ n ≤ 6 ∧ Order n os ∧ Ψ (.val (tru true))
def renZ (zs : List Str) (os : List Nat) : List Str := os.map fun o => zs.getD o Str.empty
def renX (xss : List (List Rat)) (os : List Nat) : List (List Rat) := os.map fun o => os.map fun to => (xss.getD o []).getD to 0
def preRen (K : PySem.W.Frag) (C : Addr) (ss : List Sl) (Ψ : Sl → Prop) : Prop := ∃ zs xss os, ss = [.val (mach K C zs xss), .val (nats K os)] ∧ Good zs xss ∧ Order zs.length os ∧ Ψ (.val (mach K C (renZ zs os) (renX xss os)))
/-- rooms come to -/
inductive Come (xss : List (List Rat)) (r : Nat) : Nat → Prop
  | here : Come xss r r
  | step {a b : Nat} : Come xss r a → 0 < (xss.getD a []).getD b 0 → Come xss r b
def preReach (K : PySem.W.Frag) (C : Addr) (ss : List Sl) (Ψ : Sl → Prop) : Prop := ∃ (zs : List Str) (xss : List (List Rat)) (r : Nat), ss = [.val (mach K C zs xss), .val (int (r : Int))] ∧ Good zs xss ∧ r < zs.length ∧
  ∀ os : List Nat, os.Pairwise (· < ·) → (∀ o, o ∈ os ↔ Come xss r o) → (∀ o ∈ os, o < zs.length) → Ψ (.own (os.map fun o : Nat => int (o : Int)))
end WL

namespace WL
open PySem PySem.Spec PyProof.Rows L2 Evl NF
section
variable {K : PySem.W.Frag} {W0 W W1 W2 W3 : Wd} {M : Addr → Prop} {σ σ2 : L2.St} {ρ ρ2 : List Sl} {i j k n : Nat} {P P1 P2 P3 : MP} {Ps Qs : List MP} {ta tb tc td te tl : TE} {Ψ : Sl → Prop} {v w u : V} {R : Post} {t : TS} {s : Sl} {tA tr : TA}
theorem rgV_ints (n : Nat) : rgV 0 (n : Int) = ((List.range n).map fun i : Nat => (i : Int)).map V.int := by
  unfold rgV
  rw [List.map_map]
  have : ((n : Int) - 0).toNat = n := by omega
  rw [this]
  apply List.map_congr_left
  intro a _
  show V.int (0 + (a : Int)) = V.int (a : Int)
  rw [Int.zero_add]
theorem e_listRg {n : Nat} (h : D ρ te (int (n : Int))) (hn : n ≤ 100000) (q : Ψ (.own ((List.range n).map fun i : Nat => int (i : Int)))) : E ρ (tLstRg (tRg1 te)) Ψ := fun W0 M W σ e Q k => h W0 M W σ e _ fun v W2 g p => by
  cases p
  refine ⟨(n : Int), rfl, ⟨by omega, by omega, by omega, by omega, by omega⟩, fun p hp => ?_⟩
  rw [rgV_ints]
  have em : ((List.range n).map fun i : Nat => (i : Int)).map int = (List.range n).map fun i : Nat => int (i : Int) := by rw [List.map_map]; rfl
  obtain ⟨W3, e1, _, g3, r3⟩ := e_new (Ps := (List.range n).map fun i : Nat => int (i : Int)) e g hp (by rw [← em]; exact al_of_int _)
  rw [← e1]
  exact k _ _ W3 g3 r3 q
theorem cb_isL : CbV (rIsi K) [lst K Ps, sc (.ty "list")] (tru true) := fun R H vs s a C k => by
  obtain ⟨x, y, rfl, ⟨p, us, rfl, h1, h2⟩, e⟩ := a.inv2
  cases e
  exact ⟨_, _, _, _, true, rfl, .ty "list", ty_lst (ex_l s h1), kit_ty (by decide +kernel), k _ rfl⟩
theorem cb_all {bs : List Bool} : CbV (rAll K) [lst K (bs.map tru)] (tru (bs.all id)) := fun R H vs s a C k => by
  obtain ⟨v, rfl, p, us, rfl, h1, h2⟩ := a.inv1
  rw [al_bl h2] at h1
  exact ⟨p, bs, rfl, ex_l s h1, k _ rfl⟩
theorem cb_any {bs : List Bool} : CbV (rAny K) [lst K (bs.map tru)] (tru (bs.any id)) := fun R H vs s a C k => by
  obtain ⟨v, rfl, p, us, rfl, h1, h2⟩ := a.inv1
  rw [al_bl h2] at h1
  exact ⟨p, bs, rfl, ex_l s h1, k _ rfl⟩
/-- all([.. of each thing]): a truth of each -/
theorem e_lcB {wi : TI} {g : TG} {vs : List Nat} {bs : List Bool} (h : Wk ρ wi g fun n B => n ≤ 50000 ∧ bs.length = n ∧ ∀ i L, i < n → B i L → fitC L ρ.length vs = true ∧ ∃ b, bs[i]? = some b ∧ D (setS (wipeS ρ vs) L) te (tru b)) : E ρ (tLc wi g tYes te vs) fun s => Set K s (lst K (bs.map tru)) := by
  refine e_lc (K := K) fun W0 M W σ e R k => h W0 M W σ e _ fun J W2 n B g T q => k J W2 n B g T ?_
  obtain ⟨hn, hl, hs⟩ := q
  refine ⟨hn, fun i acc => acc = (bs.take i).map tru, rfl, fun i L acc hi hB ha => ?_, fun acc ha => ?_⟩
  · subst ha
    obtain ⟨h1, b, h2, h3⟩ := hs i L hi hB
    refine ⟨h1, by simp; omega, t_yes (E.of h3 ⟨_, .val, ?_⟩)⟩
    show (bs.take i).map tru ++ [tru b] = (bs.take (i + 1)).map tru
    rw [List.take_add_one, h2]
    simp
  · subst ha
    rw [← hl, List.take_length]
    exact .own
/-! ### a list of each thing's -/
theorem e_lcM {α : Type} {f : α → MP} {xs : List α} {wi : TI} {g : TG} {vs : List Nat} (h : Wk ρ wi g fun n B => n ≤ 50000 ∧ xs.length = n ∧ (∀ i L, i < n → B i L → fitC L ρ.length vs = true ∧ ∃ x, xs[i]? = some x ∧ E (setS (wipeS ρ vs) L) te fun s => Set K s (f x)) ∧ Ψ (.own (xs.map f))) : E ρ (tLc wi g tYes te vs) Ψ := by
  refine e_lc (K := K) fun W0 M W σ e R k => h W0 M W σ e _ fun J W2 n B g T q => k J W2 n B g T ?_
  obtain ⟨hn, hl, hs, q⟩ := q
  refine ⟨hn, fun i acc => acc = (xs.take i).map f, rfl, fun i L acc hi hB ha => ?_, fun acc ha => ?_⟩
  · subst ha
    obtain ⟨h1, x, h2, h3⟩ := hs i L hi hB
    refine ⟨h1, by simp; omega, t_yes (h3.mono fun s hS => ⟨f x, hS, ?_⟩)⟩
    show (xs.take i).map f ++ [f x] = (xs.take (i + 1)).map f
    rw [List.take_add_one, h2]
    simp
  · subst ha
    rw [← hl, List.take_length]
    exact q
theorem E.set (h : D ρ te P) : E ρ te fun s => Set K s P := E.of h .val
/-! ### data of ints -/
theorem eqv_ints : ∀ (ns ms : List Int), PyData.eqvAll (ns.map .int) (ms.map .int) = decide (ns = ms)
  | [], [] => by simp [PyData.eqvAll]
  | [], _ :: _ => by simp [PyData.eqvAll]
  | _ :: _, [] => by simp [PyData.eqvAll]
  | n :: ns, m :: ms => by
    have := eqv_ints ns ms
    simp only [List.map_cons, PyData.eqvAll, this, PyData.eqv]
    by_cases c : n = m
    · subst c
      simp
    · simp [c]
theorem eqv_intL (ns ms : List Int) : PyData.eqv (.list (ns.map .int)) (.list (ms.map .int)) = decide (ns = ms) := by
  rw [← eqv_ints]
  simp [PyData.eqv]
theorem lay_map {α : Type} {f : α → PyData} (h : ∀ x, (f x).canLay0 = true) : ∀ (xs : List α), PyData.canLayAll0 (xs.map f) = true
  | [] => rfl
  | x :: xs => by simp [PyData.canLayAll0, h x, lay_map h xs]
theorem dep_map {α : Type} {f : α → PyData} {k : Nat} (h : ∀ x, (f x).depth ≤ k) : ∀ (xs : List α), (PyData.list (xs.map f)).depth ≤ k + 1
  | [] => by show 1 ≤ k + 1; omega
  | x :: xs => by
    have := dep_map h xs
    have hx := h x
    simp only [PyData.depth, List.map_cons, PyData.depthAll] at *
    omega
theorem shaped_map {α : Type} {f : α → PyData} {k : Nat} (h1 : ∀ x, (f x).canLay0 = true) (h2 : ∀ x, (f x).depth ≤ k) (hk : k ≤ 60) (xs : List α) : SeqAt.shaped (.list (xs.map f)) = true := by
  have := dep_map h2 xs
  have h3 := lay_map h1 xs
  unfold SeqAt.shaped
  simp [PyData.canLay0, h3]
  omega
theorem shaped_ints (ns : List Int) : SeqAt.shaped (.list (ns.map .int)) = true := shaped_map (f := PyData.int) (k := 0) (fun _ => rfl) (fun x => by show 0 ≤ 0; exact Nat.le_refl 0) (by decide) ns
theorem ov_eqI {ns ms : List Int} : OpV (rEqD K) (nums K ns) (nums K ms) (tru (decide (ns = ms))) := by
  rw [← eqv_intL]
  exact ov_eq (isd_lst (d := PyData.int) isd_int ns) (isd_lst (d := PyData.int) isd_int ms) (shaped_ints _) (shaped_ints _)
theorem ov_neI {ns ms : List Int} : OpV (rNeD K) (nums K ns) (nums K ms) (tru (!decide (ns = ms))) := by
  rw [← eqv_intL]
  exact ov_ne (isd_lst (d := PyData.int) isd_int ns) (isd_lst (d := PyData.int) isd_int ms) (shaped_ints _) (shaped_ints _)
theorem nats_nums (os : List Nat) : nats K os = nums K (os.map fun o : Nat => (o : Int)) := by
  unfold nats nums
  rw [List.map_map]
  rfl
theorem ov_eqN {ns ms : List Nat} : OpV (rEqD K) (nats K ns) (nats K ms) (tru (decide (ns = ms))) := by
  rw [nats_nums, nats_nums]
  have e : decide (ns = ms) = decide ((ns.map fun o : Nat => (o : Int)) = ms.map fun o : Nat => (o : Int)) := by
    congr 1
    apply propext
    constructor
    · rintro rfl; rfl
    · intro h
      exact (List.map_inj_right (fun a b h => by omega)).mp h
  rw [e]
  exact ov_eqI
theorem ov_neN {ns ms : List Nat} : OpV (rNeD K) (nats K ns) (nats K ms) (tru (!decide (ns = ms))) := by
  rw [nats_nums, nats_nums]
  have e : decide (ns = ms) = decide ((ns.map fun o : Nat => (o : Int)) = ms.map fun o : Nat => (o : Int)) := by
    congr 1
    apply propext
    constructor
    · rintro rfl; rfl
    · intro h
      exact (List.map_inj_right (fun a b h => by omega)).mp h
  rw [e]
  exact ov_neI
/-- sorted(..) of numbers from 0 on -/
theorem cl_sortN {os ps : List Nat} (hl : os.length < 64) (hp : ps.Perm os) (hs : ps.Pairwise (· ≤ ·)) : CbL (rSorted K) [nats K os] (ps.map fun o : Nat => int (o : Int)) := by
  have := cl_sorted (K := K) (ns := os.map fun o : Nat => (o : Int)) (ms := ps.map fun o : Nat => (o : Int)) (by simpa using hl) (hp.map _) (by
    rw [List.pairwise_map]
    exact hs.imp fun h => by omega)
  rw [List.map_map] at this
  rw [nats_nums]
  exact this
theorem own_sortN {os ps : List Nat} (h : ρ[i]? = some (.own (os.map fun o : Nat => int (o : Int)))) (hl : os.length < 64) (hp : ps.Perm os) (hs : ps.Pairwise (· ≤ ·)) (q : Ψ (.own (ps.map fun o : Nat => int (o : Int)))) : E ρ (tCB (rSorted K) (tCons (tVar i) tNil)) Ψ := by
  refine own_sorted (ns := os.map fun o : Nat => (o : Int)) (ms := ps.map fun o : Nat => (o : Int)) (by rw [h, List.map_map]; rfl) (by simpa using hl) (hp.map _) (by
    rw [List.pairwise_map]
    exact hs.imp fun h => by omega) ?_
  rw [List.map_map]
  exact q
theorem own_inN {a : Nat} {os : List Nat} {neg : Bool} (ha : D ρ ta (int (a : Int))) (h : ρ[i]? = some (.own (os.map fun o : Nat => int (o : Int)))) : D ρ (tOp (rIn K neg) ta (tVar i)) (tru (if neg then !decide (a ∈ os) else decide (a ∈ os))) := by
  have := own_in (K := K) (neg := neg) (ns := os.map fun o : Nat => (o : Int)) ha (by rw [h, List.map_map]; rfl)
  have e : decide ((a : Int) ∈ os.map fun o : Nat => (o : Int)) = decide (a ∈ os) := by
    congr 1
    apply propext
    rw [List.mem_map]
    exact ⟨fun ⟨b, hb, e⟩ => by have : b = a := by omega
                                exact this ▸ hb, fun h => ⟨a, h, rfl⟩⟩
  rw [e] at this
  exact this
theorem ov_inN {a : Nat} {os : List Nat} {neg : Bool} : OpV (rIn K neg) (int (a : Int)) (nats K os) (tru (if neg then !decide (a ∈ os) else decide (a ∈ os))) := by
  have := ov_in (K := K) (neg := neg) (a := (a : Int)) (ns := os.map fun o : Nat => (o : Int))
  have e : decide ((a : Int) ∈ os.map fun o : Nat => (o : Int)) = decide (a ∈ os) := by
    congr 1
    apply propext
    rw [List.mem_map]
    exact ⟨fun ⟨b, hb, e⟩ => by have : b = a := by omega
                                exact this ▸ hb, fun h => ⟨a, h, rfl⟩⟩
  rw [e] at this
  rw [nats_nums]
  exact this
theorem g_aug {f : Int → Int → Int} {a b : Int} (h : ρ[i]? = some (.val (int a))) (hb : D ρ te (int b)) (q : R.nx (ρ.set i (.val (int (f a b))))) (hi : Nat.blt i ρ.length = true := by rfl) : G (tAug i te (ipI f)) ρ R := fun W0 M W σ D e m => by
  obtain ⟨u, h1, v, rfl, p⟩ := e.ok i _ h
  cases p
  refine ⟨_, h1, hb W0 M W σ e _ fun y W2 g p => ?_⟩
  cases p
  exact ⟨a, b, rfl, rfl, m.nx W2 _ _ (e.set (s := .val (int (f a b))) g rfl (Nat.le_of_ble_eq_true hi)) q⟩
end
theorem range_sorted (n : Nat) : (List.range n).Pairwise (· ≤ ·) := List.pairwise_lt_range.imp Nat.le_of_lt
theorem Order.lt {n : Nat} {os : List Nat} (h : Order n os) {o : Nat} (ho : o ∈ os) : o < n := List.mem_range.mp (h.mem_iff.mp ho)
theorem Order.len {n : Nat} {os : List Nat} (h : Order n os) : os.length = n := by rw [h.length_eq, List.length_range]
theorem Order.nodup {n : Nat} {os : List Nat} (h : Order n os) : os.Nodup := h.nodup_iff.mpr List.nodup_range
theorem Order.all {n : Nat} {os : List Nat} (h : Order n os) {o : Nat} (ho : o < n) : o ∈ os := h.mem_iff.mpr (List.mem_range.mpr ho)
/-! ### renamed ones are good -/
theorem sum_perm {xs ys : List Rat} (h : xs.Perm ys) : sumF 0 xs = sumF 0 ys := by
  induction h with
  | nil => rfl
  | cons x _ ih => rw [sumF_cons, sumF_cons, ih]
  | swap x y l => rw [sumF_cons, sumF_cons, sumF_cons, sumF_cons]; grind
  | trans _ _ a b => rw [a, b]
theorem map_range_getD {α : Type} (xs : List α) (d : α) : (List.range xs.length).map (fun i => xs.getD i d) = xs := by
  apply List.ext_getElem?
  intro i
  by_cases h : i < xs.length
  · simp [h]
  · simp [h]
theorem row_perm {xs : List Rat} {os : List Nat} (h : Order xs.length os) : (os.map fun to => xs.getD to 0).Perm xs := by
  have := h.map (fun to => xs.getD to 0)
  rw [map_range_getD] at this
  exact this
theorem shs_ren {xs : List Rat} {n : Nat} {os : List Nat} (h : Shs xs n) (ho : Order n os) : Shs (os.map fun to => xs.getD to 0) n := by
  obtain ⟨h1, h2, h3⟩ := h
  have p := row_perm (xs := xs) (os := os) (by rw [h1]; exact ho)
  exact ⟨by rw [p.length_eq, h1], fun x hx => h2 x (p.mem_iff.mp hx), by rw [sum_perm p, h3]⟩
theorem getD_mem {α : Type} {xs : List α} {d : α} {i : Nat} (h : i < xs.length) : xs.getD i d ∈ xs := by
  rw [List.getD_eq_getElem?_getD, List.getElem?_eq_getElem h]
  exact List.getElem_mem h
theorem good_ren {zs : List Str} {xss : List (List Rat)} {os : List Nat} (h : Good zs xss) (ho : Order zs.length os) : Good (renZ zs os) (renX xss os) := by
  obtain ⟨g1, g2, g3, g4, g5⟩ := h
  have l : (renZ zs os).length = zs.length := by rw [renZ, List.length_map, ho.len]
  refine ⟨by rw [l]; exact g1, by rw [l]; exact g2, fun z hz => ?_, by rw [l, renX, List.length_map, ho.len], fun xs hx => ?_⟩
  · obtain ⟨o, h1, rfl⟩ := List.mem_map.mp hz
    exact g3 _ (getD_mem (ho.lt h1))
  · obtain ⟨o, h1, rfl⟩ := List.mem_map.mp hx
    rw [l]
    exact shs_ren (g5 _ (getD_mem (by rw [g4]; exact ho.lt h1))) ho
end WL
namespace WL
open PySem PySem.Spec PyProof.Rows L2 Evl NF
section
variable {K : PySem.W.Frag} {ρ : List Sl} {te : TE} {R : Post} {tu tw : TS} {tt t1 t2 : TT} {b : Bool}
/-- not a test that holds -/
theorem t_nT (h : D ρ te (tru true)) : T ρ (tNot (tB te)) fun c => c = false := t_not1 (b1 := true) (T.isB h)
theorem t_or0 (h1 : T ρ t1 fun c => c = false) (h2 : T ρ t2 fun c => c = false) : T ρ (tOr t1 t2) fun c => c = false := t_or2 (b1 := false) (b2 := false) h1 fun _ => h2
theorem t_F (h : D ρ te (tru false)) : T ρ (tTest te) fun c => c = false := T.is h
theorem t_T (h : D ρ te (tru true)) : T ρ (tTest te) fun c => c = true := T.is h
theorem g_skip {q : Prop} (h : T ρ tt fun c => c = false) (k : R.nx ρ) : G (tIfS tt tu tNext) ρ R := g_no h (g_next k)
theorem D.tru {b2 : Bool} (h : D ρ te (tru b)) (e : b = b2) : D ρ te (WL.tru b2) := e ▸ h
end
end WL

namespace WL
open PySem PySem.Spec PyProof.Rows L2 Evl NF
section
variable {X : Cx} {K : PySem.W.Frag}
theorem call_lenK (h : X.K = K) : CallR X (.builtin "len") (rLenS K) := h ▸ call_len_seq
theorem cr_sortedK (h : X.K = K) : CallR X (.builtin "sorted") (rSorted K) := h ▸ cr_sorted
theorem op_inK (h : X.K = K) : OpR X (compareOp .In) (rIn K false) := h ▸ op_in_seq
theorem op_notInK (h : X.K = K) : OpR X (compareOp .NotIn) (rIn K true) := h ▸ op_notIn_seq
theorem op_eqDK (h : X.K = K) (hu : X.A.units + 64 < cLine) : OpR X (compareOp .Eq) (rEqD K) := h ▸ op_eqD hu
theorem op_neDK (h : X.K = K) (hu : X.A.units + 64 < cLine) : OpR X (compareOp .NotEq) (rNeD K) := h ▸ op_neD hu
theorem sl_listK (h : X.K = K) : SlR X (rSlL K) := h ▸ sl_list
theorem pe_bmK {T : String} {id : String} {name : Str} {r : V → List V → Hp → VK → Prop} {o e : Expr} {es : List Expr} {to : TE} {t : TA} {apos cpos : Pos} (h : X.K = K) (pa : PlainAttrs T) (slot : Slot T name id) (hty : typeOf (.builtin id) = pure (.type "method_descriptor")) (hm : MtR X id r) (ho : PE X o to) (ha : PA X (e :: es) t)
    (hbase : attributeBase o name X.env (eval o X.env) = eval o X.env := by rfl)
    (hfew : ((backTo cpos (starEach (e :: es) X.env)).all (fun x => !x.1) && (backToKw cpos (keywordEach [] X.env)).all (fun x => x.1.isSome)
      && decide ((e :: es).length + ([] : List Keyword).length + (if ([] : List Keyword).isEmpty then 0 else 1) < 30)) = true := by rfl)
    (hline : (apos.endLine == cpos.line) = true := by rfl) (hs : starEach (e :: es) X.env = (false, eval e X.env) :: starEach es X.env := by rfl) (hplain : (backTo cpos (starEach es X.env)).any (·.1) = false := by rfl) :
    PE X (.Call (.Attribute o name apos) (e :: es) [] cpos) (tBM K T r to t) := h ▸ pe_bm pa slot hty hm ho ha hbase hfew hline hs hplain
end
def preSum (K : PySem.W.Frag) (ss : List Sl) (Ψ : Sl → Prop) : Prop := ∃ (xs : List Rat) (B : Nat), ss = [.val (rats K xs)] ∧ (∀ x ∈ xs, Sz B x) ∧ 0 < B ∧ (xs.length + 2) * (B + 1) ≤ 4000 ∧ Ψ (.val (rat K (sumF 0 xs)))
def preShuf (ss : List Sl) (Ψ : Sl → Prop) : Prop := ∃ n : Nat, ss = [.bag, .val (int (n : Int))] ∧ 1 ≤ n ∧ n ≤ 6 ∧ ∀ os, Order n os → Ψ (.own (os.map fun o : Nat => int (o : Int)))
section
variable {K : PySem.W.Frag} {ρ : List Sl} {ta tb te : TE} {tA : TA} {Ex0 : XK} {n d : Int} {x : Rat}
theorem d_pair (ha : D ρ ta (int n)) (hb : D ρ tb (int d)) (en : n = x.num) (ed : d = x.den) : D ρ (tTup (tCons ta (tCons tb tNil))) (rat K x) := D.imp (d_tup (K := K) (da_cons ha (da_cons hb da_nil))) fun H v h => tup_rat en ed H v h
theorem d_sum {xs : List Rat} {B : Nat} (ha : D ρ ta (rats K xs)) (hs : ∀ x ∈ xs, Sz B x) (B0 : 0 < B) (hB : (xs.length + 2) * (B + 1) ≤ 4000) : D ρ (tCall (spP (preSum K)) [] Ex0 (tCons ta tNil)) (rat K (sumF 0 xs)) :=
  d_call (da_cons ha da_nil) fun Ψ z => ⟨xs, B, rfl, hs, B0, hB, z⟩
end
section
variable {K : PySem.W.Frag} {W0 W W2 : Wd} {M : Addr → Prop} {σ σ2 : L2.St} {ρ ρ2 : List Sl} {p : Addr} {vs us : List V} {n : Nat} {Q : VK}
/-- a list that no slot knows -/
theorem En.aside (e : En W0 M W σ ρ) (h0 : W0.h p = none) (hr : W.r p = none) (hp : W.h p = some (.lst us)) (hn : ∀ (i : Nat) s, ρ[i]? = some s → s.ow = true → σ[i]? ≠ some (some (.ref p))) : En W0 M ⟨W.r, upd W.h p (.lst vs)⟩ σ ρ := by
  refine ⟨fun a o ha => ?_, ⟨e.le.r, fun q o m hq => ?_, fun q hq => ?_⟩, e.old, fun q m => ?_, e.len, fun i s hi => ?_, e.ne⟩
  · have c : a ≠ p := fun z => by
      have ha' : W.r a = some o := ha
      rw [z, hr] at ha'
      cases ha'
    show upd W.h p _ a = _
    rw [upd_ne c]
    exact e.sub _ _ ha
  · have c : q ≠ p := fun z => by rw [z, h0] at hq; cases hq
    show upd W.h p _ q = _
    rw [upd_ne c]
    exact e.le.h _ _ m hq
  · obtain ⟨⟨o, h1, hnt⟩, h2⟩ := e.le.w q hq
    by_cases c : q = p
    · exact ⟨⟨_, by show upd W.h p _ q = _; rw [c, upd_same], rfl⟩, h2⟩
    · exact ⟨⟨o, by show upd W.h p _ q = _; rw [upd_ne c]; exact h1, hnt⟩, h2⟩
  · obtain ⟨x, y, hb⟩ := e.bags q m
    have c : q ≠ p := fun z => by
      obtain ⟨_, _, ho⟩ := e.old q m
      rw [z, h0] at ho
      cases ho
    exact ⟨x, y, by show upd W.h p _ q = _; rw [upd_ne c]; exact hb⟩
  · obtain ⟨u, hu, q⟩ := e.ok i s hi
    refine ⟨u, hu, ?_⟩
    cases s with
    | un => trivial
    | val P => exact q
    | own Ps =>
      obtain ⟨p', vs', rfl, q3, q4, q5, q6⟩ := q
      have c : p' ≠ p := fun z => hn i _ hi rfl (by rw [hu, z])
      exact ⟨p', vs', rfl, by show upd W.h p _ p' = _; rw [upd_ne c]; exact q3, q4, q5, q6⟩
    | bag =>
      obtain ⟨p', rfl, ⟨x, y, q3⟩, q4, q5⟩ := q
      have c : p' ≠ p := fun z => hn i _ hi rfl (by rw [hu, z])
      exact ⟨p', rfl, ⟨x, y, by show upd W.h p _ p' = _; rw [upd_ne c]; exact q3⟩, q4, q5⟩
theorem En.same (e : En W0 M W σ ρ) (l1 : σ2.length = σ.length) (l2 : ρ2.length = ρ.length) (h : ∀ (i : Nat) s, ρ2[i]? = some s → s = .un ∨ (ρ[i]? = some s ∧ σ2[i]? = σ[i]?)) : En W0 M W σ2 ρ2 := by
  refine ⟨e.sub, e.le, e.old, e.bags, by rw [l1, l2]; exact e.len, fun i s hs => ?_, fun i j s t n h1 h2 o1 o2 => ?_⟩
  · rcases h i s hs with rfl | ⟨h1, h2⟩
    · have hi : i < ρ2.length := (List.getElem?_eq_some_iff.mp hs).1
      exact ⟨_, List.getElem?_eq_getElem (by rw [l1, e.len, ← l2]; exact hi), trivial⟩
    · obtain ⟨u, hu, q⟩ := e.ok i s h1
      exact ⟨u, by rw [h2]; exact hu, q⟩
  · have a := (h i s h1).resolve_left fun z => by subst z; cases o1
    have b := (h j t h2).resolve_left fun z => by subst z; cases o2
    rw [a.2, b.2]
    exact e.ne i j s t n a.1 b.1 o1 o2
theorem perm_pop {α : Type} {l : List α} {k : Nat} {y : α} (h : l[k]? = some y) : (y :: l.eraseIdx k).Perm l := by
  induction l generalizing k with
  | nil => simp at h
  | cons a l ih =>
    cases k with
    | zero =>
      have e : a = y := by simpa using h
      subst e
      exact List.Perm.refl _
    | succ k =>
      have := ih (k := k) (by simpa using h)
      rw [List.eraseIdx_cons_succ]
      exact (List.Perm.swap a y _).trans (this.cons a)
theorem er_map {α β : Type} {f : α → β} : ∀ (l : List α) (d : Nat), (l.map f).eraseIdx d = (l.eraseIdx d).map f
  | [], _ => rfl
  | _ :: _, 0 => rfl
  | a :: l, d + 1 => by
    show f a :: (l.map f).eraseIdx d = f a :: (l.eraseIdx d).map f
    rw [er_map l d]
/-- [left.pop(out(bag, len(left))) for room in range(n)] -/
theorem e_pops (e : En W0 M W σ [.bag, .val (int (n : Int)), .own ((List.range n).map fun o : Nat => int (o : Int)), .un]) (hn : n ≤ 1000)
    (k : ∀ os v W2, Order n os → Ex W2.r W2.h → Le M W0 W2 → (∀ p, M p → Bg W2.h p) → ROk W0 W2 v (.own (os.map fun o : Nat => int (o : Int))) → Q v W2.h) :
    tLc (iRng1 (tCons (tVar 1) tNil)) (gName 3) tYes (tBM K "list" rPopAt (tVar 2) (tCons (tCall (spP preOut) [] E0 (tCons (tVar 0) (tCons (tCB (rLenS K) (tCons (tVar 2) tNil)) tNil))) tNil)) [3] σ W.h Q := by
  obtain ⟨u1, s1, v1, rfl, e1⟩ := e.ok 1 _ rfl
  cases e1
  refine ⟨_, s1, (n : Int), rfl, by omega, by omega, fun Dl hD => ?_⟩
  have len4 : σ.length = 4 := e.len
  obtain ⟨u2, s2, p, vs0, rfl, hp0, hr0, hw0, al0⟩ := e.ok 2 _ rfl
  obtain ⟨u0, s0, st, rfl, ⟨_, _, hst⟩, _⟩ := e.ok 0 _ rfl
  have nDp : Dl ≠ p := fun z => by rw [z, hp0] at hD; cases hD
  have nDs : Dl ≠ st := fun z => by rw [z, hst] at hD; cases hD
  have d0 : W0.h Dl = none := by
    cases c : W0.h Dl with
    | none => rfl
    | some o =>
      by_cases mm : M Dl
      · obtain ⟨_, _, z⟩ := e.bags Dl mm
        rw [hD] at z
        cases z
      · have := e.le.h Dl o mm c
        rw [hD] at this
        cases this
  refine lc_range (lo := 0) (n := (n : Int).toNat) (fun i H' => ∃ (W' : Wd) (lo acc : List Nat), W'.h = H' ∧ En W0 M W' σ [.bag, .val (int (n : Int)), .own (lo.map fun o : Nat => int (o : Int)), .un] ∧ H' Dl = some (.lst (acc.map fun o : Nat => V.int (o : Int))) ∧ W'.r Dl = none ∧ acc.length = i ∧ (acc ++ lo).Perm (List.range n)) ?_ ?_ ?_
  · obtain ⟨W3, e3, r3, g3, _⟩ := e_new (Ps := []) (vs := []) e e.id hD .nil
    refine ⟨W3, List.range n, [], e3, e.go g3, upd_same, ?_, rfl, List.Perm.refl _⟩
    rw [r3]
    cases c : W.r Dl with
    | none => rfl
    | some o => rw [e.sub _ _ c] at hD; cases hD
  · rintro i H' hi ⟨W', lo, acc, rfl, e', hDl, rD, la, pm⟩
    rw [Int.toNat_natCast] at hi
    have ll : lo.length = n - i := by
      have := pm.length_eq
      rw [List.length_append, List.length_range] at this
      omega
    refine ⟨by
      show L2.wipe ((L2.wipe σ [3]).set 3 (some (.int (0 + (i : Int))))) [3] = L2.wipe σ [3]
      show ((σ.set 3 none).set 3 (some (.int (0 + (i : Int))))).set 3 none = σ.set 3 none
      rw [List.set_set, List.set_set], ?_⟩
    show tBM K "list" rPopAt (tVar 2) _ ((σ.set 3 none).set 3 (some (.int (0 + (i : Int))))) W'.h _
    rw [List.set_set]
    have e4 : En W0 M W' (σ.set 3 (some (.int (0 + (i : Int))))) [.bag, .val (int (n : Int)), .own (lo.map fun o : Nat => int (o : Int)), .un] := e'.same (by rw [List.length_set]) rfl fun j s hs => by
      by_cases c : 3 = j
      · subst c
        cases hs
        exact .inl rfl
      · exact .inr ⟨hs, List.getElem?_set_ne c⟩
    obtain ⟨u, t2, p', vs, rfl, hp, hr, hw, al⟩ := e4.ok 2 _ rfl
    have s2' : (σ.set 3 (some (.int (0 + (i : Int)))))[2]? = some (some (.ref p)) := by rw [List.getElem?_set_ne (by decide)]; exact s2
    have s0' : (σ.set 3 (some (.int (0 + (i : Int)))))[0]? = some (some (.ref st)) := by rw [List.getElem?_set_ne (by decide)]; exact s0
    rw [s2'] at t2
    cases t2
    refine ⟨_, s2', .inl ⟨rfl, _, SqL.of hp⟩, ?_⟩
    refine (e_out (i := 0) (m := (lo.length : Int)) (Ψ := fun s => ∃ d : Nat, s = .val (int (d : Int)) ∧ d < lo.length) rfl (D.is (own_len (K := K) rfl) (by rw [List.length_map])) (by omega) (by omega) fun d d0 dl => ⟨d.toNat, by rw [Int.toNat_of_nonneg d0], by omega⟩) W0 M W' _ e4 _ fun s v W5 g5 r5 q5 => ?_
    obtain ⟨d, rfl, dl⟩ := q5
    cases r5
    have e5 := e4.go g5
    obtain ⟨u, t2, p', vs5, e6, hp5, hr5, hw5, al5⟩ := e5.ok 2 _ rfl
    rw [s2'] at t2
    cases t2
    cases e6
    have nb : ¬ Bags (σ.set 3 (some (.int (0 + (i : Int))))) [.bag, .val (int (n : Int)), .own (lo.map fun o : Nat => int (o : Int)), .un] Dl := fun ⟨j, h1, h2⟩ => by
      match j, h1 with
      | 0, _ =>
        rw [s0'] at h2
        cases h2
        exact nDs rfl
      | 1, h1 => cases h1
      | 2, h1 => cases h1
      | 3, h1 => cases h1
      | n + 4, h1 => cases h1
    have hD5 : W5.h Dl = some (.lst (acc.map fun o : Nat => V.int (o : Int))) := g5.le.h _ _ nb hDl
    have rD5 : W5.r Dl = none := (g5.le.w Dl ⟨⟨_, hDl, rfl⟩, rD⟩).2
    have ev : vs5 = lo.map fun o : Nat => V.int (o : Int) := by
      have := al_int (ns := lo.map fun o : Nat => (o : Int)) (vs := vs5) (by rw [List.map_map]; exact al5)
      rw [this, List.map_map]
      rfl
    have hy : lo[d]? = some lo[d] := List.getElem?_eq_getElem dl
    have hz : vs5[d]? = some (V.int (lo[d] : Int)) := by rw [ev, List.getElem?_map, hy]; rfl
    have lv : vs5.length = lo.length := by rw [ev, List.length_map]
    refine ⟨p, vs5, (d : Int), d, V.int (lo[d] : Int), rfl, rfl, hp5, by omega, by omega, (ixN_seq (ixN_nat (by omega))).1, hz, ?_⟩
    have e6 := e5.put (i := 2) (Ps := lo.map fun o : Nat => int (o : Int)) (Qs := (lo.eraseIdx d).map fun o : Nat => int (o : Int)) rfl s2' (vs := vs5.eraseIdx d) (by
      have := al5.erase d
      rw [er_map] at this
      exact this)
    refine ⟨acc.map fun o : Nat => V.int (o : Int), by rw [upd_ne nDp]; exact hD5, sz_lt (by rw [List.length_map]; omega), ?_⟩
    have e7 := En.aside (p := Dl) (us := acc.map fun o : Nat => V.int (o : Int)) (vs := (acc.map fun o : Nat => V.int (o : Int)) ++ [V.int (lo[d] : Int)]) e6 d0 rD5 (by show upd W5.h p _ Dl = _; rw [upd_ne nDp]; exact hD5) fun j s h1 h2 h3 => by
      match j, h1 with
      | 0, _ =>
        rw [s0'] at h3
        cases h3
        exact nDs rfl
      | 1, h1 => cases h1; cases h2
      | 2, _ =>
        rw [s2'] at h3
        cases h3
        exact nDp rfl
      | 3, h1 => cases h1; cases h2
      | n + 4, h1 => cases h1
    refine ⟨_, lo.eraseIdx d, acc ++ [lo[d]], rfl, e7.same (by rw [List.length_set]) rfl fun j s hs => ?_, by rw [upd_same]; simp, rD5, by simp [la], ?_⟩
    · by_cases c : 3 = j
      · subst c
        cases hs
        exact .inl rfl
      · exact .inr ⟨hs, (List.getElem?_set_ne c).symm⟩
    · refine List.Perm.trans ?_ pm
      rw [List.append_assoc]
      exact List.Perm.append_left acc (perm_pop hy)
  · rintro H' ⟨W', lo, acc, rfl, e', hDl, rD, la, pm⟩
    rw [Int.toNat_natCast] at la
    have hlo : lo = [] := by
      have := pm.length_eq
      rw [List.length_append, List.length_range] at this
      exact List.eq_nil_of_length_eq_zero (by omega)
    subst hlo
    rw [List.append_nil] at pm
    refine k acc _ W' pm e'.sub e'.le e'.bags ⟨Dl, _, rfl, hDl, rD, d0, ?_⟩
    have : ∀ l : List Nat, Al W'.r (l.map fun o : Nat => V.int (o : Int)) (l.map fun o : Nat => int (o : Int)) := fun l => by
      induction l with
      | nil => exact .nil
      | cons a l ih => exact .cons rfl ih
    exact this acc
end
section
variable {K : PySem.W.Frag} {X : Cx} {ρ : List Sl} {ta tb tc te : TE} {Ψ : Sl → Prop} {Ex0 : XK} {C : Addr} {zs : List Str} {xss : List (List Rat)} {r k : Nat}
theorem mt_indexK (h : X.K = K) : MtR X "list.index" (rIndex K) := h ▸ mt_index
theorem d_indexN {os : List Nat} {b j : Nat} (ha : D ρ ta (nats K os)) (hb : D ρ tb (int (b : Int))) (hj : os[j]? = some b) (nd : os.Nodup) : D ρ (tBM K "list" (rIndex K) ta (tCons tb tNil)) (int (j : Int)) := fun W0 M W σ e Q kk => ha W0 M W σ e _ fun v W1 g1 p => by
  obtain ⟨a, vs, rfl, h1, h2⟩ := p
  have ev : vs = os.map fun o : Nat => V.int (o : Int) := by
    have := al_int (ns := os.map fun o : Nat => (o : Int)) (vs := vs) (by rw [List.map_map]; exact h2)
    rw [this, List.map_map]
    rfl
  subst ev
  refine ⟨.inl ⟨rfl, _, ex_l g1.sub h1⟩, hb W0 M W1 σ (e.go g1) _ fun y W2 g2 py => ?_⟩
  cases py
  refine ⟨a, _, _, j, .int (b : Int), rfl, rfl, ex_l (g2.le.r.trans g2.sub) h1, rfl, ?_, by rw [List.getElem?_map, hj]; rfl, by show ((b : Int) == (b : Int)) = true; simp, fun m z hm hz => ?_, kk _ W2 (g1.trans g2) rfl⟩
  · have := flat_ints (os.map fun o : Nat => (o : Int))
    rw [List.map_map] at this
    exact this
  · rw [List.getElem?_map] at hz
    cases c : os[m]? with
    | none => rw [c] at hz; cases hz
    | some o =>
      rw [c] at hz
      cases hz
      show ((o : Int) == (b : Int)) = false
      have hne : o ≠ b := fun z => by
        obtain ⟨l1, e1⟩ := List.getElem?_eq_some_iff.mp c
        obtain ⟨l2, e2⟩ := List.getElem?_eq_some_iff.mp hj
        have : os[m] = os[j] := by rw [e1, e2, z]
        have := (List.getElem_inj nd).mp this
        omega
      simp
      omega
theorem e_where (ha : D ρ ta (mach K C zs xss)) (hb : D ρ tb (int (r : Int))) (hc : D ρ tc (int (k : Int))) (hg : Good zs xss) (hr : r < zs.length) (hk : k ≤ 12) (hz : ∀ j, j ≤ k → ∀ c ∈ walk xss r j, Sz 245 c) (q : Ψ (.own ((walk xss r k).map (rat K)))) : E ρ (tCall (spP (preWhere K C)) [] Ex0 (tCons ta (tCons tb (tCons tc tNil)))) Ψ :=
  e_call (ea_d ha (ea_d hb (ea_d hc (ea_nil ⟨rfl, zs, xss, r, k, rfl, hg, hr, hk, hz, q⟩))))
theorem d_where (ha : D ρ ta (mach K C zs xss)) (hb : D ρ tb (int (r : Int))) (hc : D ρ tc (int (k : Int))) (hg : Good zs xss) (hr : r < zs.length) (hk : k ≤ 12) (hz : ∀ j, j ≤ k → ∀ c ∈ walk xss r j, Sz 245 c) : D ρ (tCall (spP (preWhere K C)) [] Ex0 (tCons ta (tCons tb (tCons tc tNil)))) (rats K (walk xss r k)) := D.of (K := K) (e_where ha hb hc hg hr hk hz .own)
theorem e_reach (ha : D ρ ta (mach K C zs xss)) (hb : D ρ tb (int (r : Int))) (hg : Good zs xss) (hr : r < zs.length) (q : ∀ os : List Nat, os.Pairwise (· < ·) → (∀ o, o ∈ os ↔ Come xss r o) → (∀ o ∈ os, o < zs.length) → Ψ (.own (os.map fun o : Nat => int (o : Int)))) : E ρ (tCall (spP (preReach K C)) [] Ex0 (tCons ta (tCons tb tNil))) Ψ :=
  e_call (ea_d ha (ea_d hb (ea_nil ⟨rfl, zs, xss, r, rfl, hg, hr, q⟩)))
theorem eqv_rtsG : ∀ (xs ys : List Rat), PyData.eqvAll (xs.map fd) (ys.map fd) = decide (xs = ys)
  | [], [] => by simp [PyData.eqvAll]
  | [], _ :: _ => by simp [PyData.eqvAll]
  | _ :: _, [] => by simp [PyData.eqvAll]
  | x :: xs, y :: ys => by
    have := eqv_rtsG xs ys
    have e : PyData.eqv (fd x) (fd y) = decide (x = y) := eqv_rt
    simp only [List.map_cons, PyData.eqvAll, this, e]
    by_cases c : x = y
    · subst c
      simp
    · simp [c]
theorem eqv_rtLG (xs ys : List Rat) : PyData.eqv (.list (xs.map fd)) (.list (ys.map fd)) = decide (xs = ys) := by
  rw [← eqv_rtsG]
  simp [PyData.eqv]
theorem ov_eqRs {xs ys : List Rat} : OpV (rEqD K) (rats K xs) (rats K ys) (tru (decide (xs = ys))) := by
  rw [← eqv_rtLG]
  exact ov_eq (isd_lst isd_rat xs) (isd_lst isd_rat ys) (shaped_rts _) (shaped_rts _)
theorem ov_neRs {xs ys : List Rat} : OpV (rNeD K) (rats K xs) (rats K ys) (tru (!decide (xs = ys))) := by
  rw [← eqv_rtLG]
  exact ov_ne (isd_lst isd_rat xs) (isd_lst isd_rat ys) (shaped_rts _) (shaped_rts _)
end
/-- the law itself -/
def preLaw (K : PySem.W.Frag) (ss : List Sl) (Ψ : Sl → Prop) : Prop := ∃ ns : List Int, ss = [.val (nums K ns)] ∧ ns.length ≤ 63 ∧ Ψ (.val (tru true))
def spLaw (K : PySem.W.Frag) : Sp := fun vs H Q _ => ∃ (a : Addr) (ns : List Int), vs = [.ref a] ∧ SqL K H a (ns.map V.int) ∧ ns.length ≤ 63 ∧ ∀ H', Q (.bl true) H'
theorem ad_law {P : Program} {w : World} {K : PySem.W.Frag} {mg : Str → Option Value} {base : Heap} {k : Nat} {f : Addr} {fd : FuncData} {ps : List Str} (F : FnOk P w K mg base CX0 k f fd ps (spP (preLaw K))) : FnOk P w K mg base CX0 k f fd ps (spLaw K) := F.imp fun vs H Q E0 h => by
  obtain ⟨a, ns, rfl, ha, hl, q⟩ := h
  refine ⟨⟨H, H⟩, [.val (nums K ns)], fun s => s = .val (tru true), rfl, Ex.refl H, .cons (s := .val (nums K ns)) ⟨a, _, rfl, ha, al_of_int ns⟩ .nil, rfl, ⟨ns, rfl, hl, rfl⟩, fun s v W2 _ _ _ r z => ?_⟩
  subst z
  cases r
  exact q _
section
variable {K : PySem.W.Frag} {ρ : List Sl} {ta tb te : TE} {tA : TA} {Ψ : Sl → Prop} {a b : Int}
theorem e_cbLE {r : List V → Hp → VK → Prop} (h : EA ρ tA fun ss => ∃ Ps Qs, ss = Ps.map .val ∧ CbL r Ps Qs ∧ Ψ (.own Qs)) : E ρ (tCB r tA) Ψ := fun W0 M W σ e Q k => h W0 M W σ e _ fun ss vs W2 g a q => by
  obtain ⟨Ps, Qs, rfl, hr, q⟩ := q
  have al : Al W2.r vs Ps := by
    clear q hr h
    induction Ps generalizing vs with
    | nil =>
      cases a
      exact .nil
    | cons P Ps ih =>
      cases a with
      | cons p t => exact .cons p (ih _ t)
  refine hr W2.r W2.h vs g.sub al _ fun p ws hp al => ?_
  obtain ⟨W3, e1, _, g3, r3⟩ := e_new e g hp al
  rw [← e1]
  exact k _ _ W3 g3 r3 q
theorem e_lcX {α : Type} {f : α → MP} {wi : TI} {g : TG} {vs : List Nat} (h : Wk ρ wi g fun n B => n ≤ 50000 ∧ ∃ xs : List α, xs.length = n ∧ (∀ i L, i < n → B i L → fitC L ρ.length vs = true ∧ ∃ x, xs[i]? = some x ∧ E (setS (wipeS ρ vs) L) te fun s => Set K s (f x)) ∧ Ψ (.own (xs.map f))) : E ρ (tLc wi g tYes te vs) Ψ := by
  refine e_lc (K := K) fun W0 M W σ e R k => h W0 M W σ e _ fun J W2 n B g T q => k J W2 n B g T ?_
  obtain ⟨hn, xs, hl, hs, q⟩ := q
  refine ⟨hn, fun i acc => acc = (xs.take i).map f, rfl, fun i L acc hi hB ha => ?_, fun acc ha => ?_⟩
  · subst ha
    obtain ⟨h1, x, h2, h3⟩ := hs i L hi hB
    refine ⟨h1, by simp; omega, t_yes (h3.mono fun s hS => ⟨f x, hS, ?_⟩)⟩
    show (xs.take i).map f ++ [f x] = (xs.take (i + 1)).map f
    rw [List.take_add_one, h2]
    simp
  · subst ha
    rw [← hl, List.take_length]
    exact q
theorem d_max (ha : D ρ ta (int a)) (hb : D ρ tb (int b)) : D ρ (tCB rMax2 (tCons ta (tCons tb tNil))) (int (if b > a then b else a)) := d_cb (da_cons ha (da_cons hb da_nil)) (cb_v2 fun H C q => ⟨a, b, rfl, q⟩)
theorem d_min (ha : D ρ ta (int a)) (hb : D ρ tb (int b)) : D ρ (tCB (fun xs H Q => ∃ i j, xs = [V.int i, V.int j] ∧ Q (.int (if j < i then j else i)) H) (tCons ta (tCons tb tNil))) (int (if b < a then b else a)) := d_cb (da_cons ha (da_cons hb da_nil)) (cb_v2 fun H C q => ⟨a, b, rfl, q⟩)
/-- [x, y][k] of two numbers -/
theorem d_pick2 {x y : Int} {k : Nat} (h : D ρ te (int (k : Int))) (hk : k < 2) : D ρ (tOp (rIxL K) (tLst (tCons (tC (.int x)) (tCons (tC (.int y)) tNil))) te) (int (if k = 0 then x else y)) := D.of (K := K) (e_opS (K := K) (e_lstD (da_cons d_c (da_cons d_c da_nil)) ⟨_, .own, E.of h ⟨_, _, .val, ov_ixL (by
  have : k = 0 ∨ k = 1 := by omega
  rcases this with rfl | rfl <;> rfl), .val⟩⟩))
theorem idx_at {os : List Nat} {b : Nat} (h : b ∈ os) : os[os.idxOf b]? = some b := by
  have hl := List.idxOf_lt_length_of_mem h
  rw [List.getElem?_eq_getElem hl, List.getElem_idxOf]
end
end WL

namespace WL
open PySem PySem.Spec PyProof.Rows L2 Evl NF
abbrev s__law_word : Stmt := topS 48
theorem sc__law_word : FnScope ["_law_bag_here", "_law_letters", "_law_k"] ["_law_bag_here"] (defScope s__law_word) := ⟨rfl, rfl, rfl, by decide +kernel, rfl, by decide +kernel, by decide +kernel⟩
def abc : Str := "abcdefghijklmnopqrstuvwxyz"
theorem abc_at {d : Int} (h0 : 0 ≤ d) (h : d < 26) : atI abc.cps.toList d = some (97 + d.toNat) := by
  obtain ⟨n, rfl⟩ := Int.eq_ofNat_of_zero_le h0
  have hn : n < 26 := by omega
  refine atI_nat (j := n) ?_
  have : ∀ n, n < 26 → abc.cps.toList[n]? = some (97 + n) := by decide +kernel
  rw [this n hn]
  rfl
section
variable {P : Program} {w : World} {K : PySem.W.Frag} {mg : Str → Option Value} {base : Heap} {f : Addr} {fd : FuncData}
theorem ok_word (F : Fun K "_law_word" "_law_word" s__law_word f fd) (n_range : mg "range" = none) (C__law_out : Cal P w K mg base 1 "_law_out" ["_law_bag_here", "_law_many"] [] (spP preOut)) : FnOk P w K mg base CX0 2 f fd ["_law_bag_here"] (spP preWord) := by
  refine fnP F sc__law_word (by decide) (fun ss Ψ h => by rw [h.1]; rfl) fun cdv A outer s H Ex0 hr => ⟨_, (pss_cons (ps_set (i := 1) sc__law_word.nd rfl (.inr rfl) pe_str)
      (pss_one (ps_ret (pe_bm PySem.F.plainAttrs_str PySem.F.slot_str_join PySem.F.type_str_join mt_join pe_str (pa_cons (pe_lc (own := [("_law_k", 2)]) (by rfl) sc__law_word.nd (pi_range1 (by rfl) n_range (pa_cons (pe_op op_add pe_int (pe_cal C__law_out hr (by decide) (by rfl) (pa_cons (pv 0) (pa_cons pe_int pa_nil)))) pa_nil)) (blkOk_by (own := [("_law_k", 2)]) (N := ["_law_bag_here", "_law_letters", "_law_k"]) (sc := defScope s__law_word) (by decide +kernel)) (fun _ _ _ _ _ => (pg_name (i := 2) sc__law_word.nd rfl (.inl rfl))) (fun _ _ _ _ _ => pts_nil) (fun _ _ _ _ _ => (pe_ix ix_str (pv 1) (pe_cal C__law_out hr (by decide) (by rfl) (pa_cons (pv 0) (pa_cons pe_int pa_nil))) (fun _ _ => rfl)))) pa_nil))))), fun ss Ψ h => ?_⟩
  obtain ⟨rfl, q⟩ := h
  refine g_seq (g_asgD d_c ?_)
  refine g_ret (e_join (e_lc (K := K) (wk_rangeE (ea_cons (K := K) (e_op (E.of d_c ⟨_, rfl, e_out rfl d_c (by decide) (by decide) fun d d0 d4 => ⟨_, _, rfl, ov_i0, _, .val, ea_nil ⟨_, rfl, by omega, by omega, by omega, ?_⟩⟩⟩))))))
  refine ⟨fun i acc => ∃ cs : List Nat, acc = (cs.map fun c => (⟨#[c]⟩ : Str)).map str ∧ cs.length = i ∧ ∀ c ∈ cs, 97 ≤ c ∧ c ≤ 122, ⟨[], rfl, rfl, nofun⟩, ?_, ?_⟩
  · rintro i L acc hi rfl ⟨cs, rfl, hl, hc⟩
    refine ⟨rfl, by simp [hl], t_yes ?_⟩
    refine e_op (E.of (d_var rfl) ⟨_, rfl, e_out rfl d_c (by decide) (by decide) fun e e0 e26 => ⟨_, _, rfl, ov_ixS (z := abc) (by decide +kernel) (abc_at e0 e26), _, .val, cs ++ [97 + e.toNat], by simp, by simp [hl], ?_⟩⟩)
    intro c hc'
    rcases List.mem_append.mp hc' with h | h
    · exact hc c h
    · rw [List.mem_singleton.mp h]
      omega
  · rintro acc ⟨cs, rfl, hl, hc⟩
    refine ⟨_, .own, ?_, q _ (mk_glue (by omega) (by omega) hc)⟩
    have e1 : ∀ cs : List Nat, ((cs.map fun c => (⟨#[c]⟩ : Str)).map (·.length)).sum = cs.length := fun cs => by
      induction cs with
      | nil => rfl
      | cons c cs ih =>
        rw [List.map_cons, List.map_cons, List.sum_cons, ih, List.length_cons]
        show 1 + _ = _
        omega
    have e2 : (Str.ofString "").length = 0 := by decide +kernel
    rw [e1, e2]
    omega
end
end WL

namespace WL
open PySem PySem.Spec PyProof.Rows L2 Evl NF
abbrev s__law_goes : Stmt := topS 49
theorem sc__law_goes : FnScope ["_law_bag_here", "_law_many", "_law_wide", "_law_bottom", "_law_left", "_law_found", "_law_room", "_law_part", "_law_at"] ["_law_bag_here", "_law_many", "_law_wide"] (defScope s__law_goes) := ⟨rfl, rfl, rfl, by decide +kernel, rfl, by decide +kernel, by decide +kernel⟩
theorem goes_pick {K : PySem.W.Frag} {d e : Int} {wide : Nat} (d0 : 0 ≤ d) (dw : d < wide) (e0 : 0 ≤ e) (e6 : e < 6) (h6 : 6 ≤ wide) : ∃ b : Nat, 0 < b ∧ b ≤ wide ∧ OpV (rIxL K) (lst K [int 1, int 2, int 3, int 4, int 6, int (1 + d)]) (int e) (int (b : Int)) := by
  obtain ⟨n, rfl⟩ := Int.eq_ofNat_of_zero_le e0
  have : n = 0 ∨ n = 1 ∨ n = 2 ∨ n = 3 ∨ n = 4 ∨ n = 5 := by omega
  rcases this with rfl | rfl | rfl | rfl | rfl | rfl
  · exact ⟨1, by omega, by omega, ov_ixL rfl⟩
  · exact ⟨2, by omega, by omega, ov_ixL rfl⟩
  · exact ⟨3, by omega, by omega, ov_ixL rfl⟩
  · exact ⟨4, by omega, by omega, ov_ixL rfl⟩
  · exact ⟨6, by omega, by omega, ov_ixL rfl⟩
  · refine ⟨(1 + d).toNat, by omega, by omega, ov_ixL ?_⟩
    rw [Int.toNat_of_nonneg (by omega)]
    rfl
section
variable {P : Program} {w : World} {K : PySem.W.Frag} {mg : Str → Option Value} {base : Heap} {f : Addr} {fd : FuncData}
theorem ok_goes (F : Fun K "_law_goes" "_law_goes" s__law_goes f fd) (n_range : mg "range" = none) (n_int : mg "int" = none) (C__law_out : Cal P w K mg base 1 "_law_out" ["_law_bag_here", "_law_many"] [] (spP preOut)) (C__law_low : Cal P w K mg base 1 "_law_low" ["_law_top", "_law_bottom"] [] (spP (preLow K))) : FnOk P w K mg base CX0 2 f fd ["_law_bag_here", "_law_many", "_law_wide"] (spP (preGoes K)) := by
  refine fnP F sc__law_goes (by decide) (fun ss Ψ h => by obtain ⟨_, _, rfl, _⟩ := h; rfl) fun cdv A outer s H Ex0 hr => ⟨_, (pss_cons (ps_set (i := 3) sc__law_goes.nd rfl (.inl rfl) (pe_ix ix_list (pe_lst (pa_cons pe_int (pa_cons pe_int (pa_cons pe_int (pa_cons pe_int (pa_cons pe_int (pa_cons (pe_op op_add pe_int (pe_cal C__law_out hr (by decide) (by rfl) (pa_cons (pv 0) (pa_cons (pv 2) pa_nil)))) pa_nil))))))) (pe_cal C__law_out hr (by decide) (by rfl) (pa_cons (pv 0) (pa_cons pe_int pa_nil))) (fun _ _ => rfl)))
      (pss_cons (ps_set (i := 4) sc__law_goes.nd rfl (.inl rfl) (pv 3))
      (pss_cons (ps_set (i := 5) sc__law_goes.nd rfl (.inl rfl) (pe_lst pa_nil))
      (pss_cons (ps_for PassesOwn.never rfl (pi_range1 (by rfl) n_range (pa_cons (pe_op op_sub (pv 1) pe_int) pa_nil)) (pg_name (i := 6) sc__law_goes.nd rfl (.inl rfl)) (pss_cons (ps_set (i := 7) sc__law_goes.nd rfl (.inl rfl) (pe_op op_mul (pe_cal C__law_out hr (by decide) (by rfl) (pa_cons (pv 0) (pa_cons (pe_op op_add (pv 4) pe_int) pa_nil))) (pe_callTy call_int1 (by rfl) n_int PyProof.Rows.boot_int (pa_cons (pe_cmpR op_gt (pe_cal C__law_out hr (by decide) (by rfl) (pa_cons (pv 0) (pa_cons pe_int pa_nil))) pe_int (nomark _)) pa_nil))))
      (pss_cons (ps_set (i := 4) sc__law_goes.nd rfl (.inl rfl) (pe_op op_sub (pv 4) (pv 7)))
      (pss_one (ps_expr (pe_bm PySem.F.plainAttrs_list PySem.F.slot_list_append PySem.F.type_list_append mt_append (pv 5) (pa_cons (pe_cal C__law_low hr (by decide) (by rfl) (pa_cons (pv 7) (pa_cons (pv 3) pa_nil))) pa_nil)))))))
      (pss_cons (ps_expr (pe_bm PySem.F.plainAttrs_list PySem.F.slot_list_append PySem.F.type_list_append mt_append (pv 5) (pa_cons (pe_cal C__law_low hr (by decide) (by rfl) (pa_cons (pv 4) (pa_cons (pv 3) pa_nil))) pa_nil)))
      (pss_cons (ps_set (i := 8) sc__law_goes.nd rfl (.inl rfl) (pe_cal C__law_out hr (by decide) (by rfl) (pa_cons (pv 0) (pa_cons (pv 1) pa_nil))))
      (pss_one (ps_ret (pe_op op_cat (pe_slice sl_list (pv 5) (po_some (pv 8)) po_none) (pe_slice sl_list (pv 5) po_none (po_some (pv 8)))))))))))), fun ss Ψ h => ?_⟩
  obtain ⟨n, wide, rfl, n1, n6, w6, w9, q⟩ := h
  refine g_seq (g_asg (e_opS (K := K) (e_lst (ea_d d_c (ea_d d_c (ea_d d_c (ea_d d_c (ea_d d_c (ea_cons (K := K) (e_op (E.of d_c ⟨_, rfl, e_out rfl (d_var rfl) (by omega) (by omega) fun d d0 dw => ⟨_, _, rfl, ov_i0, _, .val, ea_nil ⟨[int 1, int 2, int 3, int 4, int 6, int (1 + d)], rfl, rfl, _, .own, ?_⟩⟩⟩)))))))))))
  refine e_out rfl d_c (by decide) (by decide) fun e e0 e6 => ?_
  obtain ⟨b, b0, bw, hb⟩ := goes_pick (K := K) d0 dw e0 e6 w6
  refine ⟨_, _, .val, hb, ?_⟩
  refine g_seq (g_asgD (d_var rfl) ?_)
  refine g_seq (g_asg (e_lstD da_nil ?_))
  refine g_seq (g_for (wk_range (m := (n : Int) - 1) (da_cons (d_op (d_var rfl) d_c ov_i0) da_nil) (by omega) (by omega) ?_))
  refine ⟨fun i ρ' => ∃ (left : Int) (xs : List Rat) (y6 y7 y8 : Sl), ρ' = [.bag, .val (int (n : Int)), .val (int (wide : Int)), .val (int (b : Int)), .val (int left), .own (xs.map (rat K)), y6, y7, y8] ∧ 0 ≤ left ∧ left ≤ b ∧ xs.length = i ∧ (∀ x ∈ xs, 0 ≤ x ∧ x ≤ 1 ∧ Ml b x) ∧ sumF 0 xs * (b : Rat) = (b : Rat) - (left : Rat), ?_, ?_, ?_⟩
  · refine ⟨(b : Int), [], .un, .un, .un, rfl, by omega, by omega, rfl, nofun, ?_⟩
    show (0 : Rat) * b = b - ((b : Int) : Rat)
    have : ((b : Int) : Rat) = (b : Rat) := rfl
    grind
  · rintro i L ρ' hi rfl ⟨left, xs, y6, y7, y8, rfl, l0, lb, hl, hx, hsum⟩
    refine ⟨rfl, ?_⟩
    refine g_seq (g_asg (e_op (e_out rfl (d_op (d_var rfl) d_c ov_i0) (by omega) (by omega) fun g g0 gl => ⟨_, rfl, e_int01 (e_op (e_out rfl d_c (by decide) (by decide) fun t t0 t3 => ⟨_, rfl, E.of d_c ⟨_, _, rfl, ov_i0, _, rfl, ?_⟩⟩))⟩)))
    refine ⟨_, int (g * (if decide (0 < t) = true then (1 : Int) else 0)), rfl, ov_i (.inr ⟨by split <;> decide, by split <;> decide⟩), ?_⟩
    generalize hk : (if decide (0 < t) = true then (1 : Int) else 0) = k01
    have hp : 0 ≤ g * k01 ∧ g * k01 ≤ left := by
      have : k01 = 0 ∨ k01 = 1 := by
        rw [← hk]
        split
        · exact .inr rfl
        · exact .inl rfl
      rcases this with rfl | rfl <;> omega
    obtain ⟨p0, pl⟩ := hp
    refine g_seq (g_asgD (d_op (d_var rfl) (d_var rfl) ov_i0) ?_)
    refine g_appD (K := K) rfl (d_low (B := 21) (d_var rfl) (d_var rfl) (by omega) (by omega) (by omega) (by decide) (by decide)) (by simp; omega) ?_
    rw [show xs.map (rat K) ++ [rat K (Rat.divInt (g * k01) b)] = (xs ++ [Rat.divInt (g * k01) b]).map (rat K) by simp]
    refine ⟨left - g * k01, xs ++ [Rat.divInt (g * k01) b], _, _, _, rfl, by omega, by omega, by simp [hl], ?_, ?_⟩
    · intro x hx'
      rcases List.mem_append.mp hx' with h | h
      · exact hx x h
      · rw [List.mem_singleton.mp h]
        obtain ⟨a1, a2⟩ := div01 p0 (by omega) b0
        exact ⟨a1, a2, ml_div (g * k01) b0⟩
    · rw [sumF_snoc, Rat.add_mul, hsum, div_eq (g * k01) b0, Rat.intCast_sub]
      grind
  · rintro ρ' ⟨left, xs, y6, y7, y8, rfl, l0, lb, hl, hx, hsum⟩
    refine g_seq (g_appD (K := K) rfl (d_low (B := 21) (d_var rfl) (d_var rfl) (by omega) (by omega) (by omega) (by decide) (by decide)) (by simp; omega) ?_)
    refine g_seq (g_asg (e_out rfl (d_var rfl) (by omega) (by omega) fun at_ a0 an => ?_))
    obtain ⟨k, rfl⟩ := Int.eq_ofNat_of_zero_le a0
    have em : xs.map (rat K) ++ [rat K (Rat.divInt left b)] = (xs ++ [Rat.divInt left b]).map (rat K) := by simp
    have hln : (xs ++ [Rat.divInt left b]).length = n := by simp [hl]; omega
    refine g_ret (e_cat (own_sl (Ps := (xs ++ [Rat.divInt left b]).map (rat K)) (by rw [← em]; rfl) (do_some (d_var rfl)) do_none ⟨_, rfl, own_sl (Ps := (xs ++ [Rat.divInt left b]).map (rat K)) (by rw [← em]; rfl) do_none (do_some (d_var rfl)) ⟨_, rfl, ?_, ?_⟩⟩))
    · rw [cut_hi (by rw [List.length_map, hln]; omega), cut_lo (by rw [List.length_map, hln]; omega), List.length_drop, List.length_take, List.length_map, hln]
      omega
    · rw [cut_hi (by rw [List.length_map, hln]; omega), cut_lo (by rw [List.length_map, hln]; omega), ← List.map_drop, ← List.map_take, ← List.map_append]
      have hall : ∀ x ∈ xs ++ [Rat.divInt left b], 0 ≤ x ∧ x ≤ 1 ∧ Ml b x := by
        intro x hx'
        rcases List.mem_append.mp hx' with h | h
        · exact hx x h
        · rw [List.mem_singleton.mp h]
          obtain ⟨a1, a2⟩ := div01 l0 lb b0
          exact ⟨a1, a2, ml_div left b0⟩
      have h1 : sumF 0 (xs ++ [Rat.divInt left b]) = 1 := by
        have e : sumF 0 (xs ++ [Rat.divInt left b]) * (b : Rat) = b := by
          rw [sumF_snoc, Rat.add_mul, hsum, div_eq left b0]
          grind
        have hb' : (b : Rat) ≠ 0 := by
          intro z
          have : b = 0 := by exact_mod_cast z
          omega
        grind
      refine q _ ⟨?_, by rw [sumF_rot, h1], b, b0, bw, fun x hx' => ?_⟩
      · rw [List.length_append, List.length_drop, List.length_take, hln]
        omega
      · rcases List.mem_append.mp hx' with h | h
        · exact hall x (List.mem_of_mem_drop h)
        · exact hall x (List.mem_of_mem_take h)
end
end WL

namespace WL
open PySem PySem.Spec PyProof.Rows L2 Evl NF
abbrev s__law_kit : Stmt := topS 50
theorem sc__law_kit : FnScope ["_law_bag_here", "_law_most", "_law_wide", "_law_many", "_law_words", "_law_way", "_law_names", "_law_goes_here", "_law_room", "_law_at"] ["_law_bag_here", "_law_most", "_law_wide"] (defScope s__law_kit) := ⟨rfl, rfl, rfl, by decide +kernel, rfl, by decide +kernel, by decide +kernel⟩
theorem mk_a : NF.Mk (Str.ofString "a") := ⟨by decide +kernel, by decide +kernel, by decide +kernel⟩
theorem mk_b : NF.Mk (Str.ofString "b") := ⟨by decide +kernel, by decide +kernel, by decide +kernel⟩
theorem mk_zz : NF.Mk (Str.ofString "zz") := ⟨by decide +kernel, by decide +kernel, by decide +kernel⟩
theorem way_pick {K : PySem.W.Frag} {w : Int} (h0 : 0 ≤ w) (h4 : w < 4) : ∃ k : Nat, 0 < k ∧ k ≤ 6 ∧ OpV (rIxL K) (lst K [int 1, int 2, int 3, int 6]) (int w) (int (k : Int)) := by
  obtain ⟨n, rfl⟩ := Int.eq_ofNat_of_zero_le h0
  have : n = 0 ∨ n = 1 ∨ n = 2 ∨ n = 3 := by omega
  rcases this with rfl | rfl | rfl | rfl
  · exact ⟨1, by omega, by omega, ov_ixL rfl⟩
  · exact ⟨2, by omega, by omega, ov_ixL rfl⟩
  · exact ⟨3, by omega, by omega, ov_ixL rfl⟩
  · exact ⟨6, by omega, by omega, ov_ixL rfl⟩
section
variable {K : PySem.W.Frag} {ρ : List Sl} {i j k : Nat} {Ψ : Sl → Prop} {Ex0 : XK}
theorem e_word (h : ρ[i]? = some .bag) (q : ∀ z, NF.Mk z → Ψ (.val (str z))) : E ρ (tCall (spP preWord) [] Ex0 (tCons (tVar i) tNil)) Ψ := e_call (ea_bag h (ea_nil ⟨rfl, rfl, q⟩))
end
section
variable {P : Program} {w : World} {K : PySem.W.Frag} {mg : Str → Option Value} {base : Heap} {f : Addr} {fd : FuncData}
theorem ok_kit (F : Fun K "_law_kit" "_law_kit" s__law_kit f fd) (n_range : mg "range" = none) (n_list : mg "list" = none) (C__law_out : Cal P w K mg base 1 "_law_out" ["_law_bag_here", "_law_many"] [] (spP preOut)) (C__law_word : Cal P w K mg base 2 "_law_word" ["_law_bag_here"] [] (spP preWord)) (C__law_goes : Cal P w K mg base 2 "_law_goes" ["_law_bag_here", "_law_many", "_law_wide"] [] (spP (preGoes K))) :
    FnOk P w K mg base CX0 3 f fd ["_law_bag_here", "_law_most", "_law_wide"] (spP (preKit K)) := by
  refine fnP F sc__law_kit (by decide) (fun ss Ψ h => by obtain ⟨_, rfl, _⟩ := h; rfl) fun cdv A outer s H Ex0 hr => ⟨_, (pss_cons (ps_set (i := 3) sc__law_kit.nd rfl (.inl rfl) (pe_op op_add pe_int (pe_cal C__law_out hr (by decide) (by rfl) (pa_cons (pv 0) (pa_cons (pv 1) pa_nil)))))
      (pss_cons (ps_set (i := 4) sc__law_kit.nd rfl (.inl rfl) (pe_lst (pa_cons (pe_cal C__law_word hr (by decide) (by rfl) (pa_cons (pv 0) pa_nil)) (pa_cons (pe_cal C__law_word hr (by decide) (by rfl) (pa_cons (pv 0) pa_nil)) (pa_cons pe_str (pa_cons pe_str (pa_cons (pe_cal C__law_word hr (by decide) (by rfl) (pa_cons (pv 0) pa_nil)) (pa_cons pe_str pa_nil))))))))
      (pss_cons (ps_set (i := 5) sc__law_kit.nd rfl (.inl rfl) (pe_cal C__law_out hr (by decide) (by rfl) (pa_cons (pv 0) (pa_cons pe_int pa_nil))))
      (pss_cons (ps_set (i := 6) sc__law_kit.nd rfl (.inl rfl) (pe_lst pa_nil))
      (pss_cons (ps_set (i := 7) sc__law_kit.nd rfl (.inl rfl) (pe_lst pa_nil))
      (pss_cons (ps_for PassesOwn.never rfl (pi_range1 (by rfl) n_range (pa_cons (pv 3) pa_nil)) (pg_name (i := 8) sc__law_kit.nd rfl (.inl rfl)) (pss_cons (ps_set (i := 9) sc__law_kit.nd rfl (.inl rfl) (pe_cal C__law_out hr (by decide) (by rfl) (pa_cons (pv 0) (pa_cons (pe_op op_add (pv 8) pe_int) pa_nil))))
      (pss_one (ps_if (PW.pt (pw_and (pt_cmpR op_lt (pv 9) (pv 8) (nomark _)) (pw_and1 (pt_cmpR op_eq (pv 5) pe_int (nomark _))))) (pss_cons (ps_expr (pe_bm PySem.F.plainAttrs_list PySem.F.slot_list_append PySem.F.type_list_append mt_append (pv 6) (pa_cons (pe_ix ix_list (pv 6) (pv 9) (fun _ _ => rfl)) pa_nil)))
      (pss_one (ps_expr (pe_bm PySem.F.plainAttrs_list PySem.F.slot_list_append PySem.F.type_list_append mt_append (pv 7) (pa_cons (pe_callTy (call_listK (K := K) rfl) (by rfl) n_list PyProof.Rows.boot_list (pa_cons (pe_ix ix_list (pv 7) (pv 9) (fun _ _ => rfl)) pa_nil)) pa_nil))))) (pss_cons (ps_expr (pe_bm PySem.F.plainAttrs_list PySem.F.slot_list_append PySem.F.type_list_append mt_append (pv 6) (pa_cons (pe_ix ix_list (pv 4) (pe_cal C__law_out hr (by decide) (by rfl) (pa_cons (pv 0) (pa_cons (pe_ix ix_list (pe_lst (pa_cons pe_int (pa_cons pe_int (pa_cons pe_int (pa_cons pe_int pa_nil))))) (pv 5) (fun _ _ => rfl)) pa_nil))) (fun _ _ => rfl)) pa_nil)))
      (pss_one (ps_expr (pe_bm PySem.F.plainAttrs_list PySem.F.slot_list_append PySem.F.type_list_append mt_append (pv 7) (pa_cons (pe_cal C__law_goes hr (by decide) (by rfl) (pa_cons (pv 0) (pa_cons (pv 3) (pa_cons (pv 2) pa_nil)))) pa_nil)))))))))
      (pss_one (ps_ret (pe_tup (pa_cons (pv 6) (pa_cons (pv 7) pa_nil))))))))))), fun ss Ψ h => ?_⟩
  obtain ⟨wide, rfl, w6, w9, q⟩ := h
  refine g_seq (g_asg (e_op (E.of d_c ⟨_, rfl, e_out rfl (d_var rfl) (by decide) (by decide) fun d d0 d6 => ⟨_, _, rfl, ov_i0, ?_⟩⟩)))
  obtain ⟨many, hmany⟩ : ∃ many : Nat, 1 + d = (many : Int) := ⟨(1 + d).toNat, by omega⟩
  rw [hmany]
  have m1 : 1 ≤ many := by omega
  have m6 : many ≤ 6 := by omega
  refine g_seq (g_asg (e_lst (ea_cons (K := K) (e_word rfl fun z1 k1 => ⟨_, .val, ea_cons (K := K) (e_word rfl fun z2 k2 => ⟨_, .val, ea_d d_c (ea_d d_c (ea_cons (K := K) (e_word rfl fun z3 k3 => ⟨_, .val, ea_d d_c (ea_nil ⟨[z1, z2, Str.ofString "a", Str.ofString "b", z3, Str.ofString "zz"].map str, rfl, rfl, ?_⟩)⟩)))⟩)⟩))))
  have kw : ∀ z ∈ ([z1, z2, Str.ofString "a", Str.ofString "b", z3, Str.ofString "zz"] : List Str), NF.Mk z := by
    intro z hz
    simp only [List.mem_cons, List.not_mem_nil, or_false] at hz
    rcases hz with rfl | rfl | rfl | rfl | rfl | rfl
    · exact k1
    · exact k2
    · exact mk_a
    · exact mk_b
    · exact k3
    · exact mk_zz
  have lw : ([z1, z2, Str.ofString "a", Str.ofString "b", z3, Str.ofString "zz"] : List Str).length = 6 := rfl
  generalize ([z1, z2, Str.ofString "a", Str.ofString "b", z3, Str.ofString "zz"] : List Str) = ws at kw lw ⊢
  refine g_set (K := K) (i := 4) rfl ?_
  refine g_seq (g_asg (e_out rfl d_c (by decide) (by decide) fun way w0 w4 => ?_))
  refine g_seq (g_asg (e_lstD da_nil ?_))
  refine g_seq (g_asg (e_lstD da_nil ?_))
  refine g_seq (g_for (wk_range (m := (many : Int)) (da_cons (d_var rfl) da_nil) (by omega) (by omega) ?_))
  refine ⟨fun i ρ' => ∃ (zs : List Str) (xss : List (List Rat)) (y8 y9 : Sl), ρ' = [.bag, .val (int 6), .val (int (wide : Int)), .val (int (many : Int)), .val (txts K ws), .val (int way), .own (zs.map str), .own (xss.map (rats K)), y8, y9] ∧ zs.length = i ∧ xss.length = i ∧ (∀ z ∈ zs, NF.Mk z) ∧ (∀ xs ∈ xss, Shs xs many) ∧ Bot wide xss, ⟨[], [], .un, .un, rfl, rfl, rfl, nofun, nofun, nofun⟩, ?_, ?_⟩
  · rintro i L ρ' hi rfl ⟨zs, xss, y8, y9, rfl, lz, lx, hz, hx, hB⟩
    refine ⟨rfl, ?_⟩
    refine g_seq (g_asg (e_out rfl (d_op (d_var rfl) d_c ov_i0) (by omega) (by omega) fun at_ a0 ai => ?_))
    obtain ⟨a, rfl⟩ := Int.eq_ofNat_of_zero_le a0
    have bot1 : ∀ {xs : List Rat}, (∃ d : Nat, 0 < d ∧ d ≤ wide ∧ ∀ x ∈ xs, Ml d x) → Bot wide (xss ++ [xs]) := fun hb xs' h => by
      rcases List.mem_append.mp h with h | h
      · exact hB xs' h
      · rw [List.mem_singleton.mp h]
        exact hb
    refine g_ifb (b := decide ((a : Int) < (i : Int)) && decide (V.int way = V.int 0)) (t_and2 (T.is (d_op (d_var rfl) (d_var rfl) ov_i0)) fun _ => T.is (d_op (d_var rfl) d_c (ov_eqv rfl))) (fun hb => ?_) fun _ => ?_
    · rw [Bool.and_eq_true, decide_eq_true_eq] at hb
      have ha : a < i := by omega
      have hza : zs[a]? = some zs[a] := List.getElem?_eq_getElem (by omega)
      have hxa : xss[a]? = some xss[a] := List.getElem?_eq_getElem (by omega)
      refine g_seq (g_appD (K := K) rfl (own_at (K := K) rfl (d_var rfl) (at_map hza)) (by simp; omega) ?_)
      refine g_app (K := K) rfl (by simp; omega) (e_cbL (da_cons (own_at (K := K) rfl (d_var rfl) (at_map hxa)) da_nil) cl_list ⟨_, .own, ?_⟩)
      rw [show zs.map str ++ [str zs[a]] = (zs ++ [zs[a]]).map str by simp, show xss.map (rats K) ++ [lst K (xss[a].map (rat K))] = (xss ++ [xss[a]]).map (rats K) by simp]
      refine ⟨zs ++ [zs[a]], xss ++ [xss[a]], _, _, rfl, by simp [lz], by simp [lx], fun z h => ?_, fun xs h => ?_, bot1 (hB _ (List.getElem_mem _))⟩
      · rcases List.mem_append.mp h with h | h
        · exact hz z h
        · rw [List.mem_singleton.mp h]
          exact hz _ (List.getElem_mem _)
      · rcases List.mem_append.mp h with h | h
        · exact hx xs h
        · rw [List.mem_singleton.mp h]
          exact hx _ (List.getElem_mem _)
    · obtain ⟨kk, kk0, kk6, hkk⟩ := way_pick (K := K) w0 w4
      refine g_seq (g_app (K := K) rfl (by simp; omega) (e_op (E.of (d_var rfl) ⟨_, rfl, e_out rfl (D.of (K := K) (e_opS (K := K) (e_lstD (da_cons d_c (da_cons d_c (da_cons d_c (da_cons d_c da_nil)))) ⟨_, .own, E.of (d_var rfl) ⟨_, _, .val, hkk, .val⟩⟩))) (by omega) (by omega) fun c c0 ck => ?_⟩)))
      obtain ⟨c, rfl⟩ := Int.eq_ofNat_of_zero_le c0
      have hwc : ws[c]? = some ws[c] := List.getElem?_eq_getElem (by omega)
      refine ⟨_, _, rfl, ov_ixL (at_map hwc), _, .val, ?_⟩
      refine g_app (K := K) rfl (by simp; omega) (e_call (ea_bag rfl (ea_d (d_var rfl) (ea_d (d_var rfl) (ea_nil ⟨rfl, many, wide, rfl, m1, m6, w6, by omega, fun xs hG => ⟨_, .own, ?_⟩⟩)))))
      rw [show zs.map str ++ [str ws[c]] = (zs ++ [ws[c]]).map str by simp, show xss.map (rats K) ++ [lst K (xs.map (rat K))] = (xss ++ [xs]).map (rats K) by simp]
      refine ⟨zs ++ [ws[c]], xss ++ [xs], _, _, rfl, by simp [lz], by simp [lx], fun z h => ?_, fun xs' h => ?_, bot1 ?_⟩
      · rcases List.mem_append.mp h with h | h
        · exact hz z h
        · rw [List.mem_singleton.mp h]
          exact kw _ (List.getElem_mem _)
      · rcases List.mem_append.mp h with h | h
        · exact hx xs' h
        · rw [List.mem_singleton.mp h]
          exact hG.shs w9
      · obtain ⟨_, _, d, d0, dw, hd⟩ := hG
        exact ⟨d, d0, dw, fun x hx => (hd x hx).2.2⟩
  · rintro ρ' ⟨zs, xss, y8, y9, rfl, lz, lx, hz, hx, hB⟩
    have lm : (many : Int).toNat = many := Int.toNat_natCast many
    refine g_set (K := K) (i := 6) rfl (g_set (K := K) (i := 7) rfl ?_)
    exact g_retD (d_tup (da_cons (d_var rfl) (da_cons (d_var rfl) da_nil))) (q zs xss ⟨by omega, by omega, hz, by omega, by rw [lz, lm]; exact hx⟩ hB)
end
end WL

namespace WL
open PySem PySem.Spec PyProof.Rows L2 Evl NF
abbrev s__law_shuffled : Stmt := topS 51
theorem sc__law_shuffled : FnScope ["_law_bag_here", "_law_many", "_law_left", "_law_room"] ["_law_bag_here", "_law_many"] (defScope s__law_shuffled) := ⟨rfl, rfl, rfl, by decide +kernel, rfl, by decide +kernel, by decide +kernel⟩
section
variable {P : Program} {w : World} {K : PySem.W.Frag} {mg : Str → Option Value} {base : Heap} {f : Addr} {fd : FuncData}
theorem ok_shuf (F : Fun K "_law_shuffled" "_law_shuffled" s__law_shuffled f fd) (n_range : mg "range" = none) (n_list : mg "list" = none) (n_len : mg "len" = none) (C__law_out : Cal P w K mg base 1 "_law_out" ["_law_bag_here", "_law_many"] [] (spP preOut)) : FnOk P w K mg base CX0 2 f fd ["_law_bag_here", "_law_many"] (spP preShuf) := by
  refine fnP F sc__law_shuffled (by decide) (fun ss Ψ h => by obtain ⟨_, rfl, _⟩ := h; rfl) fun cdv A outer s H Ex0 hr => ⟨_, (pss_cons (ps_set (i := 2) sc__law_shuffled.nd rfl (.inr rfl) (pe_listRg rfl (by rfl) n_list (prg_1 (by rfl) n_range (pv 1))))
      (pss_one (ps_ret (pe_lc (own := [("_law_room", 3)]) (by rfl) sc__law_shuffled.nd (pi_range1 (by rfl) n_range (pa_cons (pv 1) pa_nil)) (blkOk_by (own := [("_law_room", 3)]) (N := ["_law_bag_here", "_law_many", "_law_left", "_law_room"]) (sc := defScope s__law_shuffled) (by decide +kernel)) (fun _ _ _ _ _ => (pg_name (i := 3) sc__law_shuffled.nd rfl (.inl rfl))) (fun _ _ _ _ _ => pts_nil) (fun _ _ _ _ _ => (pe_bmK (K := K) rfl PySem.F.plainAttrs_list PySem.F.slot_list_pop PySem.F.type_list_pop mt_popAt (pv 2) (pa_cons (pe_cal C__law_out hr (by decide) (by rfl) (pa_cons (pv 0) (pa_cons (pe_callB (call_lenK (K := K) rfl) (by rfl) n_len PySem.boot_len (pa_cons (pv 2) pa_nil)) pa_nil))) pa_nil))))))), fun ss Ψ h => ?_⟩
  obtain ⟨n, rfl, n1, n6, q⟩ := h
  refine g_seq (g_asg (e_listRg (d_var rfl) (by omega) ?_))
  intro W0 M W σ D e m
  exact e_pops (K := K) e (by omega) fun os v W2 ho sub le bg r => m.rt _ v W2 sub le bg r (q os ho)
end
end WL

namespace WL
open PySem PySem.Spec PyProof.Rows L2 Evl NF
abbrev s_Machine_marks : Stmt := inClass (topS 32) 1
theorem sc_Machine_marks : FnScope ["self"] ["self"] (defScope s_Machine_marks) := ⟨rfl, rfl, rfl, by decide +kernel, rfl, by decide +kernel, by decide +kernel⟩
abbrev s_Machine_shares : Stmt := inClass (topS 32) 2
theorem sc_Machine_shares : FnScope ["self", "row"] ["self"] (defScope s_Machine_shares) := ⟨rfl, rfl, rfl, by decide +kernel, rfl, by decide +kernel, by decide +kernel⟩
abbrev s_Machine___init__ : Stmt := inClass (topS 32) 0
theorem sc_Machine___init__ : FnScope ["self", "marks", "shares", "row"] ["self", "marks", "shares"] (defScope s_Machine___init__) := ⟨rfl, rfl, rfl, by decide +kernel, rfl, by decide +kernel, by decide +kernel⟩
section
variable {P : Program} {w : World} {K : PySem.W.Frag} {mg : Str → Option Value} {base : Heap} {f : Addr} {fd : FuncData} {cM : Addr}
theorem e_copy {ρ : List Sl} {tl : TE} {xss : List (List Rat)} {j : Nat} {Ψ : Sl → Prop} (h : D ρ tl (rows K xss)) (h6 : xss.length ≤ 1000) (hj : fitC [(j, rats K [])] ρ.length [j] = true) (hv : ∀ P : MP, (setS (wipeS ρ [j]) [(j, P)])[j]? = some (.val P)) (q : Ψ (.own (xss.map (rats K)))) : E ρ (tLc (iList K tl) (gName j) tYes (tCB (rListS K) (tCons (tVar j) tNil)) [j]) Ψ := by
  refine e_lc (K := K) (wk_listD h ⟨by simp; omega, fun i acc => acc = (xss.take i).map (rats K), rfl, ?_, ?_⟩)
  · rintro i L acc hi ⟨P, hP, rfl⟩ rfl
    obtain ⟨xs, hx, rfl⟩ := map_at hP
    refine ⟨hj, by simp; omega, t_yes (e_cbL (da_cons (d_var (hv _)) da_nil) cl_list ⟨_, .own, ?_⟩)⟩
    show (xss.take i).map (rats K) ++ [lst K (xs.map (rat K))] = (xss.take (i + 1)).map (rats K)
    rw [List.take_add_one, hx]
    simp
  · rintro acc rfl
    simpa using q
theorem ok_marksM (F : Fun K "marks" "Machine.marks" s_Machine_marks f fd) (T : NF.Txt K mg cM) (n_list : mg "list" = none) : FnOk P w K mg base CX0 1 f fd ["self"] (spP (preM1 K cM fun zs _ => .own (zs.map str))) := by
  refine fnP F sc_Machine_marks (by decide) (fun ss Ψ h => by obtain ⟨_, _, rfl, _⟩ := h; rfl) fun cdv A outer s H Ex0 hr => ⟨_, (pss_one (ps_ret (pe_callTy (call_listK (K := K) rfl) (by rfl) n_list PyProof.Rows.boot_list (pa_cons (pe_fld (pv 0) rfl) pa_nil)))), fun ss Ψ h => ?_⟩
  obtain ⟨zs, xss, rfl, hg, q⟩ := h
  exact g_ret (e_cbL (da_cons (d_fldM (d_var rfl) T.cl T.nm) da_nil) cl_list q)
theorem ok_sharesM (F : Fun K "shares" "Machine.shares" s_Machine_shares f fd) (T : NF.Txt K mg cM) (n_list : mg "list" = none) : FnOk P w K mg base CX0 1 f fd ["self"] (spP (preM1 K cM fun _ xss => .own (xss.map (rats K)))) := by
  refine fnP F sc_Machine_shares (by decide) (fun ss Ψ h => by obtain ⟨_, _, rfl, _⟩ := h; rfl) fun cdv A outer s H Ex0 hr => ⟨_, (pss_one (ps_ret (pe_lc (own := [("row", 1)]) (by rfl) sc_Machine_shares.nd (pi_list (pe_fld (pv 0) rfl)) (blkOk_by (own := [("row", 1)]) (N := ["self", "row"]) (sc := defScope s_Machine_shares) (by decide +kernel)) (fun _ _ _ _ _ => (pg_name (i := 1) sc_Machine_shares.nd rfl (.inl rfl))) (fun _ _ _ _ _ => pts_nil) (fun _ _ _ _ _ => (pe_callTy (call_listK (K := K) rfl) (by rfl) n_list PyProof.Rows.boot_list (pa_cons (pv 1) pa_nil)))))), fun ss Ψ h => ?_⟩
  obtain ⟨zs, xss, rfl, ⟨g1, g2, g3, g4, g5⟩, q⟩ := h
  exact g_ret (e_copy (d_fldS (d_var rfl) T.cl T.ns) (by omega) rfl (fun _ => rfl) q)
theorem ok_init (F : Fun K "__init__" "Machine.__init__" s_Machine___init__ f fd) (T : NF.Txt K mg cM) (n_len : mg "len" = none) (n_list : mg "list" = none) (C_check_marks : Cal P w K mg base 2 "check_marks" ["marks"] [] (spP (preMarks K))) (C_check_shares : Cal P w K mg base 6 "check_shares" ["many", "shares"] [] (spP (preShares K))) :
    FnOk P w K mg base CX0 7 f fd ["self", "marks", "shares"] (spIn K cM) := by
  refine F.ok sc_Machine___init__ (fun vs H Q E h => ?_) (fun cdv A outer s H vs Q E0 hr h => ?_)
  · obtain ⟨_, _, _, _, _, _, _, rfl, _⟩ := h
    rfl
  · obtain ⟨x, dx, W, zs, xss, a, b, rfl, rfl, sub, rx, hx, pa, pb, hg, q⟩ := h
    obtain ⟨g1, g2, g3, g4, g5⟩ := id hg
    refine ⟨_, (pss_cons (ps_expr (pe_cal C_check_marks hr (by decide) (by rfl) (pa_cons (pv 1) pa_nil)))
      (pss_cons (ps_expr (pe_cal C_check_shares hr (by decide) (by rfl) (pa_cons (pe_callB call_len_seq (by rfl) n_len PySem.boot_len (pa_cons (pv 1) pa_nil)) (pa_cons (pv 2) pa_nil))))
      (pss_cons (ps_fld (pv 0) (pe_callTy (call_listK (K := K) rfl) (by rfl) n_list PyProof.Rows.boot_list (pa_cons (pv 1) pa_nil)) rfl)
      (pss_one (ps_fld (pv 0) (pe_lc (own := [("row", 3)]) (by rfl) sc_Machine___init__.nd (pi_list (pv 2)) (blkOk_by (own := [("row", 3)]) (N := ["self", "marks", "shares", "row"]) (sc := defScope s_Machine___init__) (by decide +kernel)) (fun _ _ _ _ _ => (pg_name (i := 3) sc_Machine___init__.nd rfl (.inl rfl))) (fun _ _ _ _ _ => pts_nil) (fun _ _ _ _ _ => (pe_callTy (call_listK (K := K) rfl) (by rfl) n_list PyProof.Rows.boot_list (pa_cons (pv 3) pa_nil)))) rfl))))), ?_⟩
    have en : En W (fun _ => False) W (L2.start ["self", "marks", "shares", "row"] [.ref x, a, b]) [.un, .val (txts K zs), .val (rows K xss), .un] := by
      refine ⟨sub, Le.refl W, nofun, nofun, rfl, fun i s hi => ?_, fun i j s t hij h1 h2 o1 o2 => ?_⟩
      · match i, hi with
        | 0, hi =>
          cases hi
          exact ⟨_, rfl, trivial⟩
        | 1, hi =>
          cases hi
          exact ⟨_, rfl, a, rfl, pa⟩
        | 2, hi =>
          cases hi
          exact ⟨_, rfl, b, rfl, pb⟩
        | 3, hi =>
          cases hi
          exact ⟨_, rfl, trivial⟩
        | n + 4, hi => cases hi
      · match i, h1 with
        | 0, h1 => cases h1; cases o1
        | 1, h1 => cases h1; cases o1
        | 2, h1 => cases h1; cases o1
        | 3, h1 => cases h1; cases o1
        | n + 4, h1 => cases h1
    have nb : ∀ {p}, ¬ Bags (L2.start ["self", "marks", "shares", "row"] [.ref x, a, b]) [.un, .val (txts K zs), .val (rows K xss), .un] p := fun {p} ⟨i, h1, _⟩ => by
      match i, h1 with
      | 0, h1 => cases h1
      | 1, h1 => cases h1
      | 2, h1 => cases h1
      | 3, h1 => cases h1
      | n + 4, h1 => cases h1
    have ox : Ow W x := ⟨⟨_, hx, rfl⟩, rx⟩
    refine (E.of (d_call (da_cons (d_var rfl) da_nil) fun Ψ z => ⟨zs, rfl, g1, g2, g3, z⟩) (Ψ := fun _ => True) trivial) W _ W _ en _ fun s v W1 k1 r1 _ => ?_
    refine (E.of (d_call (da_cons (D.is (d_cb (da_cons (d_var rfl) da_nil) cb_len) (by rw [List.length_map])) (da_cons (d_var rfl) da_nil)) fun Ψ z => ⟨xss, zs.length, rfl, g4, g2, g5, z⟩) (Ψ := fun _ => True) trivial) W _ W1 _ (en.go k1) _ fun s v W2 k2 r2 _ => ?_
    have K2 := k1.trans k2
    have en2 := en.go K2
    refine (e_cbL (da_cons (d_var rfl) da_nil) cl_list (Ψ := fun s => s = .own (zs.map str)) rfl) W _ W2 _ en2 _ fun s v W3 k3 r3 hs => ?_
    subst hs
    obtain ⟨W4, p4, vs4, rfl, e4, x4, k4, n4, r4, al4⟩ := settle_own en2 k3 r3
    have hv4 := al_str al4
    subst hv4
    have K4 := K2.trans k4
    have hx4 : W4.h x = some (.ins cM dx []) := K4.le.h _ _ nb hx
    have rx4 : W4.r x = none := (K4.le.w x ox).2
    rw [← e4]
    refine ⟨.ref x, rfl, x, cM, dx, [], rfl, hx4, T.cl, T.nm, by show 0 < 1000; decide, ?_⟩
    -- the mark stands
    have hne : ∀ {p o}, W4.r p = some o → p ≠ x := fun {p o} hp z => by rw [z, rx4] at hp; cases hp
    have k5 : Go (L2.start ["self", "marks", "shares", "row"] [.ref x, a, b]) [.un, .val (txts K zs), .val (rows K xss), .un] ⟨W4.r, upd W4.h x (.ins cM dx [("kept_marks", .ref p4)])⟩ ⟨W4.r, upd W4.h x (.ins cM dx [("kept_marks", .ref p4)])⟩ := ⟨fun p o hp => by
      show upd W4.h x _ p = _
      rw [upd_ne (hne hp)]
      exact K4.sub _ _ hp, Le.refl _, fun p b => absurd b nb⟩
    have en5 : En ⟨W4.r, upd W4.h x (.ins cM dx [("kept_marks", .ref p4)])⟩ (fun _ => False) ⟨W4.r, upd W4.h x (.ins cM dx [("kept_marks", .ref p4)])⟩ (L2.start ["self", "marks", "shares", "row"] [.ref x, a, b]) [.un, .val (txts K zs), .val (rows K xss), .un] := by
      refine ⟨k5.sub, Le.refl _, nofun, nofun, rfl, fun i s hi => ?_, en.ne⟩
      match i, hi with
      | 0, hi =>
        cases hi
        exact ⟨_, rfl, trivial⟩
      | 1, hi =>
        cases hi
        exact ⟨_, rfl, a, rfl, (txts K zs).mono K4.le.r pa⟩
      | 2, hi =>
        cases hi
        exact ⟨_, rfl, b, rfl, (rows K xss).mono K4.le.r pb⟩
      | 3, hi =>
        cases hi
        exact ⟨_, rfl, trivial⟩
      | n + 4, hi => cases hi
    show sFld K (tVar 0) (tLc (iList K (tVar 2)) (gName 3) tYes (tCB (rListS K) (tCons (tVar 3) tNil)) [3]) "kept_shares" { nx := fun x H' => Q V.non H', rt := Q } _ (upd W4.h x (.ins cM dx [("kept_marks", .ref p4)]))
    refine NF.fld_last (K := K) ?_
    show tLc (iList K (tVar 2)) (gName 3) tYes (tCB (rListS K) (tCons (tVar 3) tNil)) [3] _ (upd W4.h x (.ins cM dx [("kept_marks", .ref p4)])) _
    refine (e_copy (j := 3) (d_var (i := 2) rfl) (by omega) rfl (fun _ => rfl) (Ψ := fun s => s = .own (xss.map (rats K))) rfl) _ _ _ _ en5 _ fun s v W6 k6 r6 hs => ?_
    subst hs
    obtain ⟨W7, p7, vs7, rfl, e7, x7, k7, n7, r7, al7⟩ := settle_own en5 k6 r6
    have hx7 : W7.h x = some (.ins cM dx [("kept_marks", .ref p4)]) := k7.le.h _ _ nb upd_same
    have rx7 : W7.r x = none := (k7.le.w x ⟨⟨_, upd_same, rfl⟩, rx4⟩).2
    rw [← e7]
    refine ⟨.ref x, rfl, x, cM, dx, _, rfl, hx7, T.cl, T.ns, by show 1 < 1000; decide, ?_⟩
    have ex8 : Ex W7.r (upd W7.r x (.ins cM dx [("kept_marks", .ref p4), ("kept_shares", .ref p7)])) := Ex.new rx7
    refine q ⟨upd W7.r x (.ins cM dx [("kept_marks", .ref p4), ("kept_shares", .ref p7)]), upd W7.h x (.ins cM dx [("kept_marks", .ref p4), ("kept_shares", .ref p7)])⟩ (fun p o (hp : upd W7.r x (.ins cM dx [("kept_marks", .ref p4), ("kept_shares", .ref p7)]) p = some o) => ?_) ((K4.le.r.trans k7.le.r).trans ex8) (fun p o np hp => ?_) (fun p np hp => ?_) ⟨x, rfl, dx, p4, p7, vs7, upd_same, ex8 _ _ (k7.le.r _ _ r4), ex8 _ _ r7, al_rows (al7.mono ex8)⟩
    · show upd W7.h x (.ins cM dx [("kept_marks", .ref p4), ("kept_shares", .ref p7)]) p = _
      by_cases c : p = x
      · subst c
        rw [upd_same] at hp ⊢
        exact hp
      · rw [upd_ne c] at hp ⊢
        exact k7.sub _ _ hp
    · show upd W7.h x (.ins cM dx [("kept_marks", .ref p4), ("kept_shares", .ref p7)]) p = _
      rw [upd_ne np]
      refine k7.le.h _ _ nb ?_
      show upd W4.h x _ p = _
      rw [upd_ne np]
      exact K4.le.h _ _ nb hp
    · obtain ⟨⟨o, h1, hnt⟩, h2⟩ := K4.le.w p hp
      obtain ⟨⟨o2, h3, hnt2⟩, h4⟩ := k7.le.w p ⟨⟨o, by show upd W4.h x _ p = _; rw [upd_ne np]; exact h1, hnt⟩, h2⟩
      exact ⟨⟨o2, by show upd W7.h x _ p = _; rw [upd_ne np]; exact h3, hnt2⟩, by show upd W7.r x _ p = _; rw [upd_ne np]; exact h4⟩
end
end WL

namespace WL
open PySem PySem.Spec PyProof.Rows L2 Evl NF
abbrev s_is_order : Stmt := topS 39
theorem sc_is_order : FnScope ["many", "thing", "each"] ["many", "thing"] (defScope s_is_order) := ⟨rfl, rfl, rfl, by decide +kernel, rfl, by decide +kernel, by decide +kernel⟩
abbrev s_renamed : Stmt := topS 40
theorem sc_renamed : FnScope ["machine", "order", "marks", "shares", "old", "to"] ["machine", "order"] (defScope s_renamed) := ⟨rfl, rfl, rfl, by decide +kernel, rfl, by decide +kernel, by decide +kernel⟩
theorem getD_at {α : Type} {l : List α} {i : Nat} (d : α) (h : i < l.length) : l[i]? = some (l.getD i d) := by
  rw [List.getD_eq_getElem?_getD, List.getElem?_eq_getElem h]
  rfl
section
variable {P : Program} {w : World} {K : PySem.W.Frag} {mg : Str → Option Value} {base : Heap} {f : Addr} {fd : FuncData} {cM : Addr}
theorem ok_order (F : Fun K "is_order" "is_order" s_is_order f fd) (n_isinstance : mg "isinstance" = none) (n_list : mg "list" = none) (n_all : mg "all" = none) (n_sorted : mg "sorted" = none) (n_range : mg "range" = none) (C_is_whole : Cal P w K mg base 1 "is_whole" ["thing"] [] (spP (preWhole K))) : FnOk P w K mg base CX0 2 f fd ["many", "thing"] (spP (preOrd K)) := by
  refine fnP F sc_is_order (by decide) (fun ss Ψ h => by obtain ⟨_, _, rfl, _⟩ := h; rfl) fun cdv A outer s H Ex0 hr => ⟨_, (pss_cons (ps_if (PW.pt (pw_or (pt_not (pt_val (pe_callB call_isi (by rfl) n_isinstance PyProof.Rows.boot_isinstance (pa_cons (pv 1) (pa_cons (c_ty (n := "list") n_list (by rfl) (by decide +kernel) (by decide)) pa_nil))))) (pw_or1 (pt_not (pt_val (pe_callB (cr_all rfl) (by rfl) n_all PyProof.Rows.boot_all (pa_cons (pe_lc (own := [("each", 2)]) (by rfl) sc_is_order.nd (pi_list (pv 1)) (blkOk_by (own := [("each", 2)]) (N := ["many", "thing", "each"]) (sc := defScope s_is_order) (by decide +kernel)) (fun _ _ _ _ _ => (pg_name (i := 2) sc_is_order.nd rfl (.inl rfl))) (fun _ _ _ _ _ => pts_nil) (fun _ _ _ _ _ => (pe_cal C_is_whole hr (by decide) (by rfl) (pa_cons (pv 2) pa_nil)))) pa_nil))))))) (pss_one (ps_ret pe_bl)) pss_nil)
      (pss_one (ps_ret (pe_cmpR (op_eqD hr.units) (pe_callB cr_sorted (by rfl) n_sorted (by decide +kernel) (pa_cons (pv 1) pa_nil)) (pe_listRg rfl (by rfl) n_list (prg_1 (by rfl) n_range (pv 0))) (nomark _))))), fun ss Ψ h => ?_⟩
  obtain ⟨n, os, rfl, n6, ho, q⟩ := h
  refine g_seq (g_skip (q := True) (t_or0 (t_nT (d_cb (da_cons (d_var rfl) (da_cons d_c da_nil)) cb_isL)) (t_nT (D.tru (b := (List.replicate n true).all id) (d_cb (da_cons (D.of (K := K) (e_lcB (bs := List.replicate n true) (wk_listD (d_var rfl) ⟨by simp [ho.len]; omega, by simp [ho.len], ?_⟩))) da_nil) cb_all) (by simp)))) ?_)
  · rintro i L hi ⟨P, hP, rfl⟩
    obtain ⟨o, h1, rfl⟩ := map_at hP
    refine ⟨rfl, true, ?_, d_call (da_cons (d_var rfl) da_nil) fun Ψ z => ⟨(o : Int), rfl, z⟩⟩
    simp [ho.len] at hi
    simp [hi]
  · have e : (List.range n) = (List.range n) := rfl
    refine g_retD (P := tru (decide (List.range n = List.range n))) (d_op (D.of (K := K) (e_cbL (da_cons (d_var rfl) da_nil) (cl_sortN (by rw [ho.len]; omega) ho.symm (range_sorted n)) .own)) (D.of (K := K) (e_listRg (d_var rfl) (by omega) .own)) ov_eqN) ?_
    rw [decide_eq_true rfl]
    exact q
theorem ok_renamed (F : Fun K "renamed" "renamed" s_renamed f fd) (n_len : mg "len" = none) (L_M : LenO P w K mg base cM 1 (spLen K cM)) (C_check_machine : Cal P w K mg base 1 "check_machine" ["thing"] [] (spP (preCM K cM))) (C_is_order : Cal P w K mg base 2 "is_order" ["many", "thing"] [] (spP (preOrd K))) (K_Machine : CalK P w K mg base 7 "Machine" cM ["self", "marks", "shares"] (spIn K cM))
    (M_marks : CalM P w K mg base cM 1 "marks" ["self"] (spP (preM1 K cM fun zs _ => .own (zs.map str)))) (M_shares : CalM P w K mg base cM 1 "shares" ["self"] (spP (preM1 K cM fun _ xss => .own (xss.map (rats K))))) : FnOk P w K mg base CX0 9 f fd ["machine", "order"] (spP (preRen K cM)) := by
  refine fnP F sc_renamed (by decide) (fun ss Ψ h => by obtain ⟨_, _, _, rfl, _⟩ := h; rfl) fun cdv A outer s H Ex0 hr => ⟨_, (pss_cons (ps_expr (pe_cal C_check_machine hr (by decide) (by rfl) (pa_cons (pv 0) pa_nil)))
      (pss_cons (ps_if (pt_not (pt_val (pe_cal C_is_order hr (by decide) (by rfl) (pa_cons (pe_callB (call_lenO L_M hr (by decide)) (by rfl) n_len PySem.boot_len (pa_cons (pv 0) pa_nil)) (pa_cons (pv 1) pa_nil))))) (pss_one ps_never) pss_nil)
      (pss_cons (ps_set (i := 2) sc_renamed.nd rfl (.inr rfl) (pe_calM0 M_marks hr (by decide) (pv 0)))
      (pss_cons (ps_set (i := 3) sc_renamed.nd rfl (.inr rfl) (pe_calM0 M_shares hr (by decide) (pv 0)))
      (pss_one (ps_ret (pe_calK K_Machine hr (by decide) (by rfl) (pa_cons (pe_lc (own := [("old", 4)]) (by rfl) sc_renamed.nd (pi_list (pv 1)) (blkOk_by (own := [("old", 4)]) (N := ["machine", "order", "marks", "shares", "old", "to"]) (sc := defScope s_renamed) (by decide +kernel)) (fun _ _ _ _ _ => (pg_name (i := 4) sc_renamed.nd rfl (.inl rfl))) (fun _ _ _ _ _ => pts_nil) (fun _ _ _ _ _ => (pe_ix (ix_listK (K := K) rfl) (pv 2) (pv 4) (fun _ _ => rfl)))) (pa_cons (pe_lc (own := [("old", 4)]) (by rfl) sc_renamed.nd (pi_list (pv 1)) (blkOk_by (own := [("old", 4)]) (N := ["machine", "order", "marks", "shares", "old", "to"]) (sc := defScope s_renamed) (by decide +kernel)) (fun _ _ _ _ _ => (pg_name (i := 4) sc_renamed.nd rfl (.inr rfl))) (fun _ _ _ _ _ => pts_nil) (fun _ _ _ _ _ => (pe_lc (own := [("to", 5)]) (by rfl) sc_renamed.nd (pi_listK (K := K) rfl (pv 1)) (blkOk_by (own := [("to", 5)]) (N := ["machine", "order", "marks", "shares", "old", "to"]) (by rfl)) (fun _ _ _ _ _ => (pg_name (i := 5) sc_renamed.nd rfl (.inl rfl))) (fun _ _ _ _ _ => pts_nil) (fun _ _ _ _ _ => (pe_ix (ix_listK (K := K) rfl) (pe_ix (ix_listK (K := K) rfl) (pv 3) (pv 4) (fun _ _ => rfl)) (pv 5) (fun _ _ => rfl)))))) pa_nil))))))))), fun ss Ψ h => ?_⟩
  obtain ⟨zs, xss, os, rfl, hg, ho, q⟩ := h
  obtain ⟨g1, g2, g3, g4, g5⟩ := id hg
  refine g_seq (g_drop (E.of (d_call (da_cons (d_var rfl) da_nil) fun Ψ z => ⟨zs, xss, rfl, z⟩) ?_))
  refine g_seq (g_skip (q := True) (t_nT (d_call (da_cons (d_lenM (d_var rfl) g2) (da_cons (d_var rfl) da_nil)) fun Ψ z => ⟨zs.length, os, rfl, g2, ho, z⟩)) ?_)
  refine g_seq (g_asg (e_meth (d_var rfl) ⟨by decide, by decide⟩ (ea_nil ⟨rfl, zs, xss, rfl, hg, ?_⟩)))
  refine g_set (K := K) (i := 2) rfl ?_
  refine g_seq (g_asg (e_meth (d_var rfl) ⟨by decide, by decide⟩ (ea_nil ⟨rfl, zs, xss, rfl, hg, ?_⟩)))
  refine g_set (K := K) (i := 3) rfl ?_
  have lo : os.length ≤ 6 := by rw [ho.len]; omega
  refine g_ret (e_make (K := K) (ea_cons (K := K) (e_lcM (K := K) (f := str) (xs := renZ zs os) (wk_listD (K := K) (Ps := os.map fun o : Nat => int (o : Int)) (d_var rfl) ⟨by simp; omega, by simp [renZ], ?_, _, .own, ea_cons (K := K) (e_lcM (K := K) (f := rats K) (xs := renX xss os) (wk_listD (K := K) (Ps := os.map fun o : Nat => int (o : Int)) (d_var rfl) ⟨by simp; omega, by simp [renX], ?_, _, .own, ea_nil ⟨_, _, rfl, good_ren hg ho, q⟩⟩))⟩))))
  · rintro i L hi ⟨P, hP, rfl⟩
    obtain ⟨o, h1, rfl⟩ := map_at hP
    refine ⟨rfl, zs.getD o Str.empty, by simp [renZ, h1], E.set (d_op (d_var rfl) (d_var rfl) (ov_ixL (at_map (getD_at _ (ho.lt (List.mem_of_getElem? h1))))))⟩
  · rintro i L hi ⟨P, hP, rfl⟩
    obtain ⟨o, h1, rfl⟩ := map_at hP
    have hlt := ho.lt (List.mem_of_getElem? h1)
    refine ⟨rfl, os.map fun to => (xss.getD o []).getD to 0, by simp [renX, h1], ?_⟩
    refine e_lcM (K := K) (f := rat K) (xs := os.map fun to => (xss.getD o []).getD to 0) (wk_listD (K := K) (Ps := os.map fun o : Nat => int (o : Int)) (d_var rfl) ⟨by simp; omega, by simp, ?_, .own⟩)
    rintro j L2 hj ⟨P2, hP2, rfl⟩
    obtain ⟨o2, h2, rfl⟩ := map_at hP2
    have hlt2 := ho.lt (List.mem_of_getElem? h2)
    have hrow : (xss.getD o []).length = zs.length := (g5 _ (getD_mem (by omega))).1
    exact ⟨rfl, (xss.getD o []).getD o2 0, by simp [h2], E.set (d_op (d_op (d_var rfl) (d_var rfl) (ov_ixL (at_map (getD_at [] (by omega))))) (d_var rfl) (ov_ixL (at_map (getD_at 0 (by omega)))))⟩
end
end WL

namespace WL
open PySem PySem.Spec PyProof.Rows L2 Evl NF
abbrev s_reached : Stmt := topS 38
theorem sc_reached : FnScope ["machine", "room", "shares", "found", "looked_at", "row", "to", "share"] ["machine", "room"] (defScope s_reached) := ⟨rfl, rfl, rfl, by decide +kernel, rfl, by decide +kernel, by decide +kernel⟩
theorem nodup_le : ∀ {n : Nat} {os : List Nat}, os.Nodup → (∀ o ∈ os, o < n) → os.length ≤ n
  | 0, [], _, _ => Nat.le_refl 0
  | 0, o :: os, _, h => absurd (h o (List.mem_cons_self ..)) (Nat.not_lt_zero o)
  | n + 1, os, hn, h => by
    by_cases c : n ∈ os
    · have h1 := nodup_le (n := n) (hn.erase n) fun o ho => by
        have := (hn.mem_erase_iff (a := o) (b := n)).mp ho
        have := h o this.2
        omega
      rw [List.length_erase_of_mem c] at h1
      omega
    · have := nodup_le (n := n) hn fun o ho => by
        have h1 := h o ho
        have : o ≠ n := fun z => c (z ▸ ho)
        omega
      omega
theorem num_pos {x : Rat} : 0 < x.num ↔ 0 < x := by
  rw [lt_rt]
  have e1 : (0 : Rat).num = 0 := rfl
  have e2 : (0 : Rat).den = 1 := rfl
  rw [e1, e2]
  omega
theorem sortN (os : List Nat) : ∃ ps : List Nat, ps.Perm os ∧ ps.Pairwise (· ≤ ·) := by
  refine ⟨os.mergeSort fun a b => decide (a ≤ b), List.mergeSort_perm _ _, ?_⟩
  have := List.pairwise_mergeSort (le := fun a b : Nat => decide (a ≤ b)) (fun a b c h1 h2 => by simp at *; omega) (fun a b => by simp; omega) os
  exact this.imp fun h => by simpa using h
section
variable {P : Program} {w : World} {K : PySem.W.Frag} {mg : Str → Option Value} {base : Heap} {f : Addr} {fd : FuncData} {cM : Addr}
theorem ok_reached (F : Fun K "reached" "reached" s_reached f fd) (n_len : mg "len" = none) (n_sorted : mg "sorted" = none) (n_enumerate : mg "enumerate" = none) (C_check_machine : Cal P w K mg base 1 "check_machine" ["thing"] [] (spP (preCM K cM))) (C_check_room : Cal P w K mg base 3 "check_room" ["machine", "room"] [] (spP (preCR K cM)))
    (M_shares : CalM P w K mg base cM 1 "shares" ["self"] (spP (preM1 K cM fun _ xss => .own (xss.map (rats K))))) : FnOk P w K mg base CX0 4 f fd ["machine", "room"] (spP (preReach K cM)) := by
  refine fnP F sc_reached (by decide) (fun ss Ψ h => by obtain ⟨_, _, _, rfl, _⟩ := h; rfl) fun cdv A outer s H Ex0 hr => ⟨_, (pss_cons (ps_expr (pe_cal C_check_machine hr (by decide) (by rfl) (pa_cons (pv 0) pa_nil)))
      (pss_cons (ps_expr (pe_cal C_check_room hr (by decide) (by rfl) (pa_cons (pv 0) (pa_cons (pv 1) pa_nil))))
      (pss_cons (ps_set (i := 2) sc_reached.nd rfl (.inl rfl) (pe_calM0 M_shares hr (by decide) (pv 0)))
      (pss_cons (ps_set (i := 3) sc_reached.nd rfl (.inl rfl) (pe_lst (pa_cons (pv 1) pa_nil)))
      (pss_cons (ps_set (i := 4) sc_reached.nd rfl (.inl rfl) pe_int)
      (pss_cons (ps_while PassesOwn.never (pt_cmpR op_lt (pv 4) (pe_callB call_len_seq (by rfl) n_len PySem.boot_len (pa_cons (pv 3) pa_nil)) (nomark _)) (pss_cons (ps_set (i := 5) sc_reached.nd rfl (.inl rfl) (pe_ix ix_list (pv 2) (pe_ix ix_list (pv 3) (pv 4) (fun _ _ => rfl)) (fun _ _ => rfl)))
      (pss_cons (ps_for PassesOwn.never rfl (pi_enum (by rfl) n_enumerate (pa_cons (pv 5) pa_nil)) (pg_tup rfl (pgs_cons (pg_name (i := 6) sc_reached.nd rfl (.inl rfl)) (pgs_cons (pg_name (i := 7) sc_reached.nd rfl (.inl rfl)) pgs_nil))) (pss_one (ps_if (PW.pt (pw_and (pt_cmpR op_gt (pe_ix ix_tup (pv 7) pe_int (fun _ _ => rfl)) pe_int (nomark _)) (pw_and1 (pt_cmpR op_notIn_seq (pv 6) (pv 3) (by rfl))))) (pss_one (ps_expr (pe_bm PySem.F.plainAttrs_list PySem.F.slot_list_append PySem.F.type_list_append mt_append (pv 3) (pa_cons (pv 6) pa_nil)))) pss_nil)))
      (pss_one (ps_aug (i := 4) sc_reached.nd rfl (.inl rfl) pe_int ip_add)))))
      (pss_one (ps_ret (pe_callB cr_sorted (by rfl) n_sorted (by decide +kernel) (pa_cons (pv 3) pa_nil)))))))))), fun ss Ψ h => ?_⟩
  obtain ⟨zs, xss, r, rfl, hg, hr', q⟩ := h
  obtain ⟨g1, g2, g3, g4, g5⟩ := id hg
  refine g_seq (g_drop (E.of (d_call (da_cons (d_var rfl) da_nil) fun Ψ z => ⟨zs, xss, rfl, z⟩) ?_))
  refine g_seq (g_drop (E.of (d_call (da_cons (d_var rfl) (da_cons (d_var rfl) da_nil)) fun Ψ z => ⟨zs, xss, r, rfl, g2, hr', z⟩) ?_))
  refine g_seq (g_asg (e_meth (d_var rfl) ⟨by decide, by decide⟩ (ea_nil ⟨rfl, zs, xss, rfl, hg, ?_⟩)))
  refine g_set (K := K) (i := 2) rfl ?_
  refine g_seq (g_asg (e_lstD (da_cons (d_var rfl) da_nil) ?_))
  refine g_seq (g_asgD d_c ?_)
  refine g_seq (g_while (fun m ρ' => ∃ (os : List Nat) (k : Nat) (y5 y6 y7 : Sl), ρ' = [.val (mach K cM zs xss), .val (int (r : Int)), .val (rows K xss), .own (os.map fun o : Nat => int (o : Int)), .val (int (k : Int)), y5, y6, y7] ∧ m = zs.length + 1 - k ∧ k ≤ os.length ∧ os.Nodup ∧ (∀ o ∈ os, Come xss r o ∧ o < zs.length) ∧ r ∈ os ∧ ∀ a ∈ os.take k, ∀ b, 0 < (xss.getD a []).getD b 0 → b ∈ os) _ ⟨[r], 0, .un, .un, .un, rfl, rfl, by simp, by simp, fun o ho => by rw [List.mem_singleton.mp ho]; exact ⟨.here, hr'⟩, by simp, by simp⟩ ?_)
  rintro m ρ' ⟨os, k, y5, y6, y7, rfl, rfl, hk, nd, hc, hrm, hcl⟩
  have ln : os.length ≤ zs.length := nodup_le nd fun o ho => (hc o ho).2
  refine T.of (b := decide ((k : Int) < (os.length : Int))) (d_op (d_var rfl) (D.is (own_len (K := K) rfl) (by rw [List.length_map])) ov_i0) ?_
  by_cases hlt : k < os.length
  · rw [decide_eq_true (show (k : Int) < (os.length : Int) by omega), if_pos rfl]
    have hka : os[k]? = some os[k] := List.getElem?_eq_getElem hlt
    have ham : os[k] ∈ os := List.getElem_mem hlt
    generalize hav : os[k] = a at hka ham
    obtain ⟨ca, la⟩ := hc a ham
    have hrow : (xss.getD a []).length = zs.length := (g5 _ (getD_mem (by omega))).1
    refine g_seq (g_asgD (d_op (d_var rfl) (own_at (K := K) rfl (d_var rfl) (at_map hka)) (ov_ixL (at_map (getD_at [] (by omega))))) ?_)
    refine g_seq (g_for (wk_enum (K := K) (d_var rfl) ⟨fun j ρ' => ∃ (new : List Nat) (y6 y7 : Sl), ρ' = [.val (mach K cM zs xss), .val (int (r : Int)), .val (rows K xss), .own ((os ++ new).map fun o : Nat => int (o : Int)), .val (int (k : Int)), .val (rats K (xss.getD a [])), y6, y7] ∧ (os ++ new).Nodup ∧ (∀ o ∈ os ++ new, Come xss r o ∧ o < zs.length) ∧ ∀ b, b < j → 0 < (xss.getD a []).getD b 0 → b ∈ os ++ new, ?_, ?_, ?_⟩))
    · exact ⟨[], y6, y7, by rw [List.append_nil]; rfl, by simpa using nd, by simpa using hc, nofun⟩
    · rintro j L ρ' hj ⟨P, hP, rfl⟩ ⟨new, y6, y7, rfl, nd', hc', hcl'⟩
      obtain ⟨x, hx, rfl⟩ := map_at hP
      have hxd : (xss.getD a []).getD j 0 = x := by rw [List.getD_eq_getElem?_getD, hx]; rfl
      have hjn : j < zs.length := by
        have := (List.getElem?_eq_some_iff.mp hx).1
        omega
      refine ⟨rfl, ?_⟩
      refine g_when (b := decide (x.num > 0) && (!decide (j ∈ os ++ new))) (t_and2 (T.is (d_op (d_op (d_var rfl) d_c ov_r0) d_c ov_i0)) fun _ => T.is (own_inN (K := K) (neg := true) (d_var rfl) rfl)) (fun hb => ?_) fun hb => ?_
      · rw [Bool.and_eq_true, decide_eq_true_eq, Bool.not_eq_true', decide_eq_false_iff_not] at hb
        have hpos : 0 < x := num_pos.mp hb.1
        refine g_appD (K := K) rfl (d_var rfl) (by have := nodup_le nd' fun o ho => (hc' o ho).2; simp at this ⊢; omega) ?_
        rw [show ((os ++ new).map fun o : Nat => int (o : Int)) ++ [int (j : Int)] = (os ++ (new ++ [j])).map fun o : Nat => int (o : Int) by simp]
        refine ⟨new ++ [j], _, _, rfl, ?_, fun o ho => ?_, fun b hb' hp => ?_⟩
        · rw [← List.append_assoc, List.nodup_append]
          exact ⟨nd', by simp, fun a ha b hb' z => by rw [List.mem_singleton.mp hb'] at z; exact hb.2 (z ▸ ha)⟩
        · rw [← List.append_assoc] at ho
          rcases List.mem_append.mp ho with ho | ho
          · exact hc' o ho
          · rw [List.mem_singleton.mp ho]
            exact ⟨.step ca (by rw [hxd]; exact hpos), hjn⟩
        · rw [← List.append_assoc]
          by_cases c : b = j
          · rw [c]
            simp
          · exact List.mem_append_left _ (hcl' b (by omega) hp)
      · refine ⟨new, _, _, rfl, nd', hc', fun b hb' hp => ?_⟩
        by_cases c : b = j
        · subst c
          rw [hxd] at hp
          have hn : x.num > 0 := num_pos.mpr hp
          rw [decide_eq_true hn, Bool.true_and, Bool.not_eq_false', decide_eq_true_eq] at hb
          exact hb
        · exact hcl' b (by omega) hp
    · rintro ρ' ⟨new, y6, y7, rfl, nd', hc', hcl'⟩
      rw [List.length_map] at hcl'
      refine g_aug rfl d_c ?_
      refine ⟨_, by have := ln; omega, os ++ new, k + 1, _, _, _, rfl, rfl, by rw [List.length_append]; omega, nd', hc', List.mem_append_left _ hrm, fun a' ha' b hp => ?_⟩
      rw [List.take_append_of_le_length (by omega), List.take_add_one, hka] at ha'
      rcases List.mem_append.mp ha' with h | h
      · exact List.mem_append_left _ (hcl a' h b hp)
      · have e : a' = a := by simpa using h
        subst e
        refine hcl' b ?_ hp
        apply Classical.byContradiction
        intro c
        rw [List.getD_eq_getElem?_getD, List.getElem?_eq_none (by omega)] at hp
        exact absurd hp (by decide)
  · rw [decide_eq_false (show ¬ (k : Int) < (os.length : Int) by omega), if_neg (by decide)]
    have ek : k = os.length := by omega
    subst ek
    rw [List.take_length] at hcl
    obtain ⟨ps, pp, pw⟩ := sortN os
    refine g_ret (own_sortN (K := K) rfl (by omega) pp pw (q ps ?_ (fun o => ⟨fun h => (hc o (pp.mem_iff.mp h)).1, fun h => pp.mem_iff.mpr ?_⟩) fun o h => (hc o (pp.mem_iff.mp h)).2))
    · have nd2 : ps.Nodup := pp.nodup_iff.mpr nd
      exact (List.Pairwise.and pw nd2).imp fun h => by omega
    · induction h with
      | here => exact hrm
      | step _ hp ih => exact hcl _ ih _ hp
end
end WL

namespace WL
open NF
/-! ### walks: two one behind the other; where they come to; renamed -/
theorem walk_get {xss : List (List Rat)} {r k t : Nat} (ht : t < xss.length) : (walk xss r (k + 1)).getD t 0 = Su xss.length fun h => (walk xss r k).getD h 0 * (xss.getD h []).getD t 0 := by
  show ((List.range xss.length).map (dot xss (walk xss r k))).getD t 0 = _
  rw [List.getD_eq_getElem?_getD, List.getElem?_map, List.getElem?_range ht]
  rfl
theorem walk_out {xss : List (List Rat)} {r k t : Nat} (ht : ¬ t < xss.length) : (walk xss r k).getD t 0 = 0 := by
  rw [List.getD_eq_getElem?_getD, List.getElem?_eq_none (by rw [walk_len]; omega)]
  rfl
theorem su_zero' : ∀ n, Su n (fun _ => (0 : Rat)) = 0
  | 0 => rfl
  | n + 1 => by rw [su_succ, su_zero' n]; grind
theorem su_unit (f : Nat → Rat) (r : Nat) : ∀ n, Su n (fun i => (if i = r then 1 else 0) * f i) = if r < n then f r else 0
  | 0 => rfl
  | n + 1 => by
    rw [su_succ, su_unit f r n]
    by_cases h1 : r < n
    · rw [if_pos h1, if_neg (show n ≠ r by omega), if_pos (by omega)]
      grind
    · rw [if_neg h1]
      by_cases h2 : n = r
      · subst h2
        rw [if_pos rfl, if_pos (by omega)]
        grind
      · rw [if_neg h2, if_neg (by omega)]
        grind
theorem unit_get {n r i : Nat} (h : i < n) : (NF.unit n r).getD i 0 = if i = r then 1 else 0 := by
  unfold NF.unit
  rw [List.getD_eq_getElem?_getD, List.getElem?_map, List.getElem?_range h]
  rfl
/-- behind a and b steps -/
theorem walk_add {xss : List (List Rat)} {r a : Nat} : ∀ (b : Nat) {t : Nat}, t < xss.length → (walk xss r (a + b)).getD t 0 = Su xss.length fun h => (walk xss r a).getD h 0 * (walk xss h b).getD t 0
  | 0, t, ht => by
    show (walk xss r a).getD t 0 = _
    have e : (Su xss.length fun h => (walk xss r a).getD h 0 * (walk xss h 0).getD t 0) = Su xss.length fun h => (if h = t then 1 else 0) * (walk xss r a).getD h 0 := su_congr fun h hh => by
      show _ * (NF.unit xss.length h).getD t 0 = _
      rw [unit_get ht]
      by_cases c : t = h
      · subst c
        rw [if_pos rfl]
        grind
      · rw [if_neg c, if_neg (fun z => c z.symm)]
        grind
    rw [e, su_unit, if_pos ht]
  | b + 1, t, ht => by
    rw [show a + (b + 1) = (a + b) + 1 by omega, walk_get ht]
    have e1 : (Su xss.length fun h => (walk xss r (a + b)).getD h 0 * (xss.getD h []).getD t 0) = Su xss.length fun h => Su xss.length fun g => (walk xss r a).getD g 0 * (walk xss g b).getD h 0 * (xss.getD h []).getD t 0 := su_congr fun h hh => by
      rw [walk_add b hh]
      have := su_mul ((xss.getD h []).getD t 0) (fun g => (walk xss r a).getD g 0 * (walk xss g b).getD h 0) xss.length
      rw [show (Su xss.length fun g => (walk xss r a).getD g 0 * (walk xss g b).getD h 0) * (xss.getD h []).getD t 0 = (xss.getD h []).getD t 0 * Su xss.length fun g => (walk xss r a).getD g 0 * (walk xss g b).getD h 0 by grind, ← this]
      exact su_congr fun g _ => by grind
    rw [e1, su_swap (fun g h => (walk xss r a).getD g 0 * (walk xss g b).getD h 0 * (xss.getD h []).getD t 0)]
    refine su_congr fun g hg => ?_
    rw [walk_get ht, ← su_mul]
    exact su_congr fun h _ => by grind
/-- above nought only where one comes to -/
theorem su_nz {f : Nat → Rat} : ∀ {n : Nat}, Su n f ≠ 0 → ∃ i, i < n ∧ f i ≠ 0
  | 0, h => absurd rfl h
  | n + 1, h => by
    rw [su_succ] at h
    by_cases c : f n = 0
    · rw [c] at h
      obtain ⟨i, hi, hf⟩ := su_nz (n := n) (f := f) (by intro z; rw [z] at h; exact h (by grind))
      exact ⟨i, by omega, hf⟩
    · exact ⟨n, by omega, c⟩
theorem walk_come {xss : List (List Rat)} {r : Nat} (hs : ∀ xs ∈ xss, ∀ x ∈ xs, 0 ≤ x) : ∀ (k : Nat) {t : Nat}, (walk xss r k).getD t 0 ≠ 0 → Come xss r t
  | 0, t, h => by
    by_cases ht : t < xss.length
    · have e : (walk xss r 0).getD t 0 = if t = r then 1 else 0 := unit_get ht
      rw [e] at h
      by_cases c : t = r
      · subst c
        exact .here
      · rw [if_neg c] at h
        exact absurd rfl h
    · exact absurd (walk_out ht) h
  | k + 1, t, h => by
    by_cases ht : t < xss.length
    · rw [walk_get ht] at h
      obtain ⟨g, hg, hf⟩ := su_nz h
      have h1 : (walk xss r k).getD g 0 ≠ 0 := fun z => hf (by rw [z]; grind)
      have h2 : (xss.getD g []).getD t 0 ≠ 0 := fun z => hf (by rw [z]; grind)
      have h3 : 0 ≤ (xss.getD g []).getD t 0 := getD_row (P := fun c => 0 ≤ c) (by decide) hs g t
      exact .step (walk_come hs k h1) (by grind)
    · exact absurd (walk_out ht) h
/-- renamed -/
theorem ren_at {xss : List (List Rat)} {os : List Nat} {i j a b : Nat} (hi : os[i]? = some a) (hj : os[j]? = some b) : ((renX xss os).getD i []).getD j 0 = (xss.getD a []).getD b 0 := by
  unfold renX
  rw [List.getD_eq_getElem?_getD (l := os.map _), List.getElem?_map, hi]
  show (os.map fun to => (xss.getD a []).getD to 0).getD j 0 = _
  rw [List.getD_eq_getElem?_getD, List.getElem?_map, hj]
  rfl
theorem su_perm {os : List Nat} {n : Nat} (h : Order n os) (f : Nat → Rat) : (Su n fun i => f (os.getD i 0)) = Su n f := by
  unfold Su
  have e : (List.range n).map (fun i => f (os.getD i 0)) = os.map f := by
    have := map_range_getD os 0
    rw [h.len] at this
    conv => rhs; rw [← this]
    rw [List.map_map]
    rfl
  rw [e]
  exact sum_perm (h.map f)
theorem walk_ren {xss : List (List Rat)} {os : List Nat} {i a : Nat} (ho : Order xss.length os) (hi : os[i]? = some a) : ∀ k, walk (renX xss os) i k = os.map fun o => (walk xss a k).getD o 0
  | 0 => by
    show NF.unit (renX xss os).length i = _
    have l : (renX xss os).length = os.length := by unfold renX; rw [List.length_map]
    apply List.ext_getElem?
    intro j
    rw [List.getElem?_map]
    by_cases hj : j < os.length
    · have ej : os[j]? = some os[j] := List.getElem?_eq_getElem hj
      have hb := ho.lt (List.getElem_mem hj)
      have hu : (NF.unit (renX xss os).length i)[j]? = some (if j = i then 1 else 0) := by
        unfold NF.unit
        rw [List.getElem?_map, List.getElem?_range (by omega)]
        rfl
      rw [hu, ej]
      show some _ = some ((NF.unit xss.length a).getD os[j] 0)
      rw [unit_get hb]
      congr 1
      have hi' : i < os.length := (List.getElem?_eq_some_iff.mp hi).1
      have ea : os[i] = a := (List.getElem?_eq_some_iff.mp hi).2
      by_cases c : j = i
      · subst c
        rw [if_pos rfl, if_pos ea]
      · rw [if_neg c, if_neg]
        intro z
        rw [← ea] at z
        exact c ((List.getElem_inj ho.nodup).mp z)
    · rw [List.getElem?_eq_none (by unfold NF.unit; rw [List.length_map, List.length_range, l]; omega), List.getElem?_eq_none (by omega)]
      rfl
  | k + 1 => by
    have l : (renX xss os).length = xss.length := by unfold renX; rw [List.length_map, ho.len]
    have lo := ho.len
    apply List.ext_getElem?
    intro j
    rw [List.getElem?_map]
    by_cases hj : j < os.length
    · have ej : os[j]? = some os[j] := List.getElem?_eq_getElem hj
      have hb := ho.lt (List.getElem_mem hj)
      have h1 : (walk (renX xss os) i (k + 1))[j]? = some ((walk (renX xss os) i (k + 1)).getD j 0) := by
        rw [List.getD_eq_getElem?_getD, List.getElem?_eq_getElem (by rw [walk_len, l]; omega)]
        rfl
      rw [h1, ej]
      show some _ = some ((walk xss a (k + 1)).getD os[j] 0)
      congr 1
      rw [walk_get (by omega), walk_get hb, l, walk_ren ho hi k]
      rw [← su_perm ho fun g => (walk xss a k).getD g 0 * (xss.getD g []).getD os[j] 0]
      refine su_congr fun g hg => ?_
      have eg : os[g]? = some (os.getD g 0) := by
        rw [List.getD_eq_getElem?_getD, List.getElem?_eq_getElem (by omega)]
        rfl
      rw [ren_at eg ej]
      congr 1
      rw [List.getD_eq_getElem?_getD (l := os.map _), List.getElem?_map, eg]
      rfl
    · rw [List.getElem?_eq_none (by rw [walk_len, l]; omega), List.getElem?_eq_none (by omega)]
      rfl
theorem come_ren {xss : List (List Rat)} {os : List Nat} {i a : Nat} (ho : Order xss.length os) (hw : ∀ xs ∈ xss, xs.length = xss.length) (hi : os[i]? = some a) {j : Nat} (hc : Come (renX xss os) i j) : ∃ b, os[j]? = some b ∧ Come xss a b := by
  induction hc with
  | here => exact ⟨a, hi, .here⟩
  | @step c d _ hp ih =>
    obtain ⟨b, hb, cb⟩ := ih
    have hd : d < os.length := by
      apply Classical.byContradiction
      intro n
      have : ((renX xss os).getD c []).getD d 0 = 0 := by
        unfold renX
        rw [List.getD_eq_getElem?_getD (l := os.map _), List.getElem?_map, hb]
        show (os.map fun to => (xss.getD b []).getD to 0).getD d 0 = 0
        rw [List.getD_eq_getElem?_getD, List.getElem?_eq_none (by rw [List.length_map]; omega)]
        rfl
      rw [this] at hp
      exact absurd hp (by decide)
    have ed : os[d]? = some os[d] := List.getElem?_eq_getElem hd
    rw [ren_at hb ed] at hp
    exact ⟨_, ed, .step cb hp⟩
theorem come_back {xss : List (List Rat)} {os : List Nat} {i a : Nat} (ho : Order xss.length os) (hw : ∀ xs ∈ xss, xs.length = xss.length) (hi : os[i]? = some a) {b : Nat} (hc : Come xss a b) : ∃ j, os[j]? = some b ∧ Come (renX xss os) i j := by
  induction hc with
  | here => exact ⟨i, hi, .here⟩
  | @step c d _ hp ih =>
    obtain ⟨j, hj, cj⟩ := ih
    have hd : d < xss.length := by
      apply Classical.byContradiction
      intro n
      have hl : (xss.getD c []).length ≤ xss.length := by
        by_cases hcl : c < xss.length
        · rw [hw _ (getD_mem hcl)]
          exact Nat.le_refl _
        · rw [List.getD_eq_getElem?_getD, List.getElem?_eq_none (by omega)]
          exact Nat.zero_le _
      rw [List.getD_eq_getElem?_getD, List.getElem?_eq_none (by omega)] at hp
      exact absurd hp (by decide)
    obtain ⟨m, hm⟩ := List.mem_iff_getElem?.mp (ho.all hd)
    refine ⟨m, hm, .step cj ?_⟩
    rw [ren_at hj hm]
    exact hp
theorem ml_self (x : Rat) : Ml x.den x := by
  have h := ml_div x.num (b := x.den) (by have := x.den_nz; omega)
  rw [Rat.num_divInt_den] at h
  exact h
theorem ex_ml : ∀ (xs : List Rat), ∃ d : Nat, 0 < d ∧ ∀ x ∈ xs, Ml d x
  | [] => ⟨1, by decide, nofun⟩
  | x :: xs => by
    obtain ⟨d, d0, hd⟩ := ex_ml xs
    have hx := x.den_nz
    refine ⟨x.den * d, Nat.mul_pos (by omega) d0, fun y hy => ?_⟩
    rcases List.mem_cons.mp hy with rfl | hy
    · exact (ml_self y).up ⟨d, rfl⟩
    · exact (hd y hy).up ⟨x.den, Nat.mul_comm ..⟩
theorem walk_pos {xss : List (List Rat)} {r : Nat} (hs : ∀ xs ∈ xss, Shs xs xss.length) (hr : r < xss.length) (k : Nat) : sumF 0 (walk xss r k) = 1 ∧ ∀ c ∈ walk xss r k, 0 ≤ c := by
  obtain ⟨N, _, hN⟩ := ex_ml xss.flatten
  obtain ⟨h1, h2⟩ := walk_ok (N := N) hs (fun xs hx x h => hN x (List.mem_flatten.mpr ⟨xs, hx, h⟩)) hr k
  exact ⟨h1, fun c hc => (h2 c hc).1⟩
end WL

namespace WL
open PySem PySem.Spec PyProof.Rows L2 Evl NF
abbrev s__law_sum : Stmt := topS 47
theorem sc__law_sum : FnScope ["_law_some", "_law_found", "_law_one"] ["_law_some"] (defScope s__law_sum) := ⟨rfl, rfl, rfl, by decide +kernel, rfl, by decide +kernel, by decide +kernel⟩
abbrev s__law_right : Stmt := topS 52
theorem sc__law_right : FnScope ["_law_machine", "_law_room", "_law_one", "_law_other", "_law_ahead", "_law_later", "_law_here", "_law_both", "_law_there", "_law_some"] ["_law_machine", "_law_room", "_law_one", "_law_other"] (defScope s__law_right) := ⟨rfl, rfl, rfl, by decide +kernel, rfl, by decide +kernel, by decide +kernel⟩
def preRight (K : PySem.W.Frag) (C : Addr) (ss : List Sl) (Ψ : Sl → Prop) : Prop := ∃ (zs : List Str) (xss : List (List Rat)) (r a b : Nat), ss = [.val (mach K C zs xss), .val (int (r : Int)), .val (int (a : Int)), .val (int (b : Int))] ∧ Good zs xss ∧ r < zs.length ∧ a + b ≤ 12 ∧ (∀ r', r' < zs.length → ∀ j, j ≤ a + b → ∀ c ∈ walk xss r' j, Sz 245 c) ∧ Ψ (.val (tru true))
section
variable {P : Program} {w : World} {K : PySem.W.Frag} {mg : Str → Option Value} {base : Heap} {f : Addr} {fd : FuncData} {cM : Addr}
theorem ok_sum (F : Fun K "_law_sum" "_law_sum" s__law_sum f fd) (C__law_add : Cal P w K mg base 2 "_law_add" ["_law_one", "_law_other"] [] (spP (pre2 K (fun _ _ => True) (· + ·)))) : FnOk P w K mg base CX0 3 f fd ["_law_some"] (spP (preSum K)) := by
  refine fnP F sc__law_sum (by decide) (fun ss Ψ h => by obtain ⟨_, _, rfl, _⟩ := h; rfl) fun cdv A outer s H Ex0 hr => ⟨_, (pss_cons (ps_set (i := 1) sc__law_sum.nd rfl (.inl rfl) (pe_tup (pa_cons pe_int (pa_cons pe_int pa_nil))))
      (pss_cons (ps_for PassesOwn.never rfl (pi_list (pv 0)) (pg_name (i := 2) sc__law_sum.nd rfl (.inl rfl)) (pss_one (ps_set (i := 1) sc__law_sum.nd rfl (.inl rfl) (pe_cal C__law_add hr (by decide) (by rfl) (pa_cons (pv 1) (pa_cons (pv 2) pa_nil))))))
      (pss_one (ps_ret (pv 1))))), fun ss Ψ h => ?_⟩
  obtain ⟨xs, B, rfl, hs, B0, hB, q⟩ := h
  refine g_seq (g_asgD (d_pair (K := K) (x := 0) d_c d_c rfl rfl) ?_)
  refine g_seq (g_for (wk_listD (K := K) (d_var rfl) ⟨fun i ρ' => ∃ y2 : Sl, ρ' = [.val (rats K xs), .val (rat K (sumF 0 (xs.take i))), y2], ⟨.un, rfl⟩, ?_, ?_⟩))
  · rintro i L ρ' hi ⟨P, hP, rfl⟩ ⟨y2, rfl⟩
    obtain ⟨x, hx, rfl⟩ := map_at hP
    rw [List.length_map] at hi
    have hb1 : (i + 1) * (B + 1) ≤ (xs.length + 2) * (B + 1) := Nat.mul_le_mul_right _ (by omega)
    have hb2 : B + 1 ≤ (i + 1) * (B + 1) := Nat.le_mul_of_pos_left _ (by omega)
    have h0 : Sz B 0 := ⟨Nat.pow_pos (by decide), by show 1 < 2 ^ B; exact Nat.one_lt_two_pow (by omega)⟩
    refine ⟨rfl, g_asgD (d_2 (K := K) (g := (· + ·)) (B := (i + 1) * (B + 1)) (d_var rfl) (d_var rfl) True.intro (sz_sum h0 hs i (by omega)) ((hs x (List.mem_of_getElem? hx)).mono (by omega)) (by omega) (by omega)) ?_⟩
    rw [← sumF_take hx]
    exact ⟨_, rfl⟩
  · rintro ρ' ⟨y2, rfl⟩
    rw [List.length_map, List.take_length]
    exact g_retD (d_var rfl) q
theorem ok_right (F : Fun K "_law_right" "_law_right" s__law_right f fd) (n_range : mg "range" = none) (n_len : mg "len" = none) (L_M : LenO P w K mg base cM 1 (spLen K cM)) (C_where3 : Cal P w K mg base 6 "where" ["machine", "room", "steps"] [] (spP (preWhere K cM))) (C_reached : Cal P w K mg base 4 "reached" ["machine", "room"] [] (spP (preReach K cM)))
    (C__law_sum : Cal P w K mg base 3 "_law_sum" ["_law_some"] [] (spP (preSum K))) (C__law_mul : Cal P w K mg base 2 "_law_mul" ["_law_one", "_law_other"] [] (spP (pre2 K (fun _ _ => True) (· * ·)))) : FnOk P w K mg base CX0 7 f fd ["_law_machine", "_law_room", "_law_one", "_law_other"] (spP (preRight K cM)) := by
  refine fnP F sc__law_right (by decide) (fun ss Ψ h => by obtain ⟨_, _, _, _, _, rfl, _⟩ := h; rfl) fun cdv A outer s H Ex0 hr => ⟨_, (pss_cons (ps_set (i := 4) sc__law_right.nd rfl (.inr rfl) (pe_cal C_where3 hr (by decide) (by rfl) (pa_cons (pv 0) (pa_cons (pv 1) (pa_cons (pv 2) pa_nil)))))
      (pss_cons (ps_set (i := 5) sc__law_right.nd rfl (.inr rfl) (pe_lc (own := [("_law_here", 6)]) (by rfl) sc__law_right.nd (pi_range1 (by rfl) n_range (pa_cons (pe_callB (call_lenO L_M hr (by decide)) (by rfl) n_len PySem.boot_len (pa_cons (pv 0) pa_nil)) pa_nil)) (blkOk_by (own := [("_law_here", 6)]) (N := ["_law_machine", "_law_room", "_law_one", "_law_other", "_law_ahead", "_law_later", "_law_here", "_law_both", "_law_there", "_law_some"]) (sc := defScope s__law_right) (by decide +kernel)) (fun _ _ _ _ _ => (pg_name (i := 6) sc__law_right.nd rfl (.inl rfl))) (fun _ _ _ _ _ => pts_nil) (fun _ _ _ _ _ => (pe_cal C_where3 hr (by decide) (by rfl) (pa_cons (pv 0) (pa_cons (pv 6) (pa_cons (pv 3) pa_nil)))))))
      (pss_cons (ps_set (i := 7) sc__law_right.nd rfl (.inr rfl) (pe_cal C_where3 hr (by decide) (by rfl) (pa_cons (pv 0) (pa_cons (pv 1) (pa_cons (pe_op op_add (pv 2) (pv 3)) pa_nil)))))
      (pss_cons (ps_for PassesOwn.never rfl (pi_range1 (by rfl) n_range (pa_cons (pe_callB (call_lenO L_M hr (by decide)) (by rfl) n_len PySem.boot_len (pa_cons (pv 0) pa_nil)) pa_nil)) (pg_name (i := 8) sc__law_right.nd rfl (.inr rfl)) (pss_one (ps_if (pt_cmpR (op_neD hr.units) (pe_ix ix_list (pv 7) (pv 8) (fun _ _ => rfl)) (pe_cal C__law_sum hr (by decide) (by rfl) (pa_cons (pe_lc (own := [("_law_here", 6)]) (by rfl) sc__law_right.nd (pi_range1 (by rfl) n_range (pa_cons (pe_callB (call_lenO L_M hr (by decide)) (by rfl) n_len PySem.boot_len (pa_cons (pv 0) pa_nil)) pa_nil)) (blkOk_by (own := [("_law_here", 6)]) (N := ["_law_machine", "_law_room", "_law_one", "_law_other", "_law_ahead", "_law_later", "_law_here", "_law_both", "_law_there", "_law_some"]) (sc := defScope s__law_right) (by decide +kernel)) (fun _ _ _ _ _ => (pg_name (i := 6) sc__law_right.nd rfl (.inl rfl))) (fun _ _ _ _ _ => pts_nil) (fun _ _ _ _ _ => (pe_cal C__law_mul hr (by decide) (by rfl) (pa_cons (pe_ix (ix_listK (K := K) rfl) (pv 4) (pv 6) (fun _ _ => rfl)) (pa_cons (pe_ix (ix_listK (K := K) rfl) (pe_ix (ix_listK (K := K) rfl) (pv 5) (pv 6) (fun _ _ => rfl)) (pv 8) (fun _ _ => rfl)) pa_nil))))) pa_nil)) (nomark _)) (pss_one (ps_ret pe_bl)) pss_nil)))
      (pss_cons (ps_set (i := 9) sc__law_right.nd rfl (.inr rfl) (pe_cal C_reached hr (by decide) (by rfl) (pa_cons (pv 0) (pa_cons (pv 1) pa_nil))))
      (pss_cons (ps_if (pt_cmpR (op_neD hr.units) (pe_lc (own := [("_law_there", 8)]) (by rfl) sc__law_right.nd (pi_range1 (by rfl) n_range (pa_cons (pe_callB (call_lenO L_M hr (by decide)) (by rfl) n_len PySem.boot_len (pa_cons (pv 0) pa_nil)) pa_nil)) (blkOk_by (own := [("_law_there", 8)]) (N := ["_law_machine", "_law_room", "_law_one", "_law_other", "_law_ahead", "_law_later", "_law_here", "_law_both", "_law_there", "_law_some"]) (sc := defScope s__law_right) (by decide +kernel)) (fun _ _ _ _ _ => (pg_name (i := 8) sc__law_right.nd rfl (.inl rfl))) (fun _ _ _ _ _ => (pts_one (PW.pt (pw_and (pt_cmpR op_ne (pe_ix (ix_tupK (K := K) rfl) (pe_ix (ix_listK (K := K) rfl) (pv 7) (pv 8) (fun _ _ => rfl)) pe_int (fun _ _ => rfl)) pe_int (nomark _)) (pw_and1 (pt_cmpR (op_notInK (K := K) rfl) (pv 8) (pv 9) (by rfl))))))) (fun _ _ _ _ _ => (pv 8))) (pe_lst pa_nil) (nomark _)) (pss_one (ps_ret pe_bl)) pss_nil)
      (pss_one (ps_ret (pe_and (pe_cmpR (op_eqD hr.units) (pe_cal C__law_sum hr (by decide) (by rfl) (pa_cons (pv 7) pa_nil)) (pe_tup (pa_cons pe_int (pa_cons pe_int pa_nil))) (nomark _)) (pe_one (pe_cmpR (op_eqD hr.units) (pe_lc (own := [("_law_one", 2)]) (by rfl) sc__law_right.nd (pi_list (pv 7)) (blkOk_by (own := [("_law_one", 2)]) (N := ["_law_machine", "_law_room", "_law_one", "_law_other", "_law_ahead", "_law_later", "_law_here", "_law_both", "_law_there", "_law_some"]) (sc := defScope s__law_right) (by decide +kernel)) (fun _ _ _ _ _ => (pg_name (i := 2) sc__law_right.nd rfl (.inl rfl))) (fun _ _ _ _ _ => (pts_one (pt_cmpR op_lt (pe_ix (ix_tupK (K := K) rfl) (pv 2) pe_int (fun _ _ => rfl)) pe_int (nomark _)))) (fun _ _ _ _ _ => (pv 2))) (pe_lst pa_nil) (nomark _)))))))))))), fun ss Ψ h => ?_⟩
  obtain ⟨zs, xss, r, a, b, rfl, hg, hr', hab, hz, q⟩ := h
  obtain ⟨g1, g2, g3, g4, g5⟩ := id hg
  have hs' : ∀ xs ∈ xss, Shs xs xss.length := by rw [g4]; exact g5
  refine g_seq (g_asg (e_where (d_var rfl) (d_var rfl) (d_var rfl) hg hr' (by omega) (fun j hj => hz r hr' j (by omega)) ?_))
  refine g_set (K := K) (i := 4) rfl ?_
  refine g_seq (g_asg (e_lcM (K := K) (f := rats K) (xs := (List.range zs.length).map fun h => walk xss h b) (wk_range (m := (zs.length : Int)) (da_cons (d_lenM (d_var rfl) g2) da_nil) (by omega) (by omega) ⟨by omega, by simp, ?_, ?_⟩)))
  · rintro i L hi rfl
    rw [Int.toNat_natCast] at hi
    exact ⟨rfl, walk xss i b, by simp [hi], e_where (d_var rfl) (d_var rfl) (d_var rfl) hg hi (by omega) (fun j hj => hz i hi j (by omega)) .own⟩
  refine g_set (K := K) (i := 5) rfl ?_
  refine g_seq (g_asg (e_where (k := a + b) (d_var rfl) (d_var rfl) (D.is (d_op (d_var rfl) (d_var rfl) ov_i0) (by simp)) hg hr' hab (fun j hj => hz r hr' j hj) ?_))
  refine g_set (K := K) (i := 7) rfl ?_
  have lw : ∀ k, (walk xss r k).length = zs.length := fun k => by rw [walk_len, g4]
  refine g_seq (g_for (wk_range (m := (zs.length : Int)) (da_cons (d_lenM (d_var rfl) g2) da_nil) (by omega) (by omega) ⟨fun i ρ' => ∃ y7 y8 y9 : Sl, ρ' = [.val (mach K cM zs xss), .val (int (r : Int)), .val (int (a : Int)), .val (int (b : Int)), .val (rats K (walk xss r a)), .val (rows K ((List.range zs.length).map fun h => walk xss h b)), y7, .val (rats K (walk xss r (a + b))), y8, y9], ⟨_, _, _, rfl⟩, ?_, ?_⟩))
  · rintro t L ρ' ht rfl ⟨y7, y8, y9, rfl⟩
    rw [Int.toNat_natCast] at ht
    refine ⟨rfl, ?_⟩
    have hsz : ∀ x ∈ (List.range zs.length).map (fun h => (walk xss r a).getD h 0 * (walk xss h b).getD t 0), Sz 491 x := fun x hx => by
      obtain ⟨h, hh, rfl⟩ := List.mem_map.mp hx
      rw [List.mem_range] at hh
      have s1 : Sz 245 ((walk xss r a).getD h 0) := hz r hr' a (by omega) _ (getD_mem (by rw [lw]; exact hh))
      have s2 : Sz 245 ((walk xss h b).getD t 0) := hz h hh b (by omega) _ (getD_mem (by rw [walk_len, g4]; exact ht))
      exact s1.mul s2
    have hsum : sumF 0 ((List.range zs.length).map fun h => (walk xss r a).getD h 0 * (walk xss h b).getD t 0) = (walk xss r (a + b)).getD t 0 := by
      have := walk_add (xss := xss) (r := r) (a := a) b (t := t) (by omega)
      rw [this, ← g4]
      rfl
    refine g_skip (q := True) (t_F (D.tru (b := !decide ((walk xss r (a + b)).getD t 0 = sumF 0 ((List.range zs.length).map fun h => (walk xss r a).getD h 0 * (walk xss h b).getD t 0))) (d_op (d_op (d_var rfl) (d_var rfl) (ov_ixL (at_map (getD_at 0 (by rw [lw]; exact ht))))) (d_sum (K := K) (B := 491) (D.of (K := K) (e_lcM (K := K) (f := rat K) (xs := (List.range zs.length).map fun h => (walk xss r a).getD h 0 * (walk xss h b).getD t 0) (wk_range (m := (zs.length : Int)) (da_cons (d_lenM (d_var rfl) g2) da_nil) (by omega) (by omega) ⟨by omega, by simp, ?_, .own⟩))) hsz (by decide) ?_) ov_neR) (by rw [hsum]; simp))) ⟨_, _, _, rfl⟩
    · rintro h L hh rfl
      rw [Int.toNat_natCast] at hh
      have s1 : Sz 245 ((walk xss r a).getD h 0) := hz r hr' a (by omega) _ (getD_mem (by rw [lw]; exact hh))
      have s2 : Sz 245 ((walk xss h b).getD t 0) := hz h hh b (by omega) _ (getD_mem (by rw [walk_len, g4]; exact ht))
      refine ⟨rfl, (walk xss r a).getD h 0 * (walk xss h b).getD t 0, by simp [hh], E.set (d_2 (K := K) (g := (· * ·)) (B := 245) (d_op (d_var rfl) (d_var rfl) (ov_ixL (at_map (getD_at 0 (by rw [lw]; exact hh))))) (d_op (d_op (d_var rfl) (d_var rfl) (ov_ixL (at_map (x := walk xss h b) (by simp [hh])))) (d_var rfl) (ov_ixL (at_map (getD_at 0 (by rw [walk_len, g4]; exact ht))))) True.intro s1 s2 (by decide) (by decide))⟩
    · rw [List.length_map, List.length_range]
      have : (zs.length + 2) * (491 + 1) ≤ 8 * 492 := Nat.mul_le_mul_right _ (by omega)
      omega
  · rintro ρ' ⟨y7, y8, y9, rfl⟩
    refine g_seq (g_asg (e_reach (d_var rfl) (d_var rfl) hg hr' fun os pw hm hlt => ?_))
    refine g_set (K := K) (i := 9) rfl ?_
    have h0 : ∀ xs ∈ xss, ∀ x ∈ xs, 0 ≤ x := fun xs hx x h => ((g5 xs hx).2.1 x h).le.1
    obtain ⟨w1, w0⟩ := walk_pos hs' (by omega : r < xss.length) (a + b)
    refine g_seq (g_skip (q := True) (t_F (D.tru (b := !decide (([] : List Nat) = [])) (d_op (D.of (K := K) (e_lc (K := K) (wk_range (m := (zs.length : Int)) (da_cons (d_lenM (d_var rfl) g2) da_nil) (by omega) (by omega) ⟨by omega, fun i acc => acc = [], rfl, ?_, ?_⟩))) (D.of (K := K) (e_lstD da_nil .own)) (ov_neN (K := K) (ns := []) (ms := []))) (by simp))) ?_)
    · rintro t L acc ht rfl rfl
      rw [Int.toNat_natCast] at ht
      have hx : (walk xss r (a + b))[t]? = some ((walk xss r (a + b)).getD t 0) := getD_at 0 (by rw [lw]; exact ht)
      refine ⟨rfl, Nat.zero_le _, T.mono ((t_and2 (b1 := !decide (V.int ((walk xss r (a + b)).getD t 0).num = V.int 0)) (b2 := !decide (t ∈ os)) (T.is (d_op (d_op (d_op (d_var rfl) (d_var rfl) (ov_ixL (at_map hx))) d_c ov_r0) d_c (ov_nev rfl))) fun _ => T.is (d_op (d_var rfl) (d_var rfl) (ov_inN (K := K) (neg := true)))).eq (b := false) ?_) fun c hc => ?_⟩
      · by_cases c : (walk xss r (a + b)).getD t 0 = 0
        · rw [c]
          rfl
        · have := (hm t).mpr (walk_come h0 _ c)
          simp [this]
      · subst hc
        rfl
    · rintro acc rfl
      exact .own
    refine g_retD (P := tru (decide (sumF 0 (walk xss r (a + b)) = 1) && decide (([] : List Nat) = []))) (d_and (d_op (d_sum (K := K) (B := 245) (d_var rfl) (hz r hr' (a + b) (Nat.le_refl _)) (by decide) ?_) (d_pair (K := K) (x := 1) d_c d_c rfl rfl) ov_eqR) fun _ => d_op (D.of (K := K) (e_lc (K := K) (wk_listD (K := K) (d_var rfl) ⟨by rw [List.length_map, lw]; omega, fun i acc => acc = [], rfl, ?_, ?_⟩))) (D.of (K := K) (e_lstD da_nil .own)) (ov_eqN (K := K) (ns := []) (ms := []))) ?_
    · rw [lw]
      have : (zs.length + 2) * (245 + 1) ≤ 8 * 246 := Nat.mul_le_mul_right _ (by omega)
      omega
    · rintro t L acc ht ⟨P, hP, rfl⟩ rfl
      obtain ⟨x, hx, rfl⟩ := map_at hP
      refine ⟨rfl, Nat.zero_le _, T.mono (T.is (D.tru (b := decide (x.num < 0)) (b2 := false) (d_op (d_op (d_var rfl) d_c ov_r0) d_c ov_i0) ?_)) fun c hc => ?_⟩
      · have := Rat.num_nonneg.mpr (w0 x (List.mem_of_getElem? hx))
        exact decide_eq_false (by omega)
      · subst hc
        rfl
    · rintro acc rfl
      exact .own
    · rw [w1]
      exact q
end
end WL

namespace WL
open PySem PySem.Spec PyProof.Rows L2 Evl NF
abbrev s_law : Stmt := topS 53
theorem sc_law : FnScope ["_law_script", "_law_k", "_law_bag_here", "_law_far", "_law_names", "_law_goes_here", "_law_machine", "_law_one", "_law_other", "_law_order", "_law_turned", "_law_room", "_law_chances", "_law_there"] ["_law_script"] (defScope s_law) := ⟨rfl, rfl, rfl, by decide +kernel, rfl, by decide +kernel, by decide +kernel⟩
section
variable {P : Program} {w : World} {K : PySem.W.Frag} {mg : Str → Option Value} {base : Heap} {f : Addr} {fd : FuncData} {cM : Addr}
theorem ok_law (F : Fun K "law" "law" s_law f fd) (n_range : mg "range" = none) (n_max : mg "max" = none) (n_min : mg "min" = none) (n_len : mg "len" = none) (n_sorted : mg "sorted" = none)
    (C__law_bag : Cal P w K mg base 1 "_law_bag" ["_law_script", "_law_k"] [] (spP (preBag K))) (C__law_out : Cal P w K mg base 1 "_law_out" ["_law_bag_here", "_law_many"] [] (spP preOut)) (C__law_kit : Cal P w K mg base 3 "_law_kit" ["_law_bag_here", "_law_most", "_law_wide"] [] (spP (preKit K)))
    (K_Machine : CalK P w K mg base 7 "Machine" cM ["self", "marks", "shares"] (spIn K cM)) (C__law_shuffled : Cal P w K mg base 2 "_law_shuffled" ["_law_bag_here", "_law_many"] [] (spP preShuf)) (C_renamed : Cal P w K mg base 9 "renamed" ["machine", "order"] [] (spP (preRen K cM)))
    (C_where3 : Cal P w K mg base 6 "where" ["machine", "room", "steps"] [] (spP (preWhere K cM))) (C_reached : Cal P w K mg base 4 "reached" ["machine", "room"] [] (spP (preReach K cM))) (C__law_right : Cal P w K mg base 7 "_law_right" ["_law_machine", "_law_room", "_law_one", "_law_other"] [] (spP (preRight K cM))) :
    FnOk P w K mg base CX0 10 f fd ["_law_script"] (spP (preLaw K)) := by
  refine fnP F sc_law (by decide) (fun ss Ψ h => by obtain ⟨_, rfl, _⟩ := h; rfl) fun cdv A outer s H Ex0 hr => ⟨_, (pss_cons (ps_for PassesOwn.never rfl (pi_range1 (by rfl) n_range (pa_cons (pe_callB (call_max2 rfl) (by rfl) n_max PyProof.Rows.boot_max (pa_cons pe_int (pa_cons (pe_callB (call_min2 rfl) (by rfl) n_min PyProof.Rows.boot_min (pa_cons (pe_callB call_len_seq (by rfl) n_len PySem.boot_len (pa_cons (pv 0) pa_nil)) (pa_cons pe_int pa_nil))) pa_nil))) pa_nil)) (pg_name (i := 1) sc_law.nd rfl (.inl rfl)) (pss_cons (ps_set (i := 2) sc_law.nd rfl (.inl rfl) (pe_cal C__law_bag hr (by decide) (by rfl) (pa_cons (pv 0) (pa_cons (pv 1) pa_nil))))
      (pss_cons (ps_set (i := 3) sc_law.nd rfl (.inl rfl) (pe_cal C__law_out hr (by decide) (by rfl) (pa_cons (pv 2) (pa_cons pe_int pa_nil))))
      (pss_cons (ps_asg (pe_cal C__law_kit hr (by decide) (by rfl) (pa_cons (pv 2) (pa_cons pe_int (pa_cons (pe_ix ix_list (pe_lst (pa_cons pe_int (pa_cons pe_int pa_nil))) (pv 3) (fun _ _ => rfl)) pa_nil)))) (pg_tup rfl (pgs_cons (pg_name (i := 4) sc_law.nd rfl (.inl rfl)) (pgs_cons (pg_name (i := 5) sc_law.nd rfl (.inl rfl)) pgs_nil))))
      (pss_cons (ps_set (i := 6) sc_law.nd rfl (.inl rfl) (pe_calK K_Machine hr (by decide) (by rfl) (pa_cons (pv 4) (pa_cons (pv 5) pa_nil))))
      (pss_cons (ps_set (i := 7) sc_law.nd rfl (.inl rfl) (pe_cal C__law_out hr (by decide) (by rfl) (pa_cons (pv 2) (pa_cons (pe_ix ix_list (pe_lst (pa_cons pe_int (pa_cons pe_int pa_nil))) (pv 3) (fun _ _ => rfl)) pa_nil))))
      (pss_cons (ps_set (i := 8) sc_law.nd rfl (.inl rfl) (pe_cal C__law_out hr (by decide) (by rfl) (pa_cons (pv 2) (pa_cons (pe_ix ix_list (pe_lst (pa_cons pe_int (pa_cons pe_int pa_nil))) (pv 3) (fun _ _ => rfl)) pa_nil))))
      (pss_cons (ps_set (i := 9) sc_law.nd rfl (.inr rfl) (pe_cal C__law_shuffled hr (by decide) (by rfl) (pa_cons (pv 2) (pa_cons (pe_callB call_len_seq (by rfl) n_len PySem.boot_len (pa_cons (pv 4) pa_nil)) pa_nil))))
      (pss_cons (ps_set (i := 10) sc_law.nd rfl (.inl rfl) (pe_cal C_renamed hr (by decide) (by rfl) (pa_cons (pv 6) (pa_cons (pv 9) pa_nil))))
      (pss_one (ps_for PassesOwn.never rfl (pi_range1 (by rfl) n_range (pa_cons (pe_callB call_len_seq (by rfl) n_len PySem.boot_len (pa_cons (pv 4) pa_nil)) pa_nil)) (pg_name (i := 11) sc_law.nd rfl (.inl rfl)) (pss_cons (ps_if (pt_not (pt_val (pe_cal C__law_right hr (by decide) (by rfl) (pa_cons (pv 6) (pa_cons (pe_ix ix_list (pv 9) (pv 11) (fun _ _ => rfl)) (pa_cons (pv 7) (pa_cons (pv 8) pa_nil))))))) (pss_one (ps_ret pe_bl)) pss_nil)
      (pss_cons (ps_set (i := 12) sc_law.nd rfl (.inr rfl) (pe_cal C_where3 hr (by decide) (by rfl) (pa_cons (pv 6) (pa_cons (pe_ix ix_list (pv 9) (pv 11) (fun _ _ => rfl)) (pa_cons (pv 7) pa_nil)))))
      (pss_cons (ps_if (pt_cmpR (op_neD hr.units) (pe_cal C_where3 hr (by decide) (by rfl) (pa_cons (pv 10) (pa_cons (pv 11) (pa_cons (pv 7) pa_nil)))) (pe_lc (own := [("_law_there", 13)]) (by rfl) sc_law.nd (pi_list (pv 9)) (blkOk_by (own := [("_law_there", 13)]) (N := ["_law_script", "_law_k", "_law_bag_here", "_law_far", "_law_names", "_law_goes_here", "_law_machine", "_law_one", "_law_other", "_law_order", "_law_turned", "_law_room", "_law_chances", "_law_there"]) (sc := defScope s_law) (by decide +kernel)) (fun _ _ _ _ _ => (pg_name (i := 13) sc_law.nd rfl (.inl rfl))) (fun _ _ _ _ _ => pts_nil) (fun _ _ _ _ _ => (pe_ix (ix_listK (K := K) rfl) (pv 12) (pv 13) (fun _ _ => rfl)))) (nomark _)) (pss_one (ps_ret pe_bl)) pss_nil)
      (pss_one (ps_if (pt_cmpR (op_neD hr.units) (pe_cal C_reached hr (by decide) (by rfl) (pa_cons (pv 10) (pa_cons (pv 11) pa_nil))) (pe_callB cr_sorted (by rfl) n_sorted (by decide +kernel) (pa_cons (pe_lc (own := [("_law_there", 13)]) (by rfl) sc_law.nd (pi_list (pe_cal C_reached hr (by decide) (by rfl) (pa_cons (pv 6) (pa_cons (pe_ix ix_list (pv 9) (pv 11) (fun _ _ => rfl)) pa_nil)))) (blkOk_by (own := [("_law_there", 13)]) (N := ["_law_script", "_law_k", "_law_bag_here", "_law_far", "_law_names", "_law_goes_here", "_law_machine", "_law_one", "_law_other", "_law_order", "_law_turned", "_law_room", "_law_chances", "_law_there"]) (sc := defScope s_law) (by decide +kernel)) (fun _ _ _ _ _ => (pg_name (i := 13) sc_law.nd rfl (.inl rfl))) (fun _ _ _ _ _ => pts_nil) (fun _ _ _ _ _ => (pe_bmK (K := K) rfl PySem.F.plainAttrs_list PySem.F.slot_list_index PySem.F.type_list_index (mt_indexK (K := K) rfl) (pv 9) (pa_cons (pv 13) pa_nil)))) pa_nil)) (nomark _)) (pss_one (ps_ret pe_bl)) pss_nil))))))))))))))))
      (pss_one (ps_ret pe_bl))), fun ss Ψ h => ?_⟩
  obtain ⟨ns, rfl, nl, q⟩ := h
  refine g_seq (g_for (wk_range (da_cons (d_max d_c (d_min (d_cb (da_cons (d_var rfl) da_nil) cb_len) d_c)) da_nil) (by split <;> (try split) <;> omega) (by split <;> (try split) <;> omega) ⟨fun i ρ' => ∃ y1 y2 y3 y4 y5 y6 y7 y8 y9 y10 y11 y12 y13 : Sl, ρ' = [.val (nums K ns), y1, y2, y3, y4, y5, y6, y7, y8, y9, y10, y11, y12, y13], ⟨_, _, _, _, _, _, _, _, _, _, _, _, _, rfl⟩, ?_, ?_⟩))
  · rintro i L ρ' hi rfl ⟨y1, y2, y3, y4, y5, y6, y7, y8, y9, y10, y11, y12, y13, rfl⟩
    have hi8 : i < 64 := by
      rw [List.length_map] at hi
      revert hi
      split <;> (try split) <;> omega
    refine ⟨rfl, ?_⟩
    refine g_seq (g_asg (e_call (ea_d (d_var rfl) (ea_d (d_var rfl) (ea_nil ⟨rfl, ns, i, rfl, by omega, by omega, fun b1 b2 => ?_⟩)))))
    refine g_bag (i := 2) rfl ?_
    refine g_seq (g_asg (e_out rfl d_c (by decide) (by decide) fun far f0 f2 => ?_))
    obtain ⟨far, rfl⟩ := Int.eq_ofNat_of_zero_le f0
    have f2' : far < 2 := by omega
    refine g_seq (g_unpack (e_call (ea_bag rfl (ea_d d_c (ea_d (d_pick2 (K := K) (d_var rfl) f2') (ea_nil ⟨rfl, if far = 0 then 12 else 999, by split <;> rfl, by split <;> omega, by split <;> omega, fun zs xss hg hB => ⟨_, _, rfl, ?_⟩⟩))))))
    obtain ⟨g1, g2, g3, g4, g5⟩ := id hg
    have hs' : ∀ xs ∈ xss, Shs xs xss.length := by rw [g4]; exact g5
    refine g_seq (g_asg (e_make (K := K) (ea_d (d_var rfl) (ea_d (d_var rfl) (ea_nil ⟨zs, xss, rfl, hg, ?_⟩)))))
    refine g_seq (g_asg (e_out rfl (d_pick2 (K := K) (d_var rfl) f2') (by split <;> omega) (by split <;> omega) fun one o0 o1 => ?_))
    obtain ⟨one, rfl⟩ := Int.eq_ofNat_of_zero_le o0
    refine g_seq (g_asg (e_out rfl (d_pick2 (K := K) (d_var rfl) f2') (by split <;> omega) (by split <;> omega) fun oth p0 p1 => ?_))
    obtain ⟨oth, rfl⟩ := Int.eq_ofNat_of_zero_le p0
    have hz : ∀ r', r' < zs.length → ∀ j, j ≤ one + oth → ∀ c ∈ walk xss r' j, Sz 245 c := by
      intro r' hr' j hj
      by_cases c : far = 0
      · subst c
        simp only [if_true] at o1 p1 hB
        exact walk_small hs' hB (by omega) (by omega)
      · simp only [c, if_false] at o1 p1 hB
        exact walk_great hs' hB (by omega) (by omega) (by omega)
    have h12 : one + oth ≤ 12 := by
      by_cases c : far = 0
      · subst c
        simp only [if_true] at o1 p1
        omega
      · simp only [c, if_false] at o1 p1
        omega
    clear o1 p1
    refine g_seq (g_asg (e_call (ea_bag rfl (ea_d (D.is (d_cb (da_cons (d_var rfl) da_nil) cb_len) (by rw [List.length_map])) (ea_nil ⟨rfl, zs.length, rfl, g1, g2, fun os ho => ?_⟩)))))
    refine g_set (K := K) (i := 9) rfl ?_
    have hrG := good_ren hg ho
    have lz : (renZ zs os).length = zs.length := by rw [renZ, List.length_map, ho.len]
    refine g_seq (g_asg (e_call (ea_d (d_var rfl) (ea_d (d_var rfl) (ea_nil ⟨rfl, zs, xss, os, rfl, hg, ho, ?_⟩)))))
    refine g_for (wk_range (m := (zs.length : Int)) (da_cons (D.is (d_cb (da_cons (d_var rfl) da_nil) cb_len) (by rw [List.length_map])) da_nil) (by omega) (by omega) ⟨fun j ρ' => ∃ y11 y12 y13 : Sl, ρ' = [.val (nums K ns), .val (int (i : Int)), .bag, .val (int (far : Int)), .val (txts K zs), .val (rows K xss), .val (mach K cM zs xss), .val (int (one : Int)), .val (int (oth : Int)), .val (nats K os), .val (mach K cM (renZ zs os) (renX xss os)), y11, y12, y13], ⟨_, _, _, rfl⟩, ?_, fun ρ' ⟨y11, y12, y13, h⟩ => ⟨_, _, _, _, _, _, _, _, _, _, _, _, _, h⟩⟩)
    rintro j L ρ' hj rfl ⟨y11, y12, y13, rfl⟩
    rw [Int.toNat_natCast] at hj
    obtain ⟨a, hjo⟩ : ∃ a, os[j]? = some a := ⟨_, List.getElem?_eq_getElem (by rw [ho.len]; exact hj)⟩
    have hjm : (os.map fun o : Nat => int (o : Int))[j]? = some (int (a : Int)) := at_map (f := fun o : Nat => int (o : Int)) hjo
    have ha : a < zs.length := ho.lt (List.mem_of_getElem? hjo)
    have hox : Order xss.length os := by rw [g4]; exact ho
    have hwl : ∀ xs ∈ xss, xs.length = xss.length := fun xs hx => (hs' xs hx).1
    have wr := walk_ren (xss := xss) hox hjo
    have hz2 : ∀ t, t ≤ one → ∀ c ∈ walk (renX xss os) j t, Sz 245 c := fun t ht c hc => by
      rw [wr] at hc
      obtain ⟨o, h1, rfl⟩ := List.mem_map.mp hc
      exact hz a ha t (by omega) _ (getD_mem (by rw [walk_len, g4]; exact ho.lt h1))
    refine ⟨rfl, ?_⟩
    refine g_seq (g_skip (q := True) (t_nT (d_call (da_cons (d_var rfl) (da_cons (d_op (d_var rfl) (d_var rfl) (ov_ixL hjm)) (da_cons (d_var rfl) (da_cons (d_var rfl) da_nil)))) fun Ψ z => ⟨zs, xss, a, one, oth, rfl, hg, ha, h12, hz, z⟩)) ?_)
    refine g_seq (g_asg (e_where (d_var rfl) (d_op (d_var rfl) (d_var rfl) (ov_ixL hjm)) (d_var rfl) hg ha (by omega) (fun t ht => hz a ha t (by omega)) ?_))
    refine g_set (K := K) (i := 12) rfl ?_
    refine g_seq (g_skip (q := True) (t_F (D.tru (b := !decide (walk (renX xss os) j one = os.map fun o => (walk xss a one).getD o 0)) (d_op (d_where (d_var rfl) (d_var rfl) (d_var rfl) hrG (by rw [lz]; exact hj) (by omega) hz2) (D.of (K := K) (e_lcM (K := K) (f := rat K) (xs := os.map fun o => (walk xss a one).getD o 0) (wk_listD (K := K) (Ps := os.map fun o : Nat => int (o : Int)) (d_var rfl) ⟨by rw [List.length_map, ho.len]; omega, by simp, ?_, .own⟩))) ov_neRs) (by rw [wr]; simp))) ?_)
    · rintro m L hm ⟨P, hP, rfl⟩
      obtain ⟨o, h1, rfl⟩ := map_at hP
      exact ⟨rfl, (walk xss a one).getD o 0, by simp [h1], E.set (d_op (d_var rfl) (d_var rfl) (ov_ixL (at_map (getD_at 0 (by rw [walk_len, g4]; exact ho.lt (List.mem_of_getElem? h1))))))⟩
    refine g_skip (q := True) (t_test (e_opS (K := K) (e_reach (d_var rfl) (d_var rfl) hrG (by rw [lz]; exact hj) fun os1 pw1 hm1 hl1 => ⟨_, .own, ?_⟩))) ⟨_, _, _, rfl⟩
    refine e_cbLE (ea_cons (K := K) (e_lcX (K := K) (f := fun o : Nat => int (o : Int)) (wk_list (K := K) (e_reach (d_var rfl) (d_op (d_var rfl) (d_var rfl) (ov_ixL hjm)) hg ha fun os2 pw2 hm2 hl2 => ⟨_, .own, ?_⟩))))
    have l2 : os2.length ≤ zs.length := nodup_le (pw2.imp fun h => Nat.ne_of_lt h) hl2
    have io : ∀ o ∈ os2, os[os.idxOf o]? = some o := fun o h => idx_at (ho.all (hl2 o h))
    refine ⟨by rw [List.length_map]; omega, os2.map fun o => os.idxOf o, by simp, ?_, _, .own, ea_nil ⟨[nats K (os2.map fun o => os.idxOf o)], os1.map fun o : Nat => int (o : Int), rfl, cl_sortN (by rw [List.length_map]; omega) ?_ (pw1.imp Nat.le_of_lt), _, _, .own, ov_neN (K := K) (ns := os1) (ms := os1), _, rfl, by simp⟩⟩
    · rintro m L hm ⟨P, hP, rfl⟩
      obtain ⟨o, h1, rfl⟩ := map_at hP
      exact ⟨rfl, os.idxOf o, by simp [h1], E.set (d_indexN (K := K) (d_var rfl) (d_var rfl) (io o (List.mem_of_getElem? h1)) ho.nodup)⟩
    · refine (List.perm_ext_iff_of_nodup (pw1.imp fun h => Nat.ne_of_lt h) ?_).mpr fun m => ?_
      · show (os2.map fun o => os.idxOf o).Pairwise (· ≠ ·)
        rw [List.pairwise_map]
        refine List.Pairwise.imp_of_mem (fun {x y} hx hy h z => ?_) pw2
        have e1 := io x hx
        rw [z, io y hy] at e1
        have := Option.some.inj e1
        omega
      · rw [hm1, List.mem_map]
        constructor
        · intro hc
          obtain ⟨b, hb, cb⟩ := come_ren hox hwl hjo hc
          refine ⟨b, (hm2 b).mpr cb, ?_⟩
          have e1 := io b ((hm2 b).mpr cb)
          obtain ⟨p1, p2⟩ := List.getElem?_eq_some_iff.mp e1
          obtain ⟨p3, p4⟩ := List.getElem?_eq_some_iff.mp hb
          exact (List.getElem_inj ho.nodup).mp (p2.trans p4.symm)
        · rintro ⟨b, hb, rfl⟩
          obtain ⟨t, ht, ct⟩ := come_back hox hwl hjo ((hm2 b).mp hb)
          have e1 := io b hb
          obtain ⟨p1, p2⟩ := List.getElem?_eq_some_iff.mp e1
          obtain ⟨p3, p4⟩ := List.getElem?_eq_some_iff.mp ht
          have : os.idxOf b = t := (List.getElem_inj ho.nodup).mp (p2.trans p4.symm)
          rw [this]
          exact ct
  · rintro ρ' ⟨y1, y2, y3, y4, y5, y6, y7, y8, y9, y10, y11, y12, y13, rfl⟩
    exact g_retD d_c q
end
end WL

namespace WL
open PySem PySem.Spec PyProof.Rows L2 Evl NF
theorem cal_mk {P : Program} {w : World} {K : PySem.W.Frag} {mg : Str → Option Value} {base : Heap} {k : Nat} {x : Str} {ps : List Str} {dvs : List V} {sp : Sp} {f : Addr} {fd : FuncData} {ds : List Value} (h : FnOk P w K mg base CX0 k f fd ps sp) (m : mg x = some (.ref f)) (kp : PySem.W.keepIn K (.ref f) = true) (b : Binds K fd ps ds) (d : Vals dvs ds) : Cal P w K mg base k x ps dvs sp := ⟨⟨f, fd, ds, h, m, kp, b, d⟩⟩
set_option maxHeartbeats 0 in
theorem all_mk {l : PySem.W.OpenLaw} {w : World} {K : PySem.W.Frag} {h : Heap} {mg : Str → Option Value} {fa : Addr} (X : K.In h) (G : h.Ns mainGlobals mg) (hfa : mg "law" = some (.ref fa))
    {f_is_whole : Addr} {od0 an0 : Option Addr} {sl0 : Array (Option Value)} {oc0 kV0 dc0 pm0 cd0 ct0 : Value}
    (a_is_whole : PySem.W.nsIn K mainGlobals "is_whole" = some (some (.ref f_is_whole))) (l_is_whole : K.lookup f_is_whole = some ⟨oc0, od0, .func (PySem.W.fnOf "is_whole" "is_whole" (defArgs s_is_whole) (defBody s_is_whole) (defScope s_is_whole) .none kV0 dc0 pm0 an0 cd0 ct0), sl0⟩) (d_is_whole : PySem.W.codeIn K cd0 "is_whole" = true) (k_is_whole : PySem.W.keepIn K (.ref f_is_whole) = true)
    {f_is_whole_within : Addr} {od1 an1 : Option Addr} {sl1 : Array (Option Value)} {oc1 kV1 dc1 pm1 cd1 ct1 : Value}
    (a_is_whole_within : PySem.W.nsIn K mainGlobals "is_whole_within" = some (some (.ref f_is_whole_within))) (l_is_whole_within : K.lookup f_is_whole_within = some ⟨oc1, od1, .func (PySem.W.fnOf "is_whole_within" "is_whole_within" (defArgs s_is_whole_within) (defBody s_is_whole_within) (defScope s_is_whole_within) .none kV1 dc1 pm1 an1 cd1 ct1), sl1⟩) (d_is_whole_within : PySem.W.codeIn K cd1 "is_whole_within" = true) (k_is_whole_within : PySem.W.keepIn K (.ref f_is_whole_within) = true)
    {f_greatest_divisor : Addr} {od2 an2 : Option Addr} {sl2 : Array (Option Value)} {oc2 kV2 dc2 pm2 cd2 ct2 : Value}
    (a_greatest_divisor : PySem.W.nsIn K mainGlobals "greatest_divisor" = some (some (.ref f_greatest_divisor))) (l_greatest_divisor : K.lookup f_greatest_divisor = some ⟨oc2, od2, .func (PySem.W.fnOf "greatest_divisor" "greatest_divisor" (defArgs s_greatest_divisor) (defBody s_greatest_divisor) (defScope s_greatest_divisor) .none kV2 dc2 pm2 an2 cd2 ct2), sl2⟩) (d_greatest_divisor : PySem.W.codeIn K cd2 "greatest_divisor" = true) (k_greatest_divisor : PySem.W.keepIn K (.ref f_greatest_divisor) = true)
    {f_is_fraction : Addr} {od3 an3 : Option Addr} {sl3 : Array (Option Value)} {oc3 kV3 dc3 pm3 cd3 ct3 : Value}
    (a_is_fraction : PySem.W.nsIn K mainGlobals "is_fraction" = some (some (.ref f_is_fraction))) (l_is_fraction : K.lookup f_is_fraction = some ⟨oc3, od3, .func (PySem.W.fnOf "is_fraction" "is_fraction" (defArgs s_is_fraction) (defBody s_is_fraction) (defScope s_is_fraction) .none kV3 dc3 pm3 an3 cd3 ct3), sl3⟩) (d_is_fraction : PySem.W.codeIn K cd3 "is_fraction" = true) (k_is_fraction : PySem.W.keepIn K (.ref f_is_fraction) = true)
    {f_reduced : Addr} {od4 an4 : Option Addr} {sl4 : Array (Option Value)} {oc4 kV4 dc4 pm4 cd4 ct4 : Value}
    (a_reduced : PySem.W.nsIn K mainGlobals "reduced" = some (some (.ref f_reduced))) (l_reduced : K.lookup f_reduced = some ⟨oc4, od4, .func (PySem.W.fnOf "reduced" "reduced" (defArgs s_reduced) (defBody s_reduced) (defScope s_reduced) .none kV4 dc4 pm4 an4 cd4 ct4), sl4⟩) (d_reduced : PySem.W.codeIn K cd4 "reduced" = true) (k_reduced : PySem.W.keepIn K (.ref f_reduced) = true)
    {f_plus : Addr} {od5 an5 : Option Addr} {sl5 : Array (Option Value)} {oc5 kV5 dc5 pm5 cd5 ct5 : Value}
    (a_plus : PySem.W.nsIn K mainGlobals "plus" = some (some (.ref f_plus))) (l_plus : K.lookup f_plus = some ⟨oc5, od5, .func (PySem.W.fnOf "plus" "plus" (defArgs s_plus) (defBody s_plus) (defScope s_plus) .none kV5 dc5 pm5 an5 cd5 ct5), sl5⟩) (d_plus : PySem.W.codeIn K cd5 "plus" = true) (k_plus : PySem.W.keepIn K (.ref f_plus) = true)
    {f_times : Addr} {od6 an6 : Option Addr} {sl6 : Array (Option Value)} {oc6 kV6 dc6 pm6 cd6 ct6 : Value}
    (a_times : PySem.W.nsIn K mainGlobals "times" = some (some (.ref f_times))) (l_times : K.lookup f_times = some ⟨oc6, od6, .func (PySem.W.fnOf "times" "times" (defArgs s_times) (defBody s_times) (defScope s_times) .none kV6 dc6 pm6 an6 cd6 ct6), sl6⟩) (d_times : PySem.W.codeIn K cd6 "times" = true) (k_times : PySem.W.keepIn K (.ref f_times) = true)
    {f_total : Addr} {od7 an7 : Option Addr} {sl7 : Array (Option Value)} {oc7 kV7 dc7 pm7 cd7 ct7 : Value}
    {T7 : Addr} {odT7 : Option Addr} {slT7 : Array (Option Value)} {ocT7 : Value} {nT7 : Nat}
    (a_total : PySem.W.nsIn K mainGlobals "total" = some (some (.ref f_total))) (l_total : K.lookup f_total = some ⟨oc7, od7, .func (PySem.W.fnOf "total" "total" (defArgs s_total) (defBody s_total) (defScope s_total) (.ref T7) kV7 dc7 pm7 an7 cd7 ct7), sl7⟩) (d_total : PySem.W.codeIn K cd7 "total" = true) (k_total : PySem.W.keepIn K (.ref f_total) = true)
    (t_total : K.lookup T7 = some ⟨ocT7, odT7, .seq #[.none] nT7, slT7⟩)
    {f_is_mark : Addr} {od8 an8 : Option Addr} {sl8 : Array (Option Value)} {oc8 kV8 dc8 pm8 cd8 ct8 : Value}
    (a_is_mark : PySem.W.nsIn K mainGlobals "is_mark" = some (some (.ref f_is_mark))) (l_is_mark : K.lookup f_is_mark = some ⟨oc8, od8, .func (PySem.W.fnOf "is_mark" "is_mark" (defArgs s_is_mark) (defBody s_is_mark) (defScope s_is_mark) .none kV8 dc8 pm8 an8 cd8 ct8), sl8⟩) (d_is_mark : PySem.W.codeIn K cd8 "is_mark" = true) (k_is_mark : PySem.W.keepIn K (.ref f_is_mark) = true)
    {f_is_share : Addr} {od9 an9 : Option Addr} {sl9 : Array (Option Value)} {oc9 kV9 dc9 pm9 cd9 ct9 : Value}
    (a_is_share : PySem.W.nsIn K mainGlobals "is_share" = some (some (.ref f_is_share))) (l_is_share : K.lookup f_is_share = some ⟨oc9, od9, .func (PySem.W.fnOf "is_share" "is_share" (defArgs s_is_share) (defBody s_is_share) (defScope s_is_share) .none kV9 dc9 pm9 an9 cd9 ct9), sl9⟩) (d_is_share : PySem.W.codeIn K cd9 "is_share" = true) (k_is_share : PySem.W.keepIn K (.ref f_is_share) = true)
    {f_are_room_shares : Addr} {od10 an10 : Option Addr} {sl10 : Array (Option Value)} {oc10 kV10 dc10 pm10 cd10 ct10 : Value}
    (a_are_room_shares : PySem.W.nsIn K mainGlobals "are_room_shares" = some (some (.ref f_are_room_shares))) (l_are_room_shares : K.lookup f_are_room_shares = some ⟨oc10, od10, .func (PySem.W.fnOf "are_room_shares" "are_room_shares" (defArgs s_are_room_shares) (defBody s_are_room_shares) (defScope s_are_room_shares) .none kV10 dc10 pm10 an10 cd10 ct10), sl10⟩) (d_are_room_shares : PySem.W.codeIn K cd10 "are_room_shares" = true) (k_are_room_shares : PySem.W.keepIn K (.ref f_are_room_shares) = true)
    {f_check_marks : Addr} {od11 an11 : Option Addr} {sl11 : Array (Option Value)} {oc11 kV11 dc11 pm11 cd11 ct11 : Value}
    (a_check_marks : PySem.W.nsIn K mainGlobals "check_marks" = some (some (.ref f_check_marks))) (l_check_marks : K.lookup f_check_marks = some ⟨oc11, od11, .func (PySem.W.fnOf "check_marks" "check_marks" (defArgs s_check_marks) (defBody s_check_marks) (defScope s_check_marks) .none kV11 dc11 pm11 an11 cd11 ct11), sl11⟩) (d_check_marks : PySem.W.codeIn K cd11 "check_marks" = true) (k_check_marks : PySem.W.keepIn K (.ref f_check_marks) = true)
    {f_check_shares : Addr} {od12 an12 : Option Addr} {sl12 : Array (Option Value)} {oc12 kV12 dc12 pm12 cd12 ct12 : Value}
    (a_check_shares : PySem.W.nsIn K mainGlobals "check_shares" = some (some (.ref f_check_shares))) (l_check_shares : K.lookup f_check_shares = some ⟨oc12, od12, .func (PySem.W.fnOf "check_shares" "check_shares" (defArgs s_check_shares) (defBody s_check_shares) (defScope s_check_shares) .none kV12 dc12 pm12 an12 cd12 ct12), sl12⟩) (d_check_shares : PySem.W.codeIn K cd12 "check_shares" = true) (k_check_shares : PySem.W.keepIn K (.ref f_check_shares) = true)
    {f_check_machine : Addr} {od13 an13 : Option Addr} {sl13 : Array (Option Value)} {oc13 kV13 dc13 pm13 cd13 ct13 : Value}
    (a_check_machine : PySem.W.nsIn K mainGlobals "check_machine" = some (some (.ref f_check_machine))) (l_check_machine : K.lookup f_check_machine = some ⟨oc13, od13, .func (PySem.W.fnOf "check_machine" "check_machine" (defArgs s_check_machine) (defBody s_check_machine) (defScope s_check_machine) .none kV13 dc13 pm13 an13 cd13 ct13), sl13⟩) (d_check_machine : PySem.W.codeIn K cd13 "check_machine" = true) (k_check_machine : PySem.W.keepIn K (.ref f_check_machine) = true)
    {f_check_room : Addr} {od14 an14 : Option Addr} {sl14 : Array (Option Value)} {oc14 kV14 dc14 pm14 cd14 ct14 : Value}
    (a_check_room : PySem.W.nsIn K mainGlobals "check_room" = some (some (.ref f_check_room))) (l_check_room : K.lookup f_check_room = some ⟨oc14, od14, .func (PySem.W.fnOf "check_room" "check_room" (defArgs s_check_room) (defBody s_check_room) (defScope s_check_room) .none kV14 dc14 pm14 an14 cd14 ct14), sl14⟩) (d_check_room : PySem.W.codeIn K cd14 "check_room" = true) (k_check_room : PySem.W.keepIn K (.ref f_check_room) = true)
    {c_Machine : Addr} (g_Machine : PySem.W.nsIn K mainGlobals "Machine" = some (some (.ref c_Machine)))
    {f_Machine___init__ : Addr} {od16 an16 : Option Addr} {sl16 : Array (Option Value)} {oc16 kV16 dc16 pm16 cd16 ct16 : Value}
    (a_Machine___init__ : PySem.W.findIn K (.ref c_Machine) "__init__" = some (some (.ref f_Machine___init__))) (i_Machine___init__ : PySem.W.isFn K (.ref f_Machine___init__) = true) (l_Machine___init__ : K.lookup f_Machine___init__ = some ⟨oc16, od16, .func (PySem.W.fnOf "__init__" "Machine.__init__" (defArgs s_Machine___init__) (defBody s_Machine___init__) (defScope s_Machine___init__) .none kV16 dc16 pm16 an16 cd16 ct16), sl16⟩) (d_Machine___init__ : PySem.W.codeIn K cd16 "Machine.__init__" = true) (k_Machine___init__ : PySem.W.keepIn K (.ref f_Machine___init__) = true)
    {f_Machine_shares : Addr} {od17 an17 : Option Addr} {sl17 : Array (Option Value)} {oc17 kV17 dc17 pm17 cd17 ct17 : Value}
    (a_Machine_shares : PySem.W.findIn K (.ref c_Machine) "shares" = some (some (.ref f_Machine_shares))) (i_Machine_shares : PySem.W.isFn K (.ref f_Machine_shares) = true) (l_Machine_shares : K.lookup f_Machine_shares = some ⟨oc17, od17, .func (PySem.W.fnOf "shares" "Machine.shares" (defArgs s_Machine_shares) (defBody s_Machine_shares) (defScope s_Machine_shares) .none kV17 dc17 pm17 an17 cd17 ct17), sl17⟩) (d_Machine_shares : PySem.W.codeIn K cd17 "Machine.shares" = true) (k_Machine_shares : PySem.W.keepIn K (.ref f_Machine_shares) = true)
    {f_Machine_marks : Addr} {od18 an18 : Option Addr} {sl18 : Array (Option Value)} {oc18 kV18 dc18 pm18 cd18 ct18 : Value}
    (a_Machine_marks : PySem.W.findIn K (.ref c_Machine) "marks" = some (some (.ref f_Machine_marks))) (i_Machine_marks : PySem.W.isFn K (.ref f_Machine_marks) = true) (l_Machine_marks : K.lookup f_Machine_marks = some ⟨oc18, od18, .func (PySem.W.fnOf "marks" "Machine.marks" (defArgs s_Machine_marks) (defBody s_Machine_marks) (defScope s_Machine_marks) .none kV18 dc18 pm18 an18 cd18 ct18), sl18⟩) (d_Machine_marks : PySem.W.codeIn K cd18 "Machine.marks" = true) (k_Machine_marks : PySem.W.keepIn K (.ref f_Machine_marks) = true)
    {f_Machine___len__ : Addr} {od19 an19 : Option Addr} {sl19 : Array (Option Value)} {oc19 kV19 dc19 pm19 cd19 ct19 : Value}
    (a_Machine___len__ : PySem.W.findIn K (.ref c_Machine) "__len__" = some (some (.ref f_Machine___len__))) (i_Machine___len__ : PySem.W.isFn K (.ref f_Machine___len__) = true) (l_Machine___len__ : K.lookup f_Machine___len__ = some ⟨oc19, od19, .func (PySem.W.fnOf "__len__" "Machine.__len__" (defArgs s_Machine___len__) (defBody s_Machine___len__) (defScope s_Machine___len__) .none kV19 dc19 pm19 an19 cd19 ct19), sl19⟩) (d_Machine___len__ : PySem.W.codeIn K cd19 "Machine.__len__" = true) (k_Machine___len__ : PySem.W.keepIn K (.ref f_Machine___len__) = true)
    {f_standing_in : Addr} {od20 an20 : Option Addr} {sl20 : Array (Option Value)} {oc20 kV20 dc20 pm20 cd20 ct20 : Value}
    (a_standing_in : PySem.W.nsIn K mainGlobals "standing_in" = some (some (.ref f_standing_in))) (l_standing_in : K.lookup f_standing_in = some ⟨oc20, od20, .func (PySem.W.fnOf "standing_in" "standing_in" (defArgs s_standing_in) (defBody s_standing_in) (defScope s_standing_in) .none kV20 dc20 pm20 an20 cd20 ct20), sl20⟩) (d_standing_in : PySem.W.codeIn K cd20 "standing_in" = true) (k_standing_in : PySem.W.keepIn K (.ref f_standing_in) = true)
    {f_stepped : Addr} {od21 an21 : Option Addr} {sl21 : Array (Option Value)} {oc21 kV21 dc21 pm21 cd21 ct21 : Value}
    (a_stepped : PySem.W.nsIn K mainGlobals "stepped" = some (some (.ref f_stepped))) (l_stepped : K.lookup f_stepped = some ⟨oc21, od21, .func (PySem.W.fnOf "stepped" "stepped" (defArgs s_stepped) (defBody s_stepped) (defScope s_stepped) .none kV21 dc21 pm21 an21 cd21 ct21), sl21⟩) (d_stepped : PySem.W.codeIn K cd21 "stepped" = true) (k_stepped : PySem.W.keepIn K (.ref f_stepped) = true)
    {f_where : Addr} {od22 an22 : Option Addr} {sl22 : Array (Option Value)} {oc22 kV22 dc22 pm22 cd22 ct22 : Value}
    {T22 : Addr} {odT22 : Option Addr} {slT22 : Array (Option Value)} {ocT22 : Value} {nT22 : Nat} {tk22 : Tok}
    (a_where : PySem.W.nsIn K mainGlobals "where" = some (some (.ref f_where))) (l_where : K.lookup f_where = some ⟨oc22, od22, .func (PySem.W.fnOf "where" "where" (defArgs s_where) (defBody s_where) (defScope s_where) (.ref T22) kV22 dc22 pm22 an22 cd22 ct22), sl22⟩) (d_where : PySem.W.codeIn K cd22 "where" = true) (k_where : PySem.W.keepIn K (.ref f_where) = true)
    (t_where : K.lookup T22 = some ⟨ocT22, odT22, .seq #[.int 1 tk22] nT22, slT22⟩)
    {f_reached : Addr} {od23 an23 : Option Addr} {sl23 : Array (Option Value)} {oc23 kV23 dc23 pm23 cd23 ct23 : Value}
    (a_reached : PySem.W.nsIn K mainGlobals "reached" = some (some (.ref f_reached))) (l_reached : K.lookup f_reached = some ⟨oc23, od23, .func (PySem.W.fnOf "reached" "reached" (defArgs s_reached) (defBody s_reached) (defScope s_reached) .none kV23 dc23 pm23 an23 cd23 ct23), sl23⟩) (d_reached : PySem.W.codeIn K cd23 "reached" = true) (k_reached : PySem.W.keepIn K (.ref f_reached) = true)
    {f_is_order : Addr} {od24 an24 : Option Addr} {sl24 : Array (Option Value)} {oc24 kV24 dc24 pm24 cd24 ct24 : Value}
    (a_is_order : PySem.W.nsIn K mainGlobals "is_order" = some (some (.ref f_is_order))) (l_is_order : K.lookup f_is_order = some ⟨oc24, od24, .func (PySem.W.fnOf "is_order" "is_order" (defArgs s_is_order) (defBody s_is_order) (defScope s_is_order) .none kV24 dc24 pm24 an24 cd24 ct24), sl24⟩) (d_is_order : PySem.W.codeIn K cd24 "is_order" = true) (k_is_order : PySem.W.keepIn K (.ref f_is_order) = true)
    {f_renamed : Addr} {od25 an25 : Option Addr} {sl25 : Array (Option Value)} {oc25 kV25 dc25 pm25 cd25 ct25 : Value}
    (a_renamed : PySem.W.nsIn K mainGlobals "renamed" = some (some (.ref f_renamed))) (l_renamed : K.lookup f_renamed = some ⟨oc25, od25, .func (PySem.W.fnOf "renamed" "renamed" (defArgs s_renamed) (defBody s_renamed) (defScope s_renamed) .none kV25 dc25 pm25 an25 cd25 ct25), sl25⟩) (d_renamed : PySem.W.codeIn K cd25 "renamed" = true) (k_renamed : PySem.W.keepIn K (.ref f_renamed) = true)
    {f__law_bag : Addr} {od26 an26 : Option Addr} {sl26 : Array (Option Value)} {oc26 kV26 dc26 pm26 cd26 ct26 : Value}
    (a__law_bag : PySem.W.nsIn K mainGlobals "_law_bag" = some (some (.ref f__law_bag))) (l__law_bag : K.lookup f__law_bag = some ⟨oc26, od26, .func (PySem.W.fnOf "_law_bag" "_law_bag" (defArgs s__law_bag) (defBody s__law_bag) (defScope s__law_bag) .none kV26 dc26 pm26 an26 cd26 ct26), sl26⟩) (d__law_bag : PySem.W.codeIn K cd26 "_law_bag" = true) (k__law_bag : PySem.W.keepIn K (.ref f__law_bag) = true)
    {f__law_out : Addr} {od27 an27 : Option Addr} {sl27 : Array (Option Value)} {oc27 kV27 dc27 pm27 cd27 ct27 : Value}
    (a__law_out : PySem.W.nsIn K mainGlobals "_law_out" = some (some (.ref f__law_out))) (l__law_out : K.lookup f__law_out = some ⟨oc27, od27, .func (PySem.W.fnOf "_law_out" "_law_out" (defArgs s__law_out) (defBody s__law_out) (defScope s__law_out) .none kV27 dc27 pm27 an27 cd27 ct27), sl27⟩) (d__law_out : PySem.W.codeIn K cd27 "_law_out" = true) (k__law_out : PySem.W.keepIn K (.ref f__law_out) = true)
    {f__law_low : Addr} {od28 an28 : Option Addr} {sl28 : Array (Option Value)} {oc28 kV28 dc28 pm28 cd28 ct28 : Value}
    (a__law_low : PySem.W.nsIn K mainGlobals "_law_low" = some (some (.ref f__law_low))) (l__law_low : K.lookup f__law_low = some ⟨oc28, od28, .func (PySem.W.fnOf "_law_low" "_law_low" (defArgs s__law_low) (defBody s__law_low) (defScope s__law_low) .none kV28 dc28 pm28 an28 cd28 ct28), sl28⟩) (d__law_low : PySem.W.codeIn K cd28 "_law_low" = true) (k__law_low : PySem.W.keepIn K (.ref f__law_low) = true)
    {f__law_add : Addr} {od29 an29 : Option Addr} {sl29 : Array (Option Value)} {oc29 kV29 dc29 pm29 cd29 ct29 : Value}
    (a__law_add : PySem.W.nsIn K mainGlobals "_law_add" = some (some (.ref f__law_add))) (l__law_add : K.lookup f__law_add = some ⟨oc29, od29, .func (PySem.W.fnOf "_law_add" "_law_add" (defArgs s__law_add) (defBody s__law_add) (defScope s__law_add) .none kV29 dc29 pm29 an29 cd29 ct29), sl29⟩) (d__law_add : PySem.W.codeIn K cd29 "_law_add" = true) (k__law_add : PySem.W.keepIn K (.ref f__law_add) = true)
    {f__law_mul : Addr} {od30 an30 : Option Addr} {sl30 : Array (Option Value)} {oc30 kV30 dc30 pm30 cd30 ct30 : Value}
    (a__law_mul : PySem.W.nsIn K mainGlobals "_law_mul" = some (some (.ref f__law_mul))) (l__law_mul : K.lookup f__law_mul = some ⟨oc30, od30, .func (PySem.W.fnOf "_law_mul" "_law_mul" (defArgs s__law_mul) (defBody s__law_mul) (defScope s__law_mul) .none kV30 dc30 pm30 an30 cd30 ct30), sl30⟩) (d__law_mul : PySem.W.codeIn K cd30 "_law_mul" = true) (k__law_mul : PySem.W.keepIn K (.ref f__law_mul) = true)
    {f__law_word : Addr} {od31 an31 : Option Addr} {sl31 : Array (Option Value)} {oc31 kV31 dc31 pm31 cd31 ct31 : Value}
    (a__law_word : PySem.W.nsIn K mainGlobals "_law_word" = some (some (.ref f__law_word))) (l__law_word : K.lookup f__law_word = some ⟨oc31, od31, .func (PySem.W.fnOf "_law_word" "_law_word" (defArgs s__law_word) (defBody s__law_word) (defScope s__law_word) .none kV31 dc31 pm31 an31 cd31 ct31), sl31⟩) (d__law_word : PySem.W.codeIn K cd31 "_law_word" = true) (k__law_word : PySem.W.keepIn K (.ref f__law_word) = true)
    {f__law_goes : Addr} {od32 an32 : Option Addr} {sl32 : Array (Option Value)} {oc32 kV32 dc32 pm32 cd32 ct32 : Value}
    (a__law_goes : PySem.W.nsIn K mainGlobals "_law_goes" = some (some (.ref f__law_goes))) (l__law_goes : K.lookup f__law_goes = some ⟨oc32, od32, .func (PySem.W.fnOf "_law_goes" "_law_goes" (defArgs s__law_goes) (defBody s__law_goes) (defScope s__law_goes) .none kV32 dc32 pm32 an32 cd32 ct32), sl32⟩) (d__law_goes : PySem.W.codeIn K cd32 "_law_goes" = true) (k__law_goes : PySem.W.keepIn K (.ref f__law_goes) = true)
    {f__law_kit : Addr} {od33 an33 : Option Addr} {sl33 : Array (Option Value)} {oc33 kV33 dc33 pm33 cd33 ct33 : Value}
    (a__law_kit : PySem.W.nsIn K mainGlobals "_law_kit" = some (some (.ref f__law_kit))) (l__law_kit : K.lookup f__law_kit = some ⟨oc33, od33, .func (PySem.W.fnOf "_law_kit" "_law_kit" (defArgs s__law_kit) (defBody s__law_kit) (defScope s__law_kit) .none kV33 dc33 pm33 an33 cd33 ct33), sl33⟩) (d__law_kit : PySem.W.codeIn K cd33 "_law_kit" = true) (k__law_kit : PySem.W.keepIn K (.ref f__law_kit) = true)
    {f__law_sum : Addr} {od34 an34 : Option Addr} {sl34 : Array (Option Value)} {oc34 kV34 dc34 pm34 cd34 ct34 : Value}
    (a__law_sum : PySem.W.nsIn K mainGlobals "_law_sum" = some (some (.ref f__law_sum))) (l__law_sum : K.lookup f__law_sum = some ⟨oc34, od34, .func (PySem.W.fnOf "_law_sum" "_law_sum" (defArgs s__law_sum) (defBody s__law_sum) (defScope s__law_sum) .none kV34 dc34 pm34 an34 cd34 ct34), sl34⟩) (d__law_sum : PySem.W.codeIn K cd34 "_law_sum" = true) (k__law_sum : PySem.W.keepIn K (.ref f__law_sum) = true)
    {f__law_shuffled : Addr} {od35 an35 : Option Addr} {sl35 : Array (Option Value)} {oc35 kV35 dc35 pm35 cd35 ct35 : Value}
    (a__law_shuffled : PySem.W.nsIn K mainGlobals "_law_shuffled" = some (some (.ref f__law_shuffled))) (l__law_shuffled : K.lookup f__law_shuffled = some ⟨oc35, od35, .func (PySem.W.fnOf "_law_shuffled" "_law_shuffled" (defArgs s__law_shuffled) (defBody s__law_shuffled) (defScope s__law_shuffled) .none kV35 dc35 pm35 an35 cd35 ct35), sl35⟩) (d__law_shuffled : PySem.W.codeIn K cd35 "_law_shuffled" = true) (k__law_shuffled : PySem.W.keepIn K (.ref f__law_shuffled) = true)
    {f__law_right : Addr} {od36 an36 : Option Addr} {sl36 : Array (Option Value)} {oc36 kV36 dc36 pm36 cd36 ct36 : Value}
    (a__law_right : PySem.W.nsIn K mainGlobals "_law_right" = some (some (.ref f__law_right))) (l__law_right : K.lookup f__law_right = some ⟨oc36, od36, .func (PySem.W.fnOf "_law_right" "_law_right" (defArgs s__law_right) (defBody s__law_right) (defScope s__law_right) .none kV36 dc36 pm36 an36 cd36 ct36), sl36⟩) (d__law_right : PySem.W.codeIn K cd36 "_law_right" = true) (k__law_right : PySem.W.keepIn K (.ref f__law_right) = true)
    {f_law : Addr} {od37 an37 : Option Addr} {sl37 : Array (Option Value)} {oc37 kV37 dc37 pm37 cd37 ct37 : Value}
    (a_law : PySem.W.nsIn K mainGlobals "law" = some (some (.ref f_law))) (l_law : K.lookup f_law = some ⟨oc37, od37, .func (PySem.W.fnOf "law" "law" (defArgs s_law) (defBody s_law) (defScope s_law) .none kV37 dc37 pm37 an37 cd37 ct37), sl37⟩) (d_law : PySem.W.codeIn K cd37 "law" = true) (k_law : PySem.W.keepIn K (.ref f_law) = true)
    (z_abs : PySem.W.nsIn K mainGlobals "abs" = some none)
    (z_isinstance : PySem.W.nsIn K mainGlobals "isinstance" = some none)
    (z_len : PySem.W.nsIn K mainGlobals "len" = some none)
    (z_max : PySem.W.nsIn K mainGlobals "max" = some none)
    (z_min : PySem.W.nsIn K mainGlobals "min" = some none)
    (z_range : PySem.W.nsIn K mainGlobals "range" = some none)
    (z_sorted : PySem.W.nsIn K mainGlobals "sorted" = some none)
    (z_int : PySem.W.nsIn K mainGlobals "int" = some none)
    (z_bool : PySem.W.nsIn K mainGlobals "bool" = some none)
    (z_tuple : PySem.W.nsIn K mainGlobals "tuple" = some none)
    (z_list : PySem.W.nsIn K mainGlobals "list" = some none)
    (z_str : PySem.W.nsIn K mainGlobals "str" = some none)
    (z_all : PySem.W.nsIn K mainGlobals "all" = some none)
    (z_enumerate : PySem.W.nsIn K mainGlobals "enumerate" = some none)
    {A52 : Addr} {odA52 : Option Addr} {slA52 : Array (Option Value)} {nA52 : Nat} {tka52 tkb52 : Tok} (a_NOUGHT : PySem.W.nsIn K mainGlobals "NOUGHT" = some (some (.ref A52))) (l_NOUGHT : K.lookup A52 = some ⟨.type "tuple", odA52, .seq #[.int 0 tka52, .int 1 tkb52] nA52, slA52⟩)
    {A53 : Addr} {odA53 : Option Addr} {slA53 : Array (Option Value)} {nA53 : Nat} {tka53 tkb53 : Tok} (a_ONE : PySem.W.nsIn K mainGlobals "ONE" = some (some (.ref A53))) (l_ONE : K.lookup A53 = some ⟨.type "tuple", odA53, .seq #[.int 1 tka53, .int 1 tkb53] nA53, slA53⟩)
    {tk_MOST_ROOMS : Tok} (a_MOST_ROOMS : PySem.W.nsIn K mainGlobals "MOST_ROOMS" = some (some (.int 6 tk_MOST_ROOMS)))
    {tk_LONGEST_MARK : Tok} (a_LONGEST_MARK : PySem.W.nsIn K mainGlobals "LONGEST_MARK" = some (some (.int 4 tk_LONGEST_MARK)))
    {tk_GREATEST_BOTTOM : Tok} (a_GREATEST_BOTTOM : PySem.W.nsIn K mainGlobals "GREATEST_BOTTOM" = some (some (.int 999 tk_GREATEST_BOTTOM)))
    {tk_MOST_STEPS : Tok} (a_MOST_STEPS : PySem.W.nsIn K mainGlobals "MOST_STEPS" = some (some (.int 12 tk_MOST_STEPS)))
    (mk1 : PySem.W.makesIn K c_Machine = true)
    (mk2 : PySem.W.keepIn K (.ref c_Machine) = true)
    (cl1 : PySem.W.plainGet K c_Machine Str.empty = true)
    (cl2 : PySem.W.hasDictIn K c_Machine = true)
    (cl3 : PySem.W.plainOver K c_Machine = true)
    (cl4 : PySem.W.findIn K (.ref c_Machine) "__setattr__" = some (some (.builtin "object.__setattr__")))
    (na1 : PySem.W.findIn K (.ref c_Machine) "kept_marks" = some none)
    (na2 : PySem.W.findIn K (.ref c_Machine) "kept_shares" = some none)
    (t1 : PySem.W.findIn K (.ref c_Machine) "__class__" = some (some (.builtin "object.__class__")))
    (t2 : PySem.W.specialIn K (.builtin "object.__class__") "__get__" = some (some (.builtin "getset_descriptor.__get__")))
    (t3 : PySem.W.takesIn K (.builtin "object.__class__") = some true)
    (t4 : PySem.W.mroIn K c_Machine (.type "object") = some true)
    (t5 : PySem.W.kitOne K (.ref c_Machine) (.ref c_Machine) = some true) :
    ∃ fd : FuncData, (∀ (s : Shared) (v : Value), BindsTo s fd ⟨[v], []⟩ [("_law_script", v)]) ∧ ∀ base : Heap, K.In base → base.Ns mainGlobals mg → FnG l.prog w K mg base CX0 10 fa fd ["_law_script"] (WL.spLaw K) := by
  have e := hfa.symm.trans (PySem.W.mg_of X G a_law)
  cases e
  have F_is_whole := fun_mk (st := s_is_whole) l_is_whole d_is_whole k_is_whole
  have b_is_whole := F_is_whole.binds (ps := ["thing"]) fun _ _ _ _ _ _ us hl => match us, hl with | [_], _ => rfl
  have F_is_whole_within := fun_mk (st := s_is_whole_within) l_is_whole_within d_is_whole_within k_is_whole_within
  have b_is_whole_within := F_is_whole_within.binds (ps := ["thing", "least", "most"]) fun _ _ _ _ _ _ us hl => match us, hl with | [_, _, _], _ => rfl
  have F_greatest_divisor := fun_mk (st := s_greatest_divisor) l_greatest_divisor d_greatest_divisor k_greatest_divisor
  have b_greatest_divisor := F_greatest_divisor.binds (ps := ["one", "other"]) fun _ _ _ _ _ _ us hl => match us, hl with | [_, _], _ => rfl
  have F_is_fraction := fun_mk (st := s_is_fraction) l_is_fraction d_is_fraction k_is_fraction
  have b_is_fraction := F_is_fraction.binds (ps := ["thing"]) fun _ _ _ _ _ _ us hl => match us, hl with | [_], _ => rfl
  have F_reduced := fun_mk (st := s_reduced) l_reduced d_reduced k_reduced
  have b_reduced := F_reduced.binds (ps := ["top", "bottom"]) fun _ _ _ _ _ _ us hl => match us, hl with | [_, _], _ => rfl
  have F_plus := fun_mk (st := s_plus) l_plus d_plus k_plus
  have b_plus := F_plus.binds (ps := ["one", "other"]) fun _ _ _ _ _ _ us hl => match us, hl with | [_, _], _ => rfl
  have F_times := fun_mk (st := s_times) l_times d_times k_times
  have b_times := F_times.binds (ps := ["one", "other"]) fun _ _ _ _ _ _ us hl => match us, hl with | [_, _], _ => rfl
  have F_is_mark := fun_mk (st := s_is_mark) l_is_mark d_is_mark k_is_mark
  have b_is_mark := F_is_mark.binds (ps := ["thing"]) fun _ _ _ _ _ _ us hl => match us, hl with | [_], _ => rfl
  have F_is_share := fun_mk (st := s_is_share) l_is_share d_is_share k_is_share
  have b_is_share := F_is_share.binds (ps := ["thing"]) fun _ _ _ _ _ _ us hl => match us, hl with | [_], _ => rfl
  have F_are_room_shares := fun_mk (st := s_are_room_shares) l_are_room_shares d_are_room_shares k_are_room_shares
  have b_are_room_shares := F_are_room_shares.binds (ps := ["many", "thing"]) fun _ _ _ _ _ _ us hl => match us, hl with | [_, _], _ => rfl
  have F_check_marks := fun_mk (st := s_check_marks) l_check_marks d_check_marks k_check_marks
  have b_check_marks := F_check_marks.binds (ps := ["marks"]) fun _ _ _ _ _ _ us hl => match us, hl with | [_], _ => rfl
  have F_check_shares := fun_mk (st := s_check_shares) l_check_shares d_check_shares k_check_shares
  have b_check_shares := F_check_shares.binds (ps := ["many", "shares"]) fun _ _ _ _ _ _ us hl => match us, hl with | [_, _], _ => rfl
  have F_check_machine := fun_mk (st := s_check_machine) l_check_machine d_check_machine k_check_machine
  have b_check_machine := F_check_machine.binds (ps := ["thing"]) fun _ _ _ _ _ _ us hl => match us, hl with | [_], _ => rfl
  have F_check_room := fun_mk (st := s_check_room) l_check_room d_check_room k_check_room
  have b_check_room := F_check_room.binds (ps := ["machine", "room"]) fun _ _ _ _ _ _ us hl => match us, hl with | [_, _], _ => rfl
  have F_Machine___init__ := fun_mk (st := s_Machine___init__) l_Machine___init__ d_Machine___init__ k_Machine___init__
  have b_Machine___init__ := F_Machine___init__.binds (ps := ["self", "marks", "shares"]) fun _ _ _ _ _ _ us hl => match us, hl with | [_, _, _], _ => rfl
  have F_Machine_shares := fun_mk (st := s_Machine_shares) l_Machine_shares d_Machine_shares k_Machine_shares
  have b_Machine_shares := F_Machine_shares.binds (ps := ["self"]) fun _ _ _ _ _ _ us hl => match us, hl with | [_], _ => rfl
  have F_Machine_marks := fun_mk (st := s_Machine_marks) l_Machine_marks d_Machine_marks k_Machine_marks
  have b_Machine_marks := F_Machine_marks.binds (ps := ["self"]) fun _ _ _ _ _ _ us hl => match us, hl with | [_], _ => rfl
  have F_Machine___len__ := fun_mk (st := s_Machine___len__) l_Machine___len__ d_Machine___len__ k_Machine___len__
  have b_Machine___len__ := F_Machine___len__.binds (ps := ["self"]) fun _ _ _ _ _ _ us hl => match us, hl with | [_], _ => rfl
  have F_standing_in := fun_mk (st := s_standing_in) l_standing_in d_standing_in k_standing_in
  have b_standing_in := F_standing_in.binds (ps := ["many", "room"]) fun _ _ _ _ _ _ us hl => match us, hl with | [_, _], _ => rfl
  have F_stepped := fun_mk (st := s_stepped) l_stepped d_stepped k_stepped
  have b_stepped := F_stepped.binds (ps := ["shares", "chances"]) fun _ _ _ _ _ _ us hl => match us, hl with | [_, _], _ => rfl
  have F_reached := fun_mk (st := s_reached) l_reached d_reached k_reached
  have b_reached := F_reached.binds (ps := ["machine", "room"]) fun _ _ _ _ _ _ us hl => match us, hl with | [_, _], _ => rfl
  have F_is_order := fun_mk (st := s_is_order) l_is_order d_is_order k_is_order
  have b_is_order := F_is_order.binds (ps := ["many", "thing"]) fun _ _ _ _ _ _ us hl => match us, hl with | [_, _], _ => rfl
  have F_renamed := fun_mk (st := s_renamed) l_renamed d_renamed k_renamed
  have b_renamed := F_renamed.binds (ps := ["machine", "order"]) fun _ _ _ _ _ _ us hl => match us, hl with | [_, _], _ => rfl
  have F__law_bag := fun_mk (st := s__law_bag) l__law_bag d__law_bag k__law_bag
  have b__law_bag := F__law_bag.binds (ps := ["_law_script", "_law_k"]) fun _ _ _ _ _ _ us hl => match us, hl with | [_, _], _ => rfl
  have F__law_out := fun_mk (st := s__law_out) l__law_out d__law_out k__law_out
  have b__law_out := F__law_out.binds (ps := ["_law_bag_here", "_law_many"]) fun _ _ _ _ _ _ us hl => match us, hl with | [_, _], _ => rfl
  have F__law_low := fun_mk (st := s__law_low) l__law_low d__law_low k__law_low
  have b__law_low := F__law_low.binds (ps := ["_law_top", "_law_bottom"]) fun _ _ _ _ _ _ us hl => match us, hl with | [_, _], _ => rfl
  have F__law_add := fun_mk (st := s__law_add) l__law_add d__law_add k__law_add
  have b__law_add := F__law_add.binds (ps := ["_law_one", "_law_other"]) fun _ _ _ _ _ _ us hl => match us, hl with | [_, _], _ => rfl
  have F__law_mul := fun_mk (st := s__law_mul) l__law_mul d__law_mul k__law_mul
  have b__law_mul := F__law_mul.binds (ps := ["_law_one", "_law_other"]) fun _ _ _ _ _ _ us hl => match us, hl with | [_, _], _ => rfl
  have F__law_word := fun_mk (st := s__law_word) l__law_word d__law_word k__law_word
  have b__law_word := F__law_word.binds (ps := ["_law_bag_here"]) fun _ _ _ _ _ _ us hl => match us, hl with | [_], _ => rfl
  have F__law_goes := fun_mk (st := s__law_goes) l__law_goes d__law_goes k__law_goes
  have b__law_goes := F__law_goes.binds (ps := ["_law_bag_here", "_law_many", "_law_wide"]) fun _ _ _ _ _ _ us hl => match us, hl with | [_, _, _], _ => rfl
  have F__law_kit := fun_mk (st := s__law_kit) l__law_kit d__law_kit k__law_kit
  have b__law_kit := F__law_kit.binds (ps := ["_law_bag_here", "_law_most", "_law_wide"]) fun _ _ _ _ _ _ us hl => match us, hl with | [_, _, _], _ => rfl
  have F__law_sum := fun_mk (st := s__law_sum) l__law_sum d__law_sum k__law_sum
  have b__law_sum := F__law_sum.binds (ps := ["_law_some"]) fun _ _ _ _ _ _ us hl => match us, hl with | [_], _ => rfl
  have F__law_shuffled := fun_mk (st := s__law_shuffled) l__law_shuffled d__law_shuffled k__law_shuffled
  have b__law_shuffled := F__law_shuffled.binds (ps := ["_law_bag_here", "_law_many"]) fun _ _ _ _ _ _ us hl => match us, hl with | [_, _], _ => rfl
  have F__law_right := fun_mk (st := s__law_right) l__law_right d__law_right k__law_right
  have b__law_right := F__law_right.binds (ps := ["_law_machine", "_law_room", "_law_one", "_law_other"]) fun _ _ _ _ _ _ us hl => match us, hl with | [_, _, _, _], _ => rfl
  have F_law := fun_mk (st := s_law) l_law d_law k_law
  have F_total : FunD K "total" "total" (defArgs s_total) (defBody s_total) (defScope s_total) [.non] [] f_total _ := ⟨⟨_, _, _, _, _, _, _, _, _, _, rfl, l_total, d_total, .inr ⟨by simp, _, _, _, _, rfl, t_total, rfl, .cons rfl .nil⟩, .inl rfl⟩, k_total⟩
  obtain ⟨dt1, vt1, bt1⟩ := F_total.binds1 (ps := ["some", "start"]) 1 0 (by simp) rfl fun _ _ _ _ _ _ _ us its hl hi => match us, its, hl, hi with | [_], [_], _, _ => ⟨_, rfl, rfl⟩
  have F_where : FunD K "where" "where" (defArgs s_where) (defBody s_where) (defScope s_where) [.int 1] [] f_where _ := ⟨⟨_, _, _, _, _, _, _, _, _, _, rfl, l_where, d_where, .inr ⟨by simp, _, _, _, _, rfl, t_where, rfl, .cons ⟨_, rfl⟩ .nil⟩, .inl rfl⟩, k_where⟩
  obtain ⟨dw3, vw3, bw3⟩ := F_where.binds1 (ps := ["machine", "room", "steps"]) 3 1 (by simp) rfl fun _ _ _ _ _ _ _ us its hl hi => match us, its, hl, hi with | [_, _, _], [_], _, _ => ⟨_, rfl, rfl⟩
  have hN : ∀ H, SqT K H _ [.int 0, .int 1] := fun H => .inr ⟨_, _, _, l_NOUGHT, rfl, rfl, by show 2 ≤ sizeLine; decide, .cons ⟨_, rfl⟩ (.cons ⟨_, rfl⟩ .nil)⟩
  have hO : ∀ H, SqT K H _ [.int 1, .int 1] := fun H => .inr ⟨_, _, _, l_ONE, rfl, rfl, by show 2 ≤ sizeLine; decide, .cons ⟨_, rfl⟩ (.cons ⟨_, rfl⟩ .nil)⟩
  have CL : Cls K c_Machine := ⟨cl1, cl2, cl3, cl4⟩
  have T : Txt K mg c_Machine := ⟨CL, na1, na2⟩
  refine ⟨(PySem.W.fnOf "law" "law" (defArgs s_law) (defBody s_law) (defScope s_law) .none kV37 dc37 pm37 an37 cd37 ct37), fun s v => .of_eq rfl, fun base _ _ => ?_⟩
  have M := fun {x : Str} {u : Value} (a : PySem.W.nsIn K mainGlobals x = some (some u)) => PySem.W.mg_of X G a
  have Z := fun {x : Str} (a : PySem.W.nsIn K mainGlobals x = some none) => PySem.W.mg_none_of X G a
  have C1 := cal_mk (ok_gcd (P := l.prog) (w := w) (base := base) F_greatest_divisor (Z z_abs)) (M a_greatest_divisor) k_greatest_divisor b_greatest_divisor .nil
  have C2 := cal_mk (ok_red F_reduced C1) (M a_reduced) k_reduced b_reduced .nil
  have C3 := cal_mk (ok_plus F_plus C2) (M a_plus) k_plus b_plus .nil
  have C5 := cal_mk (ok_times F_times C2) (M a_times) k_times b_times .nil
  have C6 := cal_mk (ok_whole (P := l.prog) (w := w) (base := base) F_is_whole (Z z_isinstance) (Z z_int) (Z z_bool)) (M a_is_whole) k_is_whole b_is_whole .nil
  have C7 := cal_mk (ok_isF F_is_fraction (Z z_isinstance) (Z z_tuple) (Z z_len) C6 C1) (M a_is_fraction) k_is_fraction b_is_fraction .nil
  have CT := cal_mk (ok_total F_total (M a_NOUGHT) hN C3) (M a_total) k_total bt1 vt1
  have C8 := cal_mk (ok_mark (P := l.prog) (w := w) (base := base) F_is_mark (Z z_isinstance) (Z z_str) (Z z_len) (Z z_all) (M a_LONGEST_MARK)) (M a_is_mark) k_is_mark b_is_mark .nil
  have C9 := cal_mk (ok_share F_is_share C7 (M a_GREATEST_BOTTOM)) (M a_is_share) k_is_share b_is_share .nil
  have C10 := cal_mk (ok_room F_are_room_shares (Z z_isinstance) (Z z_list) (Z z_len) (Z z_all) C9 CT (M a_ONE) hO) (M a_are_room_shares) k_are_room_shares b_are_room_shares .nil
  have C11 := cal_mk (ok_marks F_check_marks (Z z_isinstance) (Z z_list) (Z z_len) (Z z_enumerate) C8 (M a_MOST_ROOMS)) (M a_check_marks) k_check_marks b_check_marks .nil
  have C12 := cal_mk (ok_shares F_check_shares (Z z_isinstance) (Z z_list) (Z z_len) (Z z_enumerate) C10) (M a_check_shares) k_check_shares b_check_shares .nil
  have C13 := cal_mk (ok_within F_is_whole_within C6) (M a_is_whole_within) k_is_whole_within b_is_whole_within .nil
  have L_M : LenO l.prog w K mg base c_Machine 1 (spLen K c_Machine) := ⟨⟨_, _, a_Machine___len__, i_Machine___len__, ok_len F_Machine___len__ T (Z z_len), b_Machine___len__⟩⟩
  have C14 := cal_mk (ok_cmach (P := l.prog) (w := w) (base := base) F_check_machine (Z z_isinstance) T (M g_Machine) t1 t2 t3 t4 t5) (M a_check_machine) k_check_machine b_check_machine .nil
  have C15 := cal_mk (ok_croom F_check_room (Z z_len) L_M C13) (M a_check_room) k_check_room b_check_room .nil
  have MA := cal_mk (ad_marks (ok_marks F_check_marks (Z z_isinstance) (Z z_list) (Z z_len) (Z z_enumerate) C8 (M a_MOST_ROOMS))) (M a_check_marks) k_check_marks b_check_marks .nil
  have SA := cal_mk (ad_shares (ok_shares F_check_shares (Z z_isinstance) (Z z_list) (Z z_len) (Z z_enumerate) C10)) (M a_check_shares) k_check_shares b_check_shares .nil
  have KM : CalK l.prog w K mg base 7 "Machine" c_Machine ["self", "marks", "shares"] (spIn K c_Machine) := ⟨⟨_, _, ⟨mk1, a_Machine___init__, i_Machine___init__, mk2⟩, ok_init F_Machine___init__ T (Z z_len) (Z z_list) MA SA, b_Machine___init__⟩, M g_Machine⟩
  have MS0 : CalM l.prog w K mg base c_Machine 1 "shares" ["self"] (spSharesM K c_Machine) := ⟨⟨_, _, ⟨a_Machine_shares, i_Machine_shares, k_Machine_shares⟩, NF.ok_sharesM F_Machine_shares T (Z z_list), b_Machine_shares⟩, CL⟩
  have MS : CalM l.prog w K mg base c_Machine 1 "shares" ["self"] (spP (preM1 K c_Machine fun _ xss => .own (xss.map (rats K)))) := ⟨⟨_, _, ⟨a_Machine_shares, i_Machine_shares, k_Machine_shares⟩, WL.ok_sharesM F_Machine_shares T (Z z_list), b_Machine_shares⟩, CL⟩
  have MM : CalM l.prog w K mg base c_Machine 1 "marks" ["self"] (spP (preM1 K c_Machine fun zs _ => .own (zs.map str))) := ⟨⟨_, _, ⟨a_Machine_marks, i_Machine_marks, k_Machine_marks⟩, ok_marksM F_Machine_marks T (Z z_list), b_Machine_marks⟩, CL⟩
  have C16 := cal_mk (ok_stand (P := l.prog) (w := w) (base := base) F_standing_in (Z z_range) (M a_ONE) hO (M a_NOUGHT) hN) (M a_standing_in) k_standing_in b_standing_in .nil
  have C17 := cal_mk (ok_step F_stepped (Z z_range) (Z z_list) (Z z_len) CT C5) (M a_stepped) k_stepped b_stepped .nil
  have W3 := cal_mk (ad_where (ok_where F_where (Z z_range) (Z z_len) (M a_MOST_STEPS) L_M MS0 C14 C15 C13 C16 C17)) (M a_where) k_where bw3 vw3
  have CMw := cal_mk (ad_cm (ok_cmach (P := l.prog) (w := w) (base := base) F_check_machine (Z z_isinstance) T (M g_Machine) t1 t2 t3 t4 t5)) (M a_check_machine) k_check_machine b_check_machine .nil
  have CRw := cal_mk (ad_cr (ok_croom F_check_room (Z z_len) L_M C13)) (M a_check_room) k_check_room b_check_room .nil
  have CWw := cal_mk (ad_whole (ok_whole (P := l.prog) (w := w) (base := base) F_is_whole (Z z_isinstance) (Z z_int) (Z z_bool))) (M a_is_whole) k_is_whole b_is_whole .nil
  have R1 := cal_mk (ok_reached F_reached (Z z_len) (Z z_sorted) (Z z_enumerate) CMw CRw MS) (M a_reached) k_reached b_reached .nil
  have R2 := cal_mk (ok_order F_is_order (Z z_isinstance) (Z z_list) (Z z_all) (Z z_sorted) (Z z_range) CWw) (M a_is_order) k_is_order b_is_order .nil
  have R3 := cal_mk (ok_renamed F_renamed (Z z_len) L_M CMw R2 KM MM MS) (M a_renamed) k_renamed b_renamed .nil
  have B1 := cal_mk (ad_bag (ok_bag (P := l.prog) (w := w) (base := base) F__law_bag (Z z_len))) (M a__law_bag) k__law_bag b__law_bag .nil
  have B2 := cal_mk (ad_out (ok_out (P := l.prog) (w := w) (base := base) F__law_out)) (M a__law_out) k__law_out b__law_out .nil
  have B30 := cal_mk (ok_low (P := l.prog) (w := w) (base := base) F__law_low (Z z_abs)) (M a__law_low) k__law_low b__law_low .nil
  have B3 := cal_mk (ad_low (ok_low (P := l.prog) (w := w) (base := base) F__law_low (Z z_abs))) (M a__law_low) k__law_low b__law_low .nil
  have B4 := cal_mk (ad_2 (ok_add F__law_add B30)) (M a__law_add) k__law_add b__law_add .nil
  have B5 := cal_mk (ad_2 (ok_mul F__law_mul B30)) (M a__law_mul) k__law_mul b__law_mul .nil
  have B6 := cal_mk (ok_word F__law_word (Z z_range) B2) (M a__law_word) k__law_word b__law_word .nil
  have B7 := cal_mk (ok_goes F__law_goes (Z z_range) (Z z_int) B2 B3) (M a__law_goes) k__law_goes b__law_goes .nil
  have B8 := cal_mk (ok_kit F__law_kit (Z z_range) (Z z_list) B2 B6 B7) (M a__law_kit) k__law_kit b__law_kit .nil
  have B9 := cal_mk (ok_shuf F__law_shuffled (Z z_range) (Z z_list) (Z z_len) B2) (M a__law_shuffled) k__law_shuffled b__law_shuffled .nil
  have L1 := cal_mk (ok_sum F__law_sum B4) (M a__law_sum) k__law_sum b__law_sum .nil
  have L2 := cal_mk (ok_right F__law_right (Z z_range) (Z z_len) L_M W3 R1 L1 B5) (M a__law_right) k__law_right b__law_right .nil
  exact .of (ad_law (ok_law F_law (Z z_range) (Z z_max) (Z z_min) (Z z_len) (Z z_sorted) B1 B2 B8 KM B9 R3 W3 R1 L2))
end WL
open PySem PySem.W PyProof.Rows
set_option maxHeartbeats 0 in
theorem PySem.Challenge.cw_neartwins_k10_whole_behind_more_steps_holds : PySem.Challenge.rw_neartwins_k10_whole_behind_more_steps.Holds := by
  w_on; o_law; k_head; (case hw => w_witness2)
  k_fill
  refine NF.walk_g (l := PySem.Challenge.rw_neartwins_k10_whole_behind_more_steps) (n := 63) (k := 10) (x := "_law_script") (sp := fun w => WL.spLaw _) rfl (by decide) rfl ⟨rfl, by decide, by decide⟩ (fun w h Y => PySem.W.kIn_of Y) ?F (fun _ _ a ns hl _ hS => ⟨a, ns, rfl, hS, hl, fun _ => rfl⟩)
  case F =>
    intro w mg fa h KX G hmg
    refine' WL.all_mk KX G hmg ?a_is_whole ?l_is_whole ?d_is_whole ?k_is_whole ?a_is_whole_within ?l_is_whole_within ?d_is_whole_within ?k_is_whole_within ?a_greatest_divisor ?l_greatest_divisor ?d_greatest_divisor ?k_greatest_divisor ?a_is_fraction ?l_is_fraction ?d_is_fraction ?k_is_fraction ?a_reduced ?l_reduced ?d_reduced ?k_reduced ?a_plus ?l_plus ?d_plus ?k_plus ?a_times ?l_times ?d_times ?k_times ?a_total ?l_total ?d_total ?k_total ?t_total ?a_is_mark ?l_is_mark ?d_is_mark ?k_is_mark ?a_is_share ?l_is_share ?d_is_share ?k_is_share ?a_are_room_shares ?l_are_room_shares ?d_are_room_shares ?k_are_room_shares ?a_check_marks ?l_check_marks ?d_check_marks ?k_check_marks ?a_check_shares ?l_check_shares ?d_check_shares ?k_check_shares ?a_check_machine ?l_check_machine ?d_check_machine ?k_check_machine ?a_check_room ?l_check_room ?d_check_room ?k_check_room ?g_Machine ?a_Machine___init__ ?i_Machine___init__ ?l_Machine___init__ ?d_Machine___init__ ?k_Machine___init__ ?a_Machine_shares ?i_Machine_shares ?l_Machine_shares ?d_Machine_shares ?k_Machine_shares ?a_Machine_marks ?i_Machine_marks ?l_Machine_marks ?d_Machine_marks ?k_Machine_marks ?a_Machine___len__ ?i_Machine___len__ ?l_Machine___len__ ?d_Machine___len__ ?k_Machine___len__ ?a_standing_in ?l_standing_in ?d_standing_in ?k_standing_in ?a_stepped ?l_stepped ?d_stepped ?k_stepped ?a_where ?l_where ?d_where ?k_where ?t_where ?a_reached ?l_reached ?d_reached ?k_reached ?a_is_order ?l_is_order ?d_is_order ?k_is_order ?a_renamed ?l_renamed ?d_renamed ?k_renamed ?a__law_bag ?l__law_bag ?d__law_bag ?k__law_bag ?a__law_out ?l__law_out ?d__law_out ?k__law_out ?a__law_low ?l__law_low ?d__law_low ?k__law_low ?a__law_add ?l__law_add ?d__law_add ?k__law_add ?a__law_mul ?l__law_mul ?d__law_mul ?k__law_mul ?a__law_word ?l__law_word ?d__law_word ?k__law_word ?a__law_goes ?l__law_goes ?d__law_goes ?k__law_goes ?a__law_kit ?l__law_kit ?d__law_kit ?k__law_kit ?a__law_sum ?l__law_sum ?d__law_sum ?k__law_sum ?a__law_shuffled ?l__law_shuffled ?d__law_shuffled ?k__law_shuffled ?a__law_right ?l__law_right ?d__law_right ?k__law_right ?a_law ?l_law ?d_law ?k_law ?z_abs ?z_isinstance ?z_len ?z_max ?z_min ?z_range ?z_sorted ?z_int ?z_bool ?z_tuple ?z_list ?z_str ?z_all ?z_enumerate ?a_NOUGHT ?l_NOUGHT ?a_ONE ?l_ONE ?a_MOST_ROOMS ?a_LONGEST_MARK ?a_GREATEST_BOTTOM ?a_MOST_STEPS ?mk1 ?mk2 ?cl1 ?cl2 ?cl3 ?cl4 ?na1 ?na2 ?t1 ?t2 ?t3 ?t4 ?t5
    (case a_is_whole => k_is); (case l_is_whole => k_is); (case d_is_whole => k_is); (case k_is_whole => k_is); (case a_is_whole_within => k_is); (case l_is_whole_within => k_is); (case d_is_whole_within => k_is); (case k_is_whole_within => k_is); (case a_greatest_divisor => k_is); (case l_greatest_divisor => k_is); (case d_greatest_divisor => k_is); (case k_greatest_divisor => k_is); (case a_is_fraction => k_is); (case l_is_fraction => k_is); (case d_is_fraction => k_is); (case k_is_fraction => k_is); (case a_reduced => k_is); (case l_reduced => k_is); (case d_reduced => k_is); (case k_reduced => k_is); (case a_plus => k_is); (case l_plus => k_is); (case d_plus => k_is); (case k_plus => k_is); (case a_times => k_is); (case l_times => k_is); (case d_times => k_is); (case k_times => k_is); (case a_total => k_is); (case l_total => k_is); (case d_total => k_is); (case k_total => k_is); (case t_total => k_is); (case a_is_mark => k_is); (case l_is_mark => k_is); (case d_is_mark => k_is); (case k_is_mark => k_is); (case a_is_share => k_is); (case l_is_share => k_is); (case d_is_share => k_is); (case k_is_share => k_is); (case a_are_room_shares => k_is); (case l_are_room_shares => k_is); (case d_are_room_shares => k_is); (case k_are_room_shares => k_is); (case a_check_marks => k_is); (case l_check_marks => k_is); (case d_check_marks => k_is); (case k_check_marks => k_is); (case a_check_shares => k_is); (case l_check_shares => k_is); (case d_check_shares => k_is); (case k_check_shares => k_is); (case a_check_machine => k_is); (case l_check_machine => k_is); (case d_check_machine => k_is); (case k_check_machine => k_is); (case a_check_room => k_is); (case l_check_room => k_is); (case d_check_room => k_is); (case k_check_room => k_is); (case g_Machine => k_is); (case a_Machine___init__ => k_is); (case i_Machine___init__ => k_is); (case l_Machine___init__ => k_is); (case d_Machine___init__ => k_is); (case k_Machine___init__ => k_is); (case a_Machine_shares => k_is); (case i_Machine_shares => k_is); (case l_Machine_shares => k_is); (case d_Machine_shares => k_is); (case k_Machine_shares => k_is); (case a_Machine_marks => k_is); (case i_Machine_marks => k_is); (case l_Machine_marks => k_is); (case d_Machine_marks => k_is); (case k_Machine_marks => k_is); (case a_Machine___len__ => k_is); (case i_Machine___len__ => k_is); (case l_Machine___len__ => k_is); (case d_Machine___len__ => k_is); (case k_Machine___len__ => k_is); (case a_standing_in => k_is); (case l_standing_in => k_is); (case d_standing_in => k_is); (case k_standing_in => k_is); (case a_stepped => k_is); (case l_stepped => k_is); (case d_stepped => k_is); (case k_stepped => k_is); (case a_where => k_is); (case l_where => k_is); (case d_where => k_is); (case k_where => k_is); (case t_where => k_is); (case a_reached => k_is); (case l_reached => k_is); (case d_reached => k_is); (case k_reached => k_is); (case a_is_order => k_is); (case l_is_order => k_is); (case d_is_order => k_is); (case k_is_order => k_is); (case a_renamed => k_is); (case l_renamed => k_is); (case d_renamed => k_is); (case k_renamed => k_is); (case a__law_bag => k_is); (case l__law_bag => k_is); (case d__law_bag => k_is); (case k__law_bag => k_is); (case a__law_out => k_is); (case l__law_out => k_is); (case d__law_out => k_is); (case k__law_out => k_is); (case a__law_low => k_is); (case l__law_low => k_is); (case d__law_low => k_is); (case k__law_low => k_is); (case a__law_add => k_is); (case l__law_add => k_is); (case d__law_add => k_is); (case k__law_add => k_is); (case a__law_mul => k_is); (case l__law_mul => k_is); (case d__law_mul => k_is); (case k__law_mul => k_is); (case a__law_word => k_is); (case l__law_word => k_is); (case d__law_word => k_is); (case k__law_word => k_is); (case a__law_goes => k_is); (case l__law_goes => k_is); (case d__law_goes => k_is); (case k__law_goes => k_is); (case a__law_kit => k_is); (case l__law_kit => k_is); (case d__law_kit => k_is); (case k__law_kit => k_is); (case a__law_sum => k_is); (case l__law_sum => k_is); (case d__law_sum => k_is); (case k__law_sum => k_is); (case a__law_shuffled => k_is); (case l__law_shuffled => k_is); (case d__law_shuffled => k_is); (case k__law_shuffled => k_is); (case a__law_right => k_is); (case l__law_right => k_is); (case d__law_right => k_is); (case k__law_right => k_is); (case a_law => k_is); (case l_law => k_is); (case d_law => k_is); (case k_law => k_is); (case z_abs => k_is); (case z_isinstance => k_is); (case z_len => k_is); (case z_max => k_is); (case z_min => k_is); (case z_range => k_is); (case z_sorted => k_is); (case z_int => k_is); (case z_bool => k_is); (case z_tuple => k_is); (case z_list => k_is); (case z_str => k_is); (case z_all => k_is); (case z_enumerate => k_is); (case a_NOUGHT => k_is); (case l_NOUGHT => k_is); (case a_ONE => k_is); (case l_ONE => k_is); (case a_MOST_ROOMS => k_is); (case a_LONGEST_MARK => k_is); (case a_GREATEST_BOTTOM => k_is); (case a_MOST_STEPS => k_is); (case mk1 => k_is); (case mk2 => k_is); (case cl1 => k_is); (case cl2 => k_is); (case cl3 => k_is); (case cl4 => k_is); (case na1 => k_is); (case na2 => k_is); (case t1 => k_is); (case t2 => k_is); (case t3 => k_is); (case t4 => k_is); (case t5 => kit_is)

