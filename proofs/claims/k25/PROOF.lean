import PyProof.Rows.All
import Wide.All
import OpenK.AllK
import Wide.FinOn
import PySem.Challenge.RW_neartwins_k25_what_is_a_fade
import HandS.ForMost
import HandS.Evl
import HandS.Defaults
import HandS.Wide
import HandS.IsInst
import HandS.Flow
import HandS.Exc
import HandS.ExcOwn
import HandS.ExcIs
import HandS.WordsExc
import OpenK.KOps
import HandS.Conv
set_option Elab.async false
set_option linter.all false
set_option maxRecDepth 100000
namespace NF

theorem gcd_step {a b : Int} (h : b ≠ 0) : Int.gcd b (a.fmod b) = Int.gcd a b ∧ (a.fmod b).natAbs < b.natAbs := by
  constructor
  · rw [Int.fmod_def, Int.gcd_sub_mul_left_right, Int.gcd_comm]
  · rcases Int.lt_or_gt_of_ne h with hb | hb
    · have e := Int.neg_fmod_neg a b
      have h1 := Int.fmod_nonneg_of_pos (-a) (show 0 < -b by omega)
      have h2 := Int.fmod_lt_of_pos (-a) (show 0 < -b by omega)
      omega
    · have h1 := Int.fmod_nonneg_of_pos a hb
      have h2 := Int.fmod_lt_of_pos a hb
      omega

/-- what reduced does -/
theorem red_pos {a b : Int} (h : 0 < b) : a.fdiv (Int.gcd a b) = (Rat.divInt a b).num ∧ b.fdiv (Int.gcd a b) = (Rat.divInt a b).den := by
  have hg : (0 : Int) < Int.gcd a b := by
    have : 0 < Int.gcd a b := Int.gcd_pos_of_ne_zero_right _ (by omega)
    omega
  constructor
  · rw [Rat.num_divInt, Int.gcd_comm b a, Int.sign_eq_one_of_pos h, Int.one_mul, Int.fdiv_eq_ediv_of_nonneg _ (by omega)]
  · rw [Rat.den_divInt, if_neg (by omega), Int.gcd_comm b a, Int.fdiv_eq_ediv_of_nonneg _ (by omega)]
    rw [Int.natCast_ediv]
    congr 1
    omega
theorem red_neg {a b : Int} (h : b < 0) : a.fdiv (-(Int.gcd a b : Int)) = (Rat.divInt a b).num ∧ b.fdiv (-(Int.gcd a b : Int)) = (Rat.divInt a b).den := by
  have d1 : (Int.gcd a b : Int) ∣ a := Int.gcd_dvd_left ..
  have d2 : (Int.gcd a b : Int) ∣ b := Int.gcd_dvd_right ..
  constructor
  · rw [Rat.num_divInt, Int.gcd_comm b a, Int.sign_eq_neg_one_of_neg h, Int.fdiv_eq_ediv_of_dvd (by rwa [Int.neg_dvd]), Int.ediv_neg, Int.neg_mul, Int.one_mul, Int.neg_ediv_of_dvd d1]
  · rw [Rat.den_divInt, if_neg (by omega), Int.gcd_comm b a, Int.fdiv_eq_ediv_of_dvd (by rwa [Int.neg_dvd]), Int.ediv_neg, ← Int.neg_ediv_of_dvd d2]
    rw [Int.natCast_ediv]
    congr 1
    omega

/-- how many bits a fraction has -/
def Sz (B : Nat) (x : Rat) : Prop := x.num.natAbs < 2 ^ B ∧ x.den < 2 ^ B
theorem Sz.mono {A B : Nat} {x : Rat} (h : Sz A x) (e : A ≤ B) : Sz B x :=
  ⟨Nat.lt_of_lt_of_le h.1 (Nat.pow_le_pow_right (by decide) e), Nat.lt_of_lt_of_le h.2 (Nat.pow_le_pow_right (by decide) e)⟩
theorem sz_div {B : Nat} {a b : Int} (ha : a.natAbs < 2 ^ B) (hb : b.natAbs < 2 ^ B) (h : b ≠ 0) : Sz B (Rat.divInt a b) := by
  constructor
  · rw [Rat.num_divInt]
    have d1 : (Int.gcd b a : Int) ∣ a := Int.gcd_dvd_right ..
    refine Nat.lt_of_le_of_lt ?_ ha
    have : (b.sign * a / ↑(b.gcd a)).natAbs ≤ (b.sign * a).natAbs := by
      exact Int.natAbs_ediv_le_natAbs ..
    refine Nat.le_trans this ?_
    rw [Int.natAbs_mul]
    have : b.sign.natAbs = 1 := Int.natAbs_sign_of_ne_zero h
    rw [this]; omega
  · rw [Rat.den_divInt, if_neg h]
    exact Nat.lt_of_le_of_lt (Nat.div_le_self ..) hb

theorem den0 (x : Rat) : (x.den : Int) ≠ 0 := by have := x.den_nz; omega
theorem denp (x : Rat) : (0 : Int) < (x.den : Int) := by have := x.den_nz; omega
theorem add_rt (x y : Rat) : x + y = Rat.divInt (x.num * y.den + y.num * x.den) (x.den * y.den) := by
  rw [← Rat.divInt_add_divInt _ _ (den0 x) (den0 y), Rat.num_divInt_den, Rat.num_divInt_den]
theorem sub_rt (x y : Rat) : x - y = Rat.divInt (x.num * y.den - y.num * x.den) (x.den * y.den) := by
  rw [← Rat.divInt_sub_divInt _ _ (den0 x) (den0 y), Rat.num_divInt_den, Rat.num_divInt_den]
theorem mul_rt (x y : Rat) : x * y = Rat.divInt (x.num * y.num) (x.den * y.den) := by
  rw [← Rat.divInt_mul_divInt, Rat.num_divInt_den, Rat.num_divInt_den]
theorem div_rt (x y : Rat) : x / y = Rat.divInt (x.num * y.den) (x.den * y.num) := by
  rw [Rat.div_def, Rat.inv_def, ← Rat.divInt_mul_divInt, Rat.num_divInt_den]
theorem nz_num {x : Rat} (h : x.num ≠ 0) : x ≠ 0 := fun e => h (by rw [e]; rfl)
theorem num_nz {x : Rat} (h : x ≠ 0) : x.num ≠ 0 := fun e => h (Rat.num_eq_zero.mp e)

theorem bits_mul {i j : Int} {a b : Nat} (ha : i.natAbs < 2 ^ a) (hb : j.natAbs < 2 ^ b) : (i * j).natAbs < 2 ^ (a + b) := by
  rw [Int.natAbs_mul, Nat.pow_add]
  exact Nat.mul_lt_mul'' ha hb
theorem bits_add {i j : Int} {a : Nat} (ha : i.natAbs < 2 ^ a) (hb : j.natAbs < 2 ^ a) : (i + j).natAbs < 2 ^ (a + 1) := by
  rw [Nat.pow_succ]; omega
theorem bits_sub {i j : Int} {a : Nat} (ha : i.natAbs < 2 ^ a) (hb : j.natAbs < 2 ^ a) : (i - j).natAbs < 2 ^ (a + 1) := by
  rw [Nat.pow_succ]; omega
theorem bits_up {i : Int} {a b : Nat} (h : i.natAbs < 2 ^ a) (e : a ≤ b) : i.natAbs < 2 ^ b := Nat.lt_of_lt_of_le h (Nat.pow_le_pow_right (by decide) e)
theorem Sz.num {B : Nat} {x : Rat} (h : Sz B x) : x.num.natAbs < 2 ^ B := h.1
theorem Sz.den {B : Nat} {x : Rat} (h : Sz B x) : (x.den : Int).natAbs < 2 ^ B := by have := h.2; omega
theorem den_mul0 (x y : Rat) : (x.den : Int) * y.den ≠ 0 := Int.mul_ne_zero (den0 x) (den0 y)
theorem Sz.add {B : Nat} {x y : Rat} (hx : Sz B x) (hy : Sz B y) : Sz (2 * B + 1) (x + y) := by
  rw [add_rt]
  exact sz_div (bits_up (bits_add (bits_mul hx.num hy.den) (bits_mul hy.num hx.den)) (by omega)) (bits_up (bits_mul hx.den hy.den) (by omega)) (den_mul0 x y)
theorem Sz.sub {B : Nat} {x y : Rat} (hx : Sz B x) (hy : Sz B y) : Sz (2 * B + 1) (x - y) := by
  rw [sub_rt]
  exact sz_div (bits_up (bits_sub (bits_mul hx.num hy.den) (bits_mul hy.num hx.den)) (by omega)) (bits_up (bits_mul hx.den hy.den) (by omega)) (den_mul0 x y)
theorem Sz.mul {B : Nat} {x y : Rat} (hx : Sz B x) (hy : Sz B y) : Sz (2 * B + 1) (x * y) := by
  rw [mul_rt]
  exact sz_div (bits_up (bits_mul hx.num hy.num) (by omega)) (bits_up (bits_mul hx.den hy.den) (by omega)) (den_mul0 x y)
theorem Sz.div {B : Nat} {x y : Rat} (hx : Sz B x) (hy : Sz B y) (h : y ≠ 0) : Sz (2 * B + 1) (x / y) := by
  rw [div_rt]
  exact sz_div (bits_up (bits_mul hx.num hy.den) (by omega)) (bits_up (bits_mul hx.den hy.num) (by omega)) (Int.mul_ne_zero (den0 x) (num_nz h))

/-- how far two are apart -/
def ap (x y : Rat) : Rat := if x < y then y - x else x - y
theorem Sz.ap {B : Nat} {x y : Rat} (hx : Sz B x) (hy : Sz B y) : Sz (2 * B + 1) (ap x y) := by
  unfold NF.ap
  split
  · exact hy.sub hx
  · exact hx.sub hy
theorem ap_comm (x y : Rat) : ap x y = ap y x := by
  unfold NF.ap; grind
theorem ap_tri (x y z : Rat) : ¬ (ap x z + ap z y < ap x y) := by
  unfold NF.ap; grind
theorem ap_zero (x y : Rat) : ap x y = 0 ↔ x = y := by
  unfold NF.ap; grind
theorem ap_pos (x y : Rat) : ¬ (ap x y < 0) := by
  unfold NF.ap; grind
theorem lt3 (x y : Rat) : (if x < y then 1 else 0) + (if x = y then 1 else 0) + (if y < x then 1 else 0) = 1 := by grind
theorem lt_rt (x y : Rat) : x < y ↔ x.num * y.den < y.num * x.den := Rat.lt_iff x y
theorem t1 (x y : Rat) : x + y - y = x := by grind
theorem t2 (x y : Rat) : y + x = x + y := by grind
theorem t3 (x y z : Rat) : 0 + x + y + z = x + y + z := by grind
theorem t4 (x y z : Rat) : x + (y + z) = x + y + z := by grind
theorem t5 (x y z : Rat) : x * y * z = x * (z * y) := by grind
theorem t6 (x y z : Rat) : (x + y) * z = x * z + y * z := by grind
theorem t7 (x z : Rat) (h : z ≠ 0) : x * z / z = x := by grind
theorem cop (x : Rat) : Int.gcd x.num x.den = 1 := x.reduced
end NF

namespace NF
open PySem PySem.Spec PyProof.Rows L2 Evl

/-! ### a fraction as a value -/
section
variable {K : PySem.W.Frag} {H H1 H2 : Hp} {σ : L2.St} {ta tb te : TE} {x y z : Rat} {v w : V} {b : Bool}
def Rt (K : PySem.W.Frag) (H : Hp) (v : V) (x : Rat) : Prop := ∃ p, v = .ref p ∧ SqT K H p [.int x.num, .int x.den]
theorem Rt.mono (h : Rt K H v x) (e : Ex H H1) : Rt K H1 v x := by
  obtain ⟨p, e1, h⟩ := h
  exact ⟨p, e1, ex_t e h⟩
theorem Rt.of {p : Addr} {n d : Int} (h : H p = some (.tup [.int n, .int d])) (en : n = x.num) (ed : d = x.den) : Rt K H (.ref p) x := by
  subst en ed
  exact ⟨p, rfl, SqT.of h⟩
def EvF (K : PySem.W.Frag) (te : TE) (σ : L2.St) (H : Hp) (x : Rat) : Prop := ∀ H1, Ex H H1 → ∀ Q : VK, (∀ v H2, Ex H1 H2 → Rt K H2 v x → Q v H2) → te σ H1 Q
theorem EvF.mono (h : EvF K te σ H x) (e : Ex H H1) : EvF K te σ H1 x := fun H2 a Q q => h H2 (e.trans a) Q q
theorem EvF.to (h : EvF K te σ H x) (e : x = y) : EvF K te σ H y := e ▸ h
theorem ef_var {i : Nat} (h : σ[i]? = some (some v)) (r : Rt K H v x) : EvF K (tVar i) σ H x := fun H1 e _ q => ⟨v, h, q v H1 (Ex.refl H1) (r.mono e)⟩
theorem ev_ix0 (ha : EvF K ta σ H x) : Ev (tOp (rIxT K) ta (tC (.int 0))) σ H (.int x.num) := fun H1 e Q q => ha H1 e _ fun v H2 e2 r => by
  obtain ⟨p, rfl, hs⟩ := r
  exact ⟨p, _, 0, _, rfl, rfl, hs, atI_nat (j := 0) rfl, q H2 e2⟩
theorem ev_ix1 (ha : EvF K ta σ H x) : Ev (tOp (rIxT K) ta (tC (.int 1))) σ H (.int x.den) := fun H1 e Q q => ha H1 e _ fun v H2 e2 r => by
  obtain ⟨p, rfl, hs⟩ := r
  exact ⟨p, _, 1, _, rfl, rfl, hs, atI_nat (j := 1) rfl, q H2 e2⟩
theorem eqv_rt : PyData.eqv (.tuple [.int x.num, .int x.den]) (.tuple [.int y.num, .int y.den]) = decide (x = y) := by
  have e : PyData.eqv (.tuple [.int x.num, .int x.den]) (.tuple [.int y.num, .int y.den]) = (x.num == y.num && ((x.den : Int) == (y.den : Int))) := by
    simp [PyData.eqv, PyData.eqvAll]
  rw [e]
  by_cases h : x = y
  · subst h; simp
  · rw [decide_eq_false h]
    by_cases h1 : x.num = y.num
    · have h2 : (x.den : Int) ≠ y.den := fun e => h (Rat.ext h1 (by omega))
      simp [h2]
    · simp [h1]
theorem dp_rt (h : Rt K H v x) : Dp K H v (.tuple [.int x.num, .int x.den]) := by
  obtain ⟨p, rfl, hs⟩ := h
  exact .tup hs (.cons (.int _) (.cons (.int _) .nil))
theorem ev_eqF (ha : EvF K ta σ H x) (hb : EvF K tb σ H y) : Ev (tOp (rEqD K) ta tb) σ H (.bl (decide (x = y))) := fun H1 e Q q =>
  ha H1 e _ fun v H2 e2 r => hb H2 (e.trans e2) _ fun w H3 e3 r' => ⟨_, _, dp_rt (r.mono e3), dp_rt r', rfl, rfl, by rw [eqv_rt]; exact q H3 (e2.trans e3)⟩
theorem ev_neF (ha : EvF K ta σ H x) (hb : EvF K tb σ H y) : Ev (tOp (rNeD K) ta tb) σ H (.bl (!decide (x = y))) := fun H1 e Q q =>
  ha H1 e _ fun v H2 e2 r => hb H2 (e.trans e2) _ fun w H3 e3 r' => ⟨_, _, dp_rt (r.mono e3), dp_rt r', rfl, rfl, by rw [eqv_rt]; exact q H3 (e2.trans e3)⟩
/-- a written pair -/
theorem ef_tup {n d : Int} (h : EvU te σ H [.int n, .int d]) (en : n = x.num) (ed : d = x.den) : EvF K te σ H x := fun H1 e Q q =>
  h H1 e _ fun p H2 _ e2 hp => q _ H2 e2 (Rt.of hp en ed)
theorem ef_if {t : TT} (h : EvT t σ H b) (h1 : b = true → EvF K ta σ H x) (h2 : b = false → EvF K tb σ H x) : EvF K (tIf t ta tb) σ H x := fun H1 e Q q => h H1 e _ fun H2 e2 => by
  cases b with
  | true =>
    show ta σ H2 Q
    exact h1 rfl H2 (e.trans e2) Q fun v H3 e3 r => q v H3 (e2.trans e3) r
  | false =>
    show tb σ H2 Q
    exact h2 rfl H2 (e.trans e2) Q fun v H3 e3 r => q v H3 (e2.trans e3) r
variable {D : Ends} {tu tw tz : TS}
theorem s_retF (h : EvF K te σ H x) (k : ∀ u H1, Ex H H1 → Rt K H1 u x → D.rt u H1) : tRet te D σ H := h H (Ex.refl H) _ k
theorem q_asgF {i : Nat} (h : EvF K te σ H x) (k : ∀ u H1, Ex H H1 → Rt K H1 u x → tz D (σ.set i (some u)) H1) : tSeq (tAsg te (gName i)) tz D σ H := h H (Ex.refl H) _ fun u H1 e r => k u H1 e r
theorem s_asgF {i : Nat} (h : EvF K te σ H x) (k : ∀ u H1, Ex H H1 → Rt K H1 u x → D.nx (σ.set i (some u)) H1) : tAsg te (gName i) D σ H := h H (Ex.refl H) _ fun u H1 e r => k u H1 e r
theorem s_par {i j : Nat} {ta : TA} (h : EvA ta σ H [v, w]) (k : ∀ H1, Ex H H1 → D.nx ((σ.set i (some v)).set j (some w)) H1) : tPar i j ta D σ H := h H (Ex.refl H) _ fun H1 e => ⟨v, w, rfl, k H1 e⟩
end

/-! ### // by any divisor but 0 -/
def CDivX (_ j : Int) : Prop := j ≠ 0 ∧ j.natAbs.log2 < 9000
theorem op_fdivX {X : Cx} : OpR X (binaryOp .FloorDiv) (rI CDivX fun i j => .int (i.fdiv j)) := opI fun _ _ _ _ _ _ _ hc q => floordiv_int hc.1 q (.inl (PyProof.noPylong_of_log2 hc.2))
theorem divX {i j : Int} {b : Nat} (h : j ≠ 0) (hb : j.natAbs < 2 ^ b) (h0 : 0 < b) (h9 : b ≤ 9000) : CDivX i j := ⟨h, Nat.lt_of_lt_of_le (PySem.Flt.log2_lt_of h0 hb) h9⟩

/-! ### a def that is called -/
structure Cal (P : Program) (w : World) (K : PySem.W.Frag) (mg : Str → Option Value) (base : Heap) (k : Nat) (x : Str) (ps : List Str) (dvs : List V) (sp : Sp) : Prop where
  ex : ∃ (f : Addr) (fd : FuncData) (ds : List Value), FnOk P w K mg base CX0 k f fd ps sp ∧ mg x = some (.ref f) ∧ PySem.W.keepIn K (.ref f) = true ∧ Binds K fd ps ds ∧ Vals dvs ds
theorem pe_cal {X : Cx} {j k : Nat} {x : Str} {ps : List Str} {dvs : List V} {sp : Sp} {e : Expr} {es : List Expr} {t : TA} {p pos : Pos} (C : Cal X.prog X.w X.K X.mg X.base k x ps dvs sp) (hr : Room j X.A) (hk : k ≤ j) (hg : Gl X x)
    (ha : PA X (e :: es) t) (hdb : (x == ("__debug__" : Str)) = false := by decide) (he : starEach (e :: es) X.env = (false, eval e X.env) :: starEach es X.env := by rfl) (hpl : (backTo pos (starEach es X.env)).any (·.1) = false := by rfl) :
    PE X (.Call (.Name x p) (e :: es) [] pos) (tCall sp dvs E0 t) := by
  obtain ⟨f, fd, ds, F, hm, kp, b, d⟩ := C.ex
  exact pe_call F (hr.mono hk) hg hm kp b d pass0 ha hdb he hpl

/-! ### promises -/
def spGcd : Sp := fun vs H Q _ => ∃ a b : Int, vs = [.int a, .int b] ∧ ∀ H', Ex H H' → Q (.int (Int.gcd a b)) H'
def spRed (K : PySem.W.Frag) : Sp := fun vs H Q _ => ∃ (a b : Int) (B : Nat), vs = [.int a, .int b] ∧ b ≠ 0 ∧ a.natAbs < 2 ^ B ∧ b.natAbs < 2 ^ B ∧ 0 < B ∧ B ≤ 9000 ∧ ∀ v H', Ex H H' → Rt K H' v (Rat.divInt a b) → Q v H'
def sp2 (K : PySem.W.Frag) (C : Rat → Rat → Prop) (f : Rat → Rat → Rat) : Sp := fun vs H Q _ => ∃ (v w : V) (x y : Rat) (B : Nat), vs = [v, w] ∧ Rt K H v x ∧ Rt K H w y ∧ C x y ∧ Sz B x ∧ Sz B y ∧ 0 < B ∧ B ≤ 4000 ∧ ∀ u H', Ex H H' → Rt K H' u (f x y) → Q u H'
def spLt (K : PySem.W.Frag) : Sp := fun vs H Q _ => ∃ (v w : V) (x y : Rat) (B : Nat), vs = [v, w] ∧ Rt K H v x ∧ Rt K H w y ∧ Sz B x ∧ Sz B y ∧ 0 < B ∧ B ≤ 400000 ∧ ∀ H', Ex H H' → Q (.bl (decide (x < y))) H'
section
variable {K : PySem.W.Frag} {H H1 H2 : Hp} {σ : L2.St} {ta tb te : TE} {x y z : Rat} {v w : V} {B : Nat} {C : Rat → Rat → Prop} {f : Rat → Rat → Rat} {E : XK}
theorem ef_2 (ha : EvF K ta σ H x) (hb : EvF K tb σ H y) (hc : C x y) (sx : Sz B x) (sy : Sz B y) (h0 : 0 < B) (h4 : B ≤ 4000) : EvF K (tCall (sp2 K C f) [] E (tCons ta (tCons tb tNil))) σ H (f x y) := fun H1 e Q q =>
  ha H1 e _ fun v H2 e2 r => hb H2 (e.trans e2) _ fun w H3 e3 r' => ⟨v, w, x, y, B, rfl, r.mono e3, r', hc, sx, sy, h0, h4, fun u H' e4 ru => q u H' ((e2.trans e3).trans e4) ru⟩
theorem ev_lt (ha : EvF K ta σ H x) (hb : EvF K tb σ H y) (sx : Sz B x) (sy : Sz B y) (h0 : 0 < B) (h4 : B ≤ 400000) : Ev (tCall (spLt K) [] E (tCons ta (tCons tb tNil))) σ H (.bl (decide (x < y))) := fun H1 e Q q =>
  ha H1 e _ fun v H2 e2 r => hb H2 (e.trans e2) _ fun w H3 e3 r' => ⟨v, w, x, y, B, rfl, r.mono e3, r', sx, sy, h0, h4, fun H' e4 => q H' ((e2.trans e3).trans e4)⟩
theorem ef_red {a b : Int} (ha : Ev ta σ H (.int a)) (hb : Ev tb σ H (.int b)) (hn : b ≠ 0) (ba : a.natAbs < 2 ^ B) (bb : b.natAbs < 2 ^ B) (h0 : 0 < B) (h4 : B ≤ 9000) : EvF K (tCall (spRed K) [] E (tCons ta (tCons tb tNil))) σ H (Rat.divInt a b) := fun H1 e Q q =>
  ha H1 e _ fun H2 e2 => hb H2 (e.trans e2) _ fun H3 e3 => ⟨a, b, B, rfl, hn, ba, bb, h0, h4, fun u H' e4 ru => q u H' ((e2.trans e3).trans e4) ru⟩
theorem ev_gcd {a b : Int} (ha : Ev ta σ H (.int a)) (hb : Ev tb σ H (.int b)) : Ev (tCall spGcd [] E (tCons ta (tCons tb tNil))) σ H (.int (Int.gcd a b)) := fun H1 e Q q =>
  ha H1 e _ fun H2 e2 => hb H2 (e.trans e2) _ fun H3 e3 => ⟨a, b, rfl, fun H' e4 => q H' ((e2.trans e3).trans e4)⟩
end
end NF

namespace NF
open PySem PySem.Spec PyProof.Rows L2 Evl
/-! ### isinstance -/
theorem c_ty {X : Cx} {x : Str} {n : String} {pos : Pos} (hm : X.mg x = none) (hg : Gl X x) (hv : bootBuiltins x = some (.type n)) (hn : x ≠ "__name__") (hd : (x == ("__debug__" : Str)) = false := by decide) : PE X (.Name x pos) (tC (.ty n)) := pe_bltn hg hm hv rfl hn hd
section
variable {K : PySem.W.Frag} {H H1 H2 : Hp} {σ : L2.St} {ta tb te : TE} {v w : V} {t c : String} {b : Bool} {E : XK}
theorem tyx_mono {t : Value} (h : TyX K H v t) (e : Ex H H1) : TyX K H1 v t := by
  cases h with
  | base b =>
    refine .base ?_
    cases b with
    | non => exact .non
    | bl y => exact .bl y
    | int i => exact .int i
    | str y => exact .str y
    | flt y => exact .flt y
    | lst ea => exact .lst (e _ _ ea)
    | frz ea => exact .frz (e _ _ ea)
    | tup ea => exact .tup (e _ _ ea)
    | dK ea => exact .dK (e _ _ ea)
    | dT ea => exact .dT (e _ _ ea)
    | ins ea cl ha hn htk hm => exact .ins (e _ _ ea) cl ha hn htk hm
  | byt y => exact .byt y
  | set ea => exact .set (e _ _ ea)
  | kList ea c => exact .kList ea c
  | kTuple ea c => exact .kTuple ea c
  | kDict ea c => exact .kDict ea c
  | fTuple ea => exact .fTuple (e _ _ ea)
  | fDict ea => exact .fDict (e _ _ ea)
theorem ev_isi (h : Ev ta σ H v) (ty : TyX K H v (.type t)) (kb : kitB t c = some b) : Ev (tCB (rIsi K) (tCons ta (tCons (tC (.ty c)) tNil))) σ H (.bl b) := fun H1 e Q q =>
  h H1 e _ fun H2 e2 => ⟨v, .ty c, _, _, b, rfl, .ty c, tyx_mono ty (e.trans e2), kit_ty kb, q H2 e2⟩
def spWhole (K : PySem.W.Frag) : Sp := fun vs H Q _ => ∃ (v : V) (t : String) (b1 b2 : Bool), vs = [v] ∧ TyX K H v (.type t) ∧ kitB t "int" = some b1 ∧ kitB t "bool" = some b2 ∧ ∀ H', Ex H H' → Q (.bl (b1 && !b2)) H'
theorem ev_whole {b1 b2 : Bool} (h : Ev ta σ H v) (ty : TyX K H v (.type t)) (k1 : kitB t "int" = some b1) (k2 : kitB t "bool" = some b2) : Ev (tCall (spWhole K) [] E (tCons ta tNil)) σ H (.bl (b1 && !b2)) := fun H1 e Q q =>
  h H1 e _ fun H2 e2 => ⟨v, t, b1, b2, rfl, tyx_mono ty (e.trans e2), k1, k2, fun H' e3 => q H' (e2.trans e3)⟩
theorem kit_ii : kitB "int" "int" = some true := by decide +kernel
theorem kit_ib : kitB "int" "bool" = some false := by decide +kernel
theorem kit_tt : kitB "tuple" "tuple" = some true := by decide +kernel
theorem ty_int (i : Int) : TyX K H (.int i) (.type "int") := .base (.int i)
theorem ev_wholeI {i : Int} (h : Ev ta σ H (.int i)) : Ev (tCall (spWhole K) [] E (tCons ta tNil)) σ H (.bl true) := ev_whole h (ty_int i) kit_ii kit_ib
theorem ty_tup {p : Addr} {xs : List V} (h : SqT K H p xs) : TyX K H (.ref p) (.type "tuple") := by
  rcases h with (h | ⟨o, h⟩) | ⟨o, its, n, e, c, _⟩
  · exact .base (.tup h)
  · exact .fTuple h
  · exact .kTuple e c
end
def spFrac (K : PySem.W.Frag) : Sp := fun vs H Q _ => ∃ (a b : Int) (B : Nat), vs = [.int a, .int b] ∧ b ≠ 0 ∧ a.natAbs < 2 ^ B ∧ b.natAbs < 2 ^ B ∧ 0 < B ∧ B ≤ 9000 ∧ ∀ v H', Ex H H' → Rt K H' v (Rat.divInt a b) → Q v H'
def spIsF (K : PySem.W.Frag) : Sp := fun vs H Q _ => ∃ (v : V) (x : Rat), vs = [v] ∧ Rt K H v x ∧ ∀ H', Ex H H' → Q (.bl true) H'
/-- fractions in a list -/
inductive RtAll (K : PySem.W.Frag) (H : Hp) : List V → List Rat → Prop
  | nil : RtAll K H [] []
  | cons {v : V} {vs : List V} {x : Rat} {xs : List Rat} : Rt K H v x → RtAll K H vs xs → RtAll K H (v :: vs) (x :: xs)
theorem RtAll.mono {K : PySem.W.Frag} {H H1 : Hp} (e : Ex H H1) : ∀ {vs : List V} {xs : List Rat}, RtAll K H vs xs → RtAll K H1 vs xs
  | _, _, .nil => .nil
  | _, _, .cons h t => .cons (h.mono e) (RtAll.mono e t)
theorem RtAll.get {K : PySem.W.Frag} {H : Hp} : ∀ {vs : List V} {xs : List Rat} {i : Nat} {v : V}, RtAll K H vs xs → vs[i]? = some v → ∃ x, xs[i]? = some x ∧ Rt K H v x
  | _, _, _, _, .nil, e => by simp at e
  | _, _, 0, _, .cons h _, e => by
    have e' := Option.some.inj e
    subst e'
    exact ⟨_, rfl, h⟩
  | _, _, i + 1, _, .cons _ t, e => RtAll.get (i := i) t e
theorem RtAll.length {K : PySem.W.Frag} {H : Hp} : ∀ {vs : List V} {xs : List Rat}, RtAll K H vs xs → vs.length = xs.length
  | _, _, .nil => rfl
  | _, _, .cons _ t => congrArg Nat.succ (RtAll.length t)
def sumF (x0 : Rat) (xs : List Rat) : Rat := xs.foldl (· + ·) x0
theorem sumF_take {x0 x : Rat} {xs : List Rat} {i : Nat} (h : xs[i]? = some x) : sumF x0 (xs.take (i + 1)) = sumF x0 (xs.take i) + x := by
  unfold sumF
  rw [List.take_add_one, h, List.foldl_append]
  rfl
/-- one summand after another -/
theorem Sz.addAB {A B : Nat} {x y : Rat} (hx : Sz A x) (hy : Sz B y) : Sz (A + B + 1) (x + y) := by
  rw [add_rt]
  exact sz_div (bits_add (bits_mul hx.num hy.den) (bits_up (bits_mul hy.num hx.den) (by omega))) (bits_up (bits_mul hx.den hy.den) (by omega)) (den_mul0 x y)
theorem sz_sum {B : Nat} {x0 : Rat} {xs : List Rat} (h0 : Sz B x0) (hs : ∀ x ∈ xs, Sz B x) : ∀ i, i ≤ xs.length → Sz ((i + 1) * (B + 1)) (sumF x0 (xs.take i))
  | 0, _ => by
    refine Sz.mono (A := B) ?_ (by omega)
    exact h0
  | i + 1, h => by
    have hi : i < xs.length := by omega
    rw [sumF_take (List.getElem?_eq_getElem hi)]
    refine Sz.mono ((sz_sum h0 hs i (by omega)).addAB (hs _ (List.getElem_mem hi))) ?_
    rw [Nat.succ_mul (i + 1)]
    omega
def spTot (K : PySem.W.Frag) : Sp := fun vs H Q _ => ∃ (a : Addr) (us : List V) (xs : List Rat) (w : V) (x0 : Rat) (B : Nat), vs = [.ref a, w] ∧ SqL K H a us ∧ RtAll K H us xs ∧ ((w = .non ∧ x0 = 0) ∨ Rt K H w x0) ∧ Sz B x0 ∧ (∀ x ∈ xs, Sz B x) ∧
  (xs.length + 2) * (B + 1) ≤ 4000 ∧ ∀ u H', Ex H H' → Rt K H' u (sumF x0 xs) → Q u H'
end NF

namespace NF
open PySem PySem.Spec PyProof.Rows L2 Evl
/-! ### promises that also know that no repr is under way (the layer's FnOk says nothing of guards, so repr of a tuple has no rule over it) -/
structure FnG (P : Program) (w : World) (K : PySem.W.Frag) (mg : Str → Option Value) (base : Heap) (CX : CXT) (k : Nat) (f : Addr) (fd : FuncData) (ps : List Str) (sp : Sp) : Prop where
  many : ∀ vs H Q E, sp vs H Q E → vs.length = ps.length
  goes : ∀ (A : Around) (out : List Env) (s : Shared) (H : Hp) (args : Args) (us : List Value) (vs : List V) (Q : VK) (E : XK), A.guards = some [] → Room k A → Env0 P w K mg base A out s H →
    BindsTo s fd args (ps.zip us) → Vals vs us → sp vs H Q E → codeAny (model P w) A (.call (.ref f) args) (CR CX out P w H s Q E) s
section
variable {P : Program} {w : World} {K : PySem.W.Frag} {mg : Str → Option Value} {base : Heap} {CX : CXT} {k j : Nat} {f : Addr} {fd : FuncData} {ps N : List Str} {sp : Sp}
theorem FnG.of (F : FnOk P w K mg base CX k f fd ps sp) : FnG P w K mg base CX k f fd ps sp :=
  ⟨F.len, fun A out s H args us vs Q E _ hr he hb hv hs => F.run A out s H args us vs Q E hr he hb hv hs⟩
theorem FnG.more (F : FnG P w K mg base CX k f fd ps sp) (h : k ≤ j) : FnG P w K mg base CX j f fd ps sp :=
  ⟨F.many, fun A out s H args us vs Q E g hr => F.goes A out s H args us vs Q E g (hr.mono h)⟩
/-- a def by its body, where no repr is under way -/
theorem fn_g {name qual : Str} {params : Arguments} {body : List Stmt} {scope : Scope} {dV kV doc pm cdv ct oc : Value} {an od : Option Addr} {osl : Array (Option Value)}
    (at_f : K.lookup f = some ⟨oc, od, .func (PySem.W.fnOf name qual params body scope dV kV doc pm an cdv ct), osl⟩) (code_f : PySem.W.codeIn K cdv qual = true) (S : FnScope N ps scope) (many : ∀ vs H Q E, sp vs H Q E → vs.length = ps.length)
    (walk : ∀ (A : Around) (out : List Env) (s : Shared) (H : Hp) (vs : List V) (Q : VK) (E : XK), A.guards = some [] → Room k (A.deeper (envOfC qual scope s.heap.objs.size f cdv)) → sp vs H Q E →
      ∃ t, PSs (cxOf CX P w K mg base N qual scope f cdv A out s H E) body t ∧ t { nx := fun _ G => Q .non G, rt := Q } (start N vs) H) : FnG P w K mg base CX (k + 1) f (PySem.W.fnOf name qual params body scope dV kV doc pm an cdv ct) ps sp := by
  constructor
  · exact many
  · intro A out s H args us vs Q E g hr he hb hv hs
    have kin := he.mod.kin.keeps fun b o e => (he.bs b o e).1
    have nol := he.mod.nolimit.keeps fun b o e => (he.bs b o e).1
    refine codeAny_call_function hr.depth (kin _ _ at_f) rfl S.co S.gen rfl (PySem.W.codeRec_of kin code_f) (hb _ _ _ _ ?_)
    refine wpAny_newFunctionEnv_cells S.kind ?_ ?_
    · rintro ⟨n, u⟩ hn
      exact (S.par n (List.of_mem_zip hn).1).imp id fun c => ⟨c, PySem.W.cellsFrom_some _ _ _ (.inl c)⟩
    · intro env e1 s1 x
      subst e1
      obtain ⟨t, d, q⟩ := walk A out s H vs Q E g (hr.deeper _) hs
      have I1 := inv_start (CX := CX) (E := E) S hr.hd he (many _ _ _ _ hs) hv x
      refine ⟨nol.keeps x.toInCall.keep, codeAny_func (wpAny_mono (d.run [] s1 (start N vs) H _ I1 q) ?_ fun _ _ z => z)⟩
      intro fl s2 z
      cases fl with
      | next =>
        obtain ⟨_, G, J, y⟩ := z
        exact ⟨.non, G, J.os, J.bare, J.base, J.hok, rfl, y⟩
      | ret u =>
        obtain ⟨v, _, G, J, rv, y⟩ := z
        exact ⟨v, G, J.os, J.bare, J.base, J.hok, rv, y⟩
      | brk => exact z.elim fun _ z => z.elim fun _ z => z.2.elim
      | cont => exact z.elim fun _ z => z.elim fun _ z => z.2.elim
end
/-- a def that is called, no repr under way -/
structure CaG (P : Program) (w : World) (K : PySem.W.Frag) (mg : Str → Option Value) (base : Heap) (CX : CXT) (k : Nat) (x : Str) (ps : List Str) (dvs : List V) (sp : Sp) : Prop where
  ex : ∃ (f : Addr) (fd : FuncData) (ds : List Value), FnG P w K mg base CX k f fd ps sp ∧ mg x = some (.ref f) ∧ PySem.W.keepIn K (.ref f) = true ∧ Binds K fd ps ds ∧ Vals dvs ds
theorem Cal.g {P : Program} {w : World} {K : PySem.W.Frag} {mg : Str → Option Value} {base : Heap} {k : Nat} {x : Str} {ps : List Str} {dvs : List V} {sp : Sp} (C : Cal P w K mg base k x ps dvs sp) : CaG P w K mg base CX0 k x ps dvs sp := by
  obtain ⟨f, fd, ds, F, r⟩ := C.ex
  exact ⟨f, fd, ds, .of F, r⟩
theorem caG_mk {P : Program} {w : World} {K : PySem.W.Frag} {mg : Str → Option Value} {base : Heap} {CX : CXT} {k : Nat} {x : Str} {ps : List Str} {dvs : List V} {sp : Sp} {f : Addr} {fd : FuncData} {ds : List Value} (h : FnG P w K mg base CX k f fd ps sp) (m : mg x = some (.ref f)) (kp : PySem.W.keepIn K (.ref f) = true)
    (b : Binds K fd ps ds) (d : Vals dvs ds) : CaG P w K mg base CX k x ps dvs sp := ⟨⟨f, fd, ds, h, m, kp, b, d⟩⟩
section
variable {X : Cx} {CX : CXT} {j k : Nat} {f : Addr} {fd : FuncData} {ps : List Str} {sp : Sp} {dvs : List V} {ds : List Value} {E : XK} {x : Str} {p pos : Pos} {e : Expr} {es : List Expr} {t : TA}
theorem run_g {pins : List (Addr × Obj)} {σ : L2.St} {H : Hp} {s : Shared} {Q : VK} {us : List Value} {vs : List V} (F : FnG X.prog X.w X.K X.mg X.base CX k f fd ps sp) (g : X.A.guards = some []) (hr : Room k X.A) (b : Binds X.K fd ps ds) (d : Vals dvs ds) (out : Passes CX X E)
    (I : Inv X pins σ H s) (v : Vals vs us) (h : sp (vs ++ dvs) H Q E) : wpAny (model X.prog X.w) X.A (call (.ref f) us) (EP X pins σ Q) X.xe s := by
  have va := v.append d
  have le : (us ++ ds).length = ps.length := va.length.symm.trans (F.many _ _ _ _ h)
  refine wpAny_call (codeAny_mono (F.goes X.A X.stack s H ⟨us, []⟩ _ _ Q E g hr I.env0 (b s us I.kIn le) va h) ?_)
  intro r s2 z
  match r, z with
  | .error y, z => exact out pins σ H s y s2 I z
  | .ok (.ret u), z => exact I.after z
theorem pe_caX (C : CaG X.prog X.w X.K X.mg X.base CX k x ps dvs sp) (g : X.A.guards = some []) (hr : Room j X.A) (hk : k ≤ j) (gl : Gl X x) (out : Passes CX X E) (ha : PA X (e :: es) t) (db : (x == ("__debug__" : Str)) = false := by decide)
    (he : starEach (e :: es) X.env = (false, eval e X.env) :: starEach es X.env := by rfl) (pl : (backTo pos (starEach es X.env)).any (·.1) = false := by rfl) : PE X (.Call (.Name x p) (e :: es) [] pos) (tCall sp dvs E t) := by
  obtain ⟨f, fd, ds, F, hm, kp, b, d⟩ := C.ex
  constructor
  intro pins s σ H Q I h
  refine wpAny_Call_Name_kw (ld_glob I gl hm (PySem.W.callWith_K (h₀ := X.base) I.ok.mod.kin kp (thn (ha.run pos pins s σ H _ I h) ?_) he pl) db)
  rintro us s1 ⟨vs, G, J, r, q⟩
  exact ⟨J.kIn, run_g F g (hr.mono hk) b d out J r q⟩
theorem pe_caG (C : CaG X.prog X.w X.K X.mg X.base CX0 k x ps dvs sp) (g : X.A.guards = some []) (hr : Room j X.A) (hk : k ≤ j) (gl : Gl X x) (ha : PA X (e :: es) t) (db : (x == ("__debug__" : Str)) = false := by decide)
    (he : starEach (e :: es) X.env = (false, eval e X.env) :: starEach es X.env := by rfl) (pl : (backTo pos (starEach es X.env)).any (·.1) = false := by rfl) : PE X (.Call (.Name x p) (e :: es) [] pos) (tCall sp dvs E0 t) := pe_caX C g hr hk gl pass0 ha db he pl
end
theorem Fun.okG {P : Program} {w : World} {K : PySem.W.Frag} {mg : Str → Option Value} {base : Heap} {x qual : Str} {st : Stmt} {f : Addr} {fd : FuncData} {N ps : List Str} {k : Nat} {sp : Sp} (F : L2.Fun K x qual st f fd) (S : FnScope N ps (defScope st)) (many : ∀ vs H Q E, sp vs H Q E → vs.length = ps.length)
    (walk : ∀ (cdv : Value) (A : Around) (out : List Env) (s : Shared) (H : Hp) (vs : List V) (Q : VK) (E : XK), A.guards = some [] → Room k (A.deeper (envOfC qual (defScope st) s.heap.objs.size f cdv)) → sp vs H Q E →
      ∃ t, PSs (cxOf CX0 P w K mg base N qual (defScope st) f cdv A out s H E).nox (defBody st) t ∧ t { nx := fun _ G => Q .non G, rt := Q } (start N vs) H) : FnG P w K mg base CX0 (k + 1) f fd ps sp := by
  obtain ⟨_, _, _, _, _, _, cdv, _, _, rfl, lk, hcd⟩ := F.ex
  exact fn_g lk hcd S many fun A out s H vs Q E g hr hs => (walk cdv A out s H vs Q E g hr hs).elim fun t z => ⟨t, z.1.nox, z.2⟩
end NF

namespace NF
open PySem PySem.Spec PyProof.Rows L2 Evl
/-! ### the end of a law row, from a promise that knows of guards -/
section
variable {P : Program} {w : World} {K : PySem.W.Frag} {mg mb : Str → Option Value} {CX : CXT} {k : Nat} {fa a : Addr} {fd : FuncData} {x : Str} {sp : Sp} {s₁ : Shared} {vs : List Value} {ns : List Int}
/-- the call, where the script alone may be tracked -/
theorem goes_from {H : Hp} (g : Heap) (KX : K.In g) (NX : g.Ns mainGlobals mg) (F : FnG P w K mg g CX k fa fd [x] sp) (hr : Room k callerA) (e0 : Env0 P w K mg g callerA [] s₁ H) (bd : ∀ (s : Shared) (u : Value), BindsTo s fd ⟨[u], []⟩ [(x, u)])
    (hO : Only H) (hsp : sp [.ref a] H (fun v _ => v = .bl true) fun _ _ _ => False) (hCX : ∀ H e s', CX [] H s₁ (fun _ _ _ => False) e s' → False) :
    codeAny (model P w) callerA (.call (.ref fa) ⟨[.ref a], []⟩) (fun r s' => r = .ok (.ret (.bool true)) ∧ OldK s₁.heap s'.heap ∧ s'.os = s₁.os ∧ AllBare s'.gens) s₁ := by
  refine codeAny_mono (F.goes callerA [] s₁ H ⟨[.ref a], []⟩ [.ref a] [.ref a] _ _ rfl hr e0 (bd s₁ _) (.cons rfl .nil) hsp) ?_
  intro r s2 z
  match r, z with
  | .error e, z => exact (hCX H e s2 z).elim
  | .ok (.ret u), z =>
    obtain ⟨v, G, h1, h2, un, ok2, rv, q⟩ := z
    cases (show v = .bl true from q)
    cases (show u = Value.bool true from rv)
    refine ⟨rfl, OldK.of_keep ?_, h1, h2⟩
    intro b o eb
    rcases hO b with n | ⟨ob, xs, y⟩
    · exact un.keep b o eb n (List.not_mem_nil) (List.not_mem_nil)
    · have y1 := (e0.hok b _ y).1
      have y2 := (ok2 b _ (un.frzs b ob _ y)).1
      rw [eb] at y1
      rw [y2, y1]
theorem law_goes (KX : K.In s₁.heap) (NX : s₁.heap.Ns mainGlobals mg) (BX : s₁.heap.Ns builtinsNs mb) (bb : ∀ x : Str, x ≠ "__name__" → mb x = bootBuiltins x) (nol : s₁.heap.NoLimit) (gn : s₁.gens = #[])
    (ea : s₁.heap.get? a = some { cls := .type "list", data := .seq vs.toArray }) (hi : IntsAre vs ns) (hl : ns.length ≤ sizeLine) (hr : Room k callerA)
    (F : ∀ base : Heap, K.In base → base.Ns mainGlobals mg → FnG P w K mg base CX k fa fd [x] sp) (bd : ∀ (s : Shared) (u : Value), BindsTo s fd ⟨[u], []⟩ [(x, u)])
    (hsp : ∀ H : Hp, Only H → SqL K H a (ns.map V.int) → sp [.ref a] H (fun v _ => v = .bl true) fun _ _ _ => False) (hCX : ∀ H e s', CX [] H s₁ (fun _ _ _ => False) e s' → False) :
    codeAny (model P w) callerA (.call (.ref fa) ⟨[.ref a], []⟩) (fun r s' => r = .ok (.ret (.bool true)) ∧ OldK s₁.heap s'.heap ∧ s'.os = s₁.os ∧ AllBare s'.gens) s₁ := by
  have rv := vals_ints hi
  by_cases inK : ∃ o, K.lookup a = some o
  · obtain ⟨o, lo⟩ := inK
    have eo := (KX a o lo).symm.trans ea
    cases eo
    have ok0 : HOk P w (fun _ => none) s₁.heap := fun _ _ z => nomatch (show (none : Option HO) = some _ from z)
    have m0 : Mod K mg s₁.heap := ⟨KX, NX, ⟨mb, BX, bb⟩, nol⟩
    exact goes_from s₁.heap KX NX (F _ KX NX) hr ⟨rfl, m0, fun b o e => ⟨e, rfl⟩, Nat.le_refl _, trivial, fun b z => absurd z List.not_mem_nil, ok0, .of_eq gn⟩ bd (fun _ => .inl rfl)
      (hsp _ (fun _ => .inl rfl) (.inr ⟨_, vs.toArray, _, lo, rfl, rfl, rfl, by rw [List.size_toArray, hi.length]; exact hl, rv⟩)) hCX
  · -- the script is tracked, known to the object
    have noK : K.lookup a = none := by
      cases c : K.lookup a with
      | none => rfl
      | some o => exact absurd ⟨o, c⟩ inK
    let H : Hp := fun b => if b = a then some (.frz { cls := .type "list", data := .seq vs.toArray } (.lst (ns.map V.int))) else none
    have Ha : H a = some (.frz { cls := .type "list", data := .seq vs.toArray } (.lst (ns.map V.int))) := if_pos rfl
    have Hn : ∀ {b}, b ≠ a → H b = none := fun n => if_neg n
    have hO : Only H := fun b => by
      by_cases c : b = a
      · exact .inr ⟨_, _, c ▸ Ha⟩
      · exact .inl (Hn c)
    have ok1 : HOk P w H s₁.heap := fun b u z => by
      by_cases c : b = a
      · subst c
        rw [Ha] at z
        cases z
        exact ⟨ea, by rw [List.length_map]; exact hl, vs, _, rv, ea⟩
      · rw [Hn c] at z
        cases z
    have up : ∀ {b o}, s₁.heap.get? b = some o → b ≠ a → (hidT s₁.heap H).get? b = some o := fun e n => hidT_get e (Hn n)
    have na : ∀ {b o es ep}, s₁.heap.get? b = some o → o.data = .dict es ep → b ≠ a := fun {b o es ep} e d c => by
      subst c
      rw [ea] at e
      cases e
      cases (show Data.seq vs.toArray _ = Data.dict es ep from d)
    have upN : ∀ {b m}, s₁.heap.Ns b m → (hidT s₁.heap H).Ns b m := fun ⟨o, es, ep, e, d, r⟩ => ⟨o, es, ep, up e (na e d), d, r⟩
    have KB : K.In (hidT s₁.heap H) := fun b o e => up (KX b o e) fun c => by
      rw [c, noK] at e
      cases e
    obtain ⟨mc, c1, c2⟩ := nol
    have m1 : Mod K mg (hidT s₁.heap H) := ⟨KB, upN NX, ⟨mb, upN BX, bb⟩, ⟨mc, upN c1, c2⟩⟩
    exact goes_from _ KB (upN NX) (F _ KB (upN NX)) hr ⟨rfl, m1, fun b o e => of_hidT e, Nat.le_of_eq (hidT_size _ _), trivial, fun b z => absurd z List.not_mem_nil, ok1, .of_eq gn⟩ bd hO (hsp H hO (.inl (.inr ⟨_, Ha⟩))) hCX
end
theorem walk_g {l : PySem.W.OpenLaw} {n k : Nat} {q : Program} {loose : List Str} {XP : (Str → Option Value) → Heap → Prop} {YP : World → Heap → Prop} {d : DefRec} {K : Params → PySem.W.Frag} {sp : World → Sp} {x : Str}
    (hn : l.most = some n) (hn2 : n ≤ sizeLine) (df : d.params.defaults = []) (hr : Room k callerA) (hY : ∀ (w : World) (h : Heap), YP w h → (K w.params).In h)
    (F : ∀ (w : World) (mg : Str → Option Value) (fa : Addr) (h : Heap), (K w.params).In h → h.Ns mainGlobals mg → mg d.name = some (.ref fa) →
      ∃ fd : FuncData, (∀ (s : Shared) (u : Value), BindsTo s fd ⟨[u], []⟩ [(x, u)]) ∧ ∀ base : Heap, (K w.params).In base → base.Ns mainGlobals mg → FnG l.prog w (K w.params) mg base CX0 k fa fd [x] (sp w))
    (hsp : ∀ (w : World) (H : Hp) (a : Addr) (ns : List Int), ns.length ≤ n → Only H → SqL (K w.params) H a (ns.map V.int) → sp w [.ref a] H (fun v _ => v = .bl true) fun _ _ _ => False) :
    PySem.W.WalkO q loose XP YP l.row.toRowW d [] (fun f vs => PySem.call f vs) := by
  refine Att.attach_call hn df ?_
  intro w s₀ s₁ mg mb fa o pm cd doc a vs ns G Y ho hd hcd hmg hobj hints hlen hg
  obtain ⟨fd, bd, hF⟩ := F w mg fa _ (hY w _ Y) G.T.g hmg
  exact law_goes (hY w _ Y) G.T.g G.T.b G.T.builtins G.T.nolimit hg hobj hints (Nat.le_trans hlen hn2) hr hF bd (fun H hO hS => hsp w H a ns hlen hO hS) fun _ _ _ z => z
end NF

namespace NF
open PySem PySem.Spec PyProof.Rows L2 Evl
/-! ### a caught exception that a local keeps beyond the suite -/
/-- an exception object of the class cls, raised and caught -/
def ExT (cls : Value) (d : Option Addr) (a : Addr) : HO := .ext fun h => ∃ (oe : Obj) (vs : Array Value), h.get? a = some oe ∧ Zc cls d oe ∧ oe.data = .fields vs
theorem exT_ok {P : Program} {w : World} {H : Hp} {h : Heap} {a : Addr} {cls : Value} {d : Option Addr} {oe : Obj} {vs : Array Value} (e : h.get? a = some oe) (z : Zc cls d oe) (dt : oe.data = .fields vs) : ObjOk P w H h a (ExT cls d a) :=
  ⟨⟨oe, vs, e, z, dt⟩, ⟨oe, e⟩, fun _ _ ⟨o1, v1, e1, z1, d1⟩ k => ⟨o1, v1, k _ e1, z1, d1⟩⟩
section
variable {X : Cx} {pins : List (Addr × Obj)} {σ : L2.St} {H : Hp} {s : Shared}
theorem Inv.track {a : Addr} {cls : Value} {d : Option Addr} {oe : Obj} {vs : Array Value} (I : Inv X pins σ H s) (na : H a = none) (ea : s.heap.get? a = some oe) (z : Zc cls d oe) (dt : oe.data = .fields vs)
    (fr : X.s_0.heap.get? a = none) (np : ∀ p ∈ X.pn ++ pins, p.1 ≠ a) (nL : a ≠ X.env.locals) : Inv X pins σ (upd H a (ExT cls d a)) s where
  ok := I.ok
  os := I.os
  bare := I.bare
  base := {
    keep := I.base.keep
    slot := I.base.slot
    free := fun b o e n x => by
      have nb : b ≠ a := fun c => by
        rw [c, fr] at e
        cases e
      rw [upd_ne nb]
      exact I.base.free b o e n x
    there := I.base.there
    tups := fun b xs e => by
      have e2 := I.base.tups b xs e
      rw [upd_ne (ne_of_none e2 na)]
      exact e2
    frzs := fun b o u e => by
      have e2 := I.base.frzs b o u e
      rw [upd_ne (ne_of_none e2 na)]
      exact e2
    tbls := fun b ps e => by
      obtain ⟨m, e2⟩ := I.base.tbls b ps e
      refine ⟨m, ?_⟩
      rw [upd_ne (ne_of_none e2 na)]
      exact e2 }
  loc := I.loc
  cell := I.cell
  free := by
    rw [upd_ne nL.symm]
    exact I.free
  freeC := fun x c e => by
    have nc : c ≠ a := fun q => by
      subst q
      obtain ⟨v, o, e1, e2⟩ := I.cell x c e
      rw [ea] at e1
      cases e1
      rw [dt] at e2
      cases e2
    rw [upd_ne nc]
    exact I.freeC x c e
  pin := fun p hp => by
    obtain ⟨p1, p2, p3⟩ := I.pin p hp
    refine ⟨p1, ?_, p3⟩
    rw [upd_ne (np p hp)]
    exact p2
  hok := fun b u e => by
    by_cases c : b = a
    · subst c
      rw [upd_same] at e
      cases e
      exact exT_ok ea z dt
    · rw [upd_ne c] at e
      refine (I.hok b u e).stay (fun _ _ _ q => q) (fun c q => ?_) (fun c xs q => ?_)
      · rw [upd_ne (ne_of_none q na)]
        exact q
      · rw [upd_ne (ne_of_none q na)]
        exact q
  len := I.len
end
/-- what 'except x as n' wishes of an exception of the body: it is caught; behind the suite it is tracked -/
def wKeep (K : PySem.W.Frag) (c : Value) (i : Nat) (ts : Addr → TS) (D : Ends) : WX := fun cls d σ H =>
  PySem.W.exmOne K cls c = some true ∧ ∀ a, H a = none → ts a { nx := fun σ' G => D.nx (σ'.set i none) (upd G a (ExT cls d a)), rt := fun _ _ => False, bk := fun _ _ => False, ct := fun _ _ => False } (σ.set i (some (.ref a))) H
section
variable {X : Cx} {x n : Str} {c : Value} {i : Nat} {body suite : List Stmt} {b₀ : Stmt} {np pos pos' : Pos} {tb : WX → TS} {ts : Addr → TS}
theorem ps_try_keep (stk : X.stack = X.env :: X.outer) (frm : X.env.frame = some X.env.locals) (nex : X.ex = []) (nd : X.N.Nodup) (hi : X.N[i]? = some n) (kn : X.env.kindOf n = some .local) (nm : Names X x c)
    (hb : ∀ (W : WX) (pn : List (Addr × Obj)) (xe : Value → Shared → Prop), Takes (X.tr pn xe) W → PassesOwn (model X.prog X.w) X.A X.env xe → PSs (X.tr pn xe) body (tb W))
    (hs : ∀ (a : Addr) (oe : Obj) (pn : List (Addr × Obj)), PSs (X.suite a ((a, oe) :: pn)) (b₀ :: suite) (ts a)) :
    PS X (.Try body [.ExceptHandler (some (.Name x np)) (some n) (b₀ :: suite) pos'] [] [] pos) (fun D σ H => tb (wKeep X.K c i ts D) D σ H) := by
  constructor
  intro pins s σ H D I h
  have ok := I.ok
  have frs0 : X.A.frames = some (X.env :: X.outer) := by rw [ok.frames, stk]
  refine wpAny_Try_except (wpAny_mono ((hb (wKeep X.K c i ts D) (X.pn ++ pins) _ ?caught PassesOwn.looking).run [] s σ H D (I.toTry _) h) ?_ fun _ _ z => z)
  case caught =>
    rintro u s2 ⟨a, B, sI, pins', σ', G, cls, d, rfl, J0, nb, up, sky, na, os2, bare2, hm, go⟩
    have J := J0.ofTry (pins := pins) ok
    rw [stk] at sky
    show wpAny (model X.prog X.w) X.A (noteFrame (.ref a) X.env) _ _ _
    refine Sky.land Zc.steady frs0 frm sky ?_
    intro h3 fl3 up3
    have J3 : Inv X pins σ' G { s2 with heap := h3 } := J.landed nb fl3.1 (up.trans up3) os2 bare2
    obtain ⟨o3, v3, e3, z3, d3⟩ := fl3.there
    have apart_ : a ∉ frs (X.env :: X.outer) := fun m => by
      obtain ⟨_, o', e', nf⟩ := fl3.2.2.1.mem m
      rw [e3] at e'
      cases e'
      exact nf _ d3
    have nL : a ≠ X.env.locals := fun q => apart_ (List.mem_filterMap.mpr ⟨X.env, List.mem_cons_self, by rw [frm, q]⟩)
    have nF : a ∉ X.fs := fun m => (List.mem_filterMap.mp m).elim fun e z => apart_ (List.mem_filterMap.mpr ⟨e, List.mem_cons_of_mem _ z.1, z.2⟩)
    have aB : B.get? a = none := fl3.2.1
    have toB : ∀ b o, sI.heap.get? b = some o → b ≠ X.env.locals → b ∉ X.fs → b ≠ a := fun b o e l f q => by
      have := nb b o e (fun m => by
        rw [stk] at m
        rcases List.mem_filterMap.mp m with ⟨ev, hv, q2⟩
        rcases List.mem_cons.mp hv with r | r
        · rw [r, frm] at q2
          exact l (Option.some.inj q2).symm
        · exact f (List.mem_filterMap.mpr ⟨ev, r, q2⟩))
      rw [q, aB] at this
      cases this
    have npn : ∀ p ∈ X.pn ++ pins, p.1 ≠ a := fun p hp => by
      obtain ⟨p1, _, p3, p4, _⟩ := J.pin p hp
      exact toB p.1 p.2 p1 p3 p4
    have fr0 : X.s_0.heap.get? a = none := by
      cases q : X.s_0.heap.get? a with
      | none => rfl
      | some o =>
        obtain ⟨o', e'⟩ := J.base.there a o q (by rw [nex]; exact List.not_mem_nil)
        exact absurd rfl (toB a o' e' nL nF)
    have S3 := J3.suite e3 d3 na nL nF
    refine wpAny_handleBy_cons (codeAny_handlers_test ?_) nofun
    have lt : PySem.W.Looks (model X.prog X.w) h3 (typeOf (.ref a)) cls := fun A Q E s k q => wpAny_typeOf_ref (k _ _ e3) (by rw [z3.1]; exact q)
    have ask : ∀ {Q E : Value → Shared → Prop}, Q c { s2 with heap := h3 } → wpAny (model X.prog X.w) (X.A.mark (some (.ref a))) (eval (.Name x np) X.env) Q E { s2 with heap := h3 } := fun q => by
      obtain ⟨g1, g2, g3⟩ := nm
      rcases g3 with g3 | ⟨g3, g4, g5⟩
      · exact ld_glob (X := X.suite a ((a, o3) :: (X.pn ++ pins))) S3 g1 g3 q g2
      · exact ld_blt (X := X.suite a ((a, o3) :: (X.pn ++ pins))) S3 g1 g3 g4 q g5 g2
    refine ask ((PySem.W.exm_one (M := model X.prog X.w) J3.kIn lt hm).here (codeAny_handlers_suite_as (HandSPX.lands_againZ fl3 ?_)))
    intro h4 fl4 up4
    have J4 : Inv X pins σ' G { s2 with heap := h4 } := J.landed nb fl4.1 ((up.trans up3).trans up4) os2 bare2
    obtain ⟨o4, v4, e4, z4, d4⟩ := fl4.there
    refine store_ok (X := X.suite a ((a, o4) :: (X.pn ++ pins))) (v := .ref a) (J4.suite e4 d4 na nL nF) nd hi (.inl kn) rfl ?_ (.inr kn)
    intro s5 S5
    refine wpAny_mono ((hs a o4 (X.pn ++ pins)).run [] s5 _ G _ S5 (go a na)) ?_ fun _ _ q => q.elim
    intro f s6 w6
    match f, w6 with
    | .next, ⟨σ6, G6, S6, q6⟩ =>
      obtain ⟨a1, a2, _⟩ := S6.pin (a, o4) (List.mem_append_left _ List.mem_cons_self)
      exact gone_ok (Inv.track (S6.unsuite ok) a2 a1 z4 d4 fr0 npn nL) nd hi kn fun s7 J7 => ⟨_, _, J7, q6⟩
    | .brk, ⟨_, _, _, q6⟩ => exact q6.elim
    | .cont, ⟨_, _, _, q6⟩ => exact q6.elim
    | .ret u, ⟨_, _, _, _, _, q6⟩ => exact q6.elim
  · intro f s1 w1
    match f, w1 with
    | .next, ⟨σ1, H1, J1, q1⟩ => exact wpAny_execs_nil ⟨σ1, H1, J1.ofTry ok, q1⟩
    | .brk, ⟨σ1, H1, J1, q1⟩ => exact ⟨σ1, H1, J1.ofTry ok, q1⟩
    | .cont, ⟨σ1, H1, J1, q1⟩ => exact ⟨σ1, H1, J1.ofTry ok, q1⟩
    | .ret u, ⟨v1, σ1, H1, J1, r1, q1⟩ => exact ⟨v1, σ1, H1, J1.ofTry ok, r1, q1⟩
end
/-- isinstance(e, c) of an exception that is kept -/
def rIsX (K : PySem.W.Frag) : List V → Hp → VK → Prop := fun xs H Q => ∃ (a D : Addr) (c : V) (cv : Value) (b : Bool), xs = [.ref a, c] ∧ H a = some (ExT (.ref D) none a) ∧ ExcC K D ∧ (∀ u, RelV c u → u = cv) ∧ PySem.W.kitOne K (.ref D) cv = some b ∧ Q (.bl b) H
theorem call_isX {X : Cx} : CallR X (.builtin "isinstance") (rIsX X.K) := by
  intro pins s σ H xs us Q I r h
  obtain ⟨a, D, c, cv, b, rfl, hH, C, hcv, e, q⟩ := h
  obtain ⟨u1, u2, rfl, r1, r2⟩ := vals2 r
  cases (show u1 = Value.ref a from r1)
  cases hcv _ r2
  obtain ⟨⟨⟨oc, od, oda, osl⟩, vs, e1, ⟨z1, z2⟩, d1⟩, _⟩ := (show ObjOk X.prog X.w H s.heap a (ExT (.ref D) none a) from I.hok a _ hH)
  dsimp only at z1 z2 d1
  subst z1 z2 d1
  exact PySem.W.kia_one (PySem.W.handS_kitx_exc C.hg C.hk C.hs C.hd C.ha C.hn C.ht C.hm) I.kIn ⟨e1, rfl, rfl, trivial⟩ e (fun z => nomatch z) fun tk => ⟨.bl b, H, I.kept (t' := tk) fun _ _ z => z, rfl, q⟩
end NF

namespace NF
open PySem PySem.Spec PyProof.Rows L2 Evl
/-! ### [..].count(True) -/
theorem vals_bl : ∀ {bs : List Bool} {its : List Value}, Vals (bs.map V.bl) its → its = bs.map Value.bool
  | [], _, .nil => rfl
  | b :: bs, _, .cons r t => by
    have e : _ = Value.bool b := r
    rw [e, vals_bl t]
    rfl
def rCntB (K : PySem.W.Frag) : V → List V → Hp → VK → Prop := fun x xs H Q => ∃ (p : Addr) (bs : List Bool) (k : Bool), x = .ref p ∧ xs = [.bl k] ∧ SqL K H p (bs.map V.bl) ∧ Q (.int (bs.count k : Nat)) H
theorem mt_countB {X : Cx} : MtR X "list.count" (rCntB X.K) := by
  intro pins s σ H x xs v us Q I rx rxs h
  obtain ⟨p, bs, k, rfl, rfl, hs, q⟩ := h
  cases rx
  obtain ⟨u, rfl, ru⟩ := rxs.one
  cases (show u = Value.bool k from ru)
  obtain ⟨its, rv, ⟨⟨cls, dd, data, sl⟩, n, ho, hc, hdn, hd⟩, hlen⟩ := I.list hs
  simp only at hc hd
  subst hc hd
  have hi := vals_bl rv
  subst hi
  refine call_meets PySem.F.slot_list_count ⟨_, ho, rfl⟩ PySem.F.entry_list_count (PySem.F.args_list_count_2 _ _)
    (SeqAt.list_countAt p (bs.map Value.bool).toArray n dd sl (.bool k) (isBoolOf k)) ⟨ho, fun y hy => ?_, ?_⟩
  · have hy' : y ∈ bs.map Value.bool := by simpa using hy
    obtain ⟨b, _, rfl⟩ := List.mem_map.mp hy'
    exact SeqAt.EqAt.bool_bool b k
  · have ec : (bs.map Value.bool).toArray.toList.countP (isBoolOf k) = bs.count k := by
      show (bs.map Value.bool).countP (isBoolOf k) = bs.count k
      rw [List.countP_map, List.count]
      rfl
    refine ⟨.int (bs.count k : Nat), H, I.tok _, ⟨s.toks, ?_⟩, q⟩
    rw [ec]
/-! ### the law's state: a list of two ints and a truth -/
def Exs (st : Addr) (H H' : Hp) : Prop := ∀ b o, b ≠ st → H b = some o → H' b = some o
theorem Exs.refl (st : Addr) (H : Hp) : Exs st H H := fun _ _ _ h => h
theorem Exs.trans {st : Addr} {H H1 H2 : Hp} (a : Exs st H H1) (b : Exs st H1 H2) : Exs st H H2 := fun c o n h => b c o n (a c o n h)
theorem Exs.of {st : Addr} {H H1 : Hp} (e : Ex H H1) : Exs st H H1 := fun c o _ h => e c o h
theorem Exs.upd {st : Addr} {H : Hp} {o : HO} : Exs st H (upd H st o) := fun c u n h => by rw [upd_ne n]; exact h
def StA (st : Addr) (H : Hp) : Prop := ∃ (n m : Int) (c : Bool), H st = some (.lst [.int n, .int m, .bl c])
theorem StA.mono {st : Addr} {H H1 : Hp} (e : Ex H H1) (h : StA st H) : StA st H1 := by
  obtain ⟨n, m, c, h⟩ := h
  exact ⟨n, m, c, e _ _ h⟩
/-- what is no list of the state's stays -/
theorem Exs.lst {K : PySem.W.Frag} {st a : Addr} {H H1 : Hp} {xs : List V} (e : Exs st H H1) (n : a ≠ st) (h : SqL K H a xs) : SqL K H1 a xs := by
  rcases h with (h | ⟨o, h⟩) | h
  · exact .inl (.inl (e _ _ n h))
  · exact .inl (.inr ⟨o, e _ _ n h⟩)
  · exact .inr h
theorem Exs.tup {K : PySem.W.Frag} {st a : Addr} {H H1 : Hp} {xs : List V} (e : Exs st H H1) (hs : StA st H) (h : SqT K H a xs) : SqT K H1 a xs := by
  obtain ⟨n, m, c, hs⟩ := hs
  rcases h with (h | ⟨o, h⟩) | h
  · exact .inl (.inl (e _ _ (ne_of h hs (fun z => by cases z)) h))
  · exact .inl (.inr ⟨o, e _ _ (ne_of h hs (fun z => by cases z)) h⟩)
  · exact .inr h
theorem Rt.exs {K : PySem.W.Frag} {st : Addr} {H H1 : Hp} {v : V} {x : Rat} (r : Rt K H v x) (e : Exs st H H1) (hs : StA st H) : Rt K H1 v x := by
  obtain ⟨p, e1, h⟩ := r
  exact ⟨p, e1, e.tup hs h⟩
def spBegun (K : PySem.W.Frag) : Sp := fun vs H Q _ => ∃ (a : Addr) (ns : List Int) (k : Nat), vs = [.ref a, .int (k : Int)] ∧ SqL K H a (ns.map V.int) ∧ ns.length ≤ 1000 ∧ k ≤ 1000 ∧ ∀ st H', H st = none → Ex H H' → StA st H' → Q (.ref st) H'
def spTake : Sp := fun vs H Q _ => ∃ (st : Addr) (many : Int), vs = [.ref st, .int many] ∧ StA st H ∧ 0 < many ∧ many.natAbs < 2 ^ 8000 ∧ ∀ d H', 0 ≤ d → d < many → StA st H' → Exs st H H' → Q (.int d) H'
theorem take_call {st : Addr} {many : Int} {H : Hp} {Q : VK} {E : XK} (hs : StA st H) (h0 : 0 < many) (hm : many.natAbs < 2 ^ 8000) (q : ∀ d H', 0 ≤ d → d < many → StA st H' → Exs st H H' → Q (.int d) H') : spTake [.ref st, .int many] H Q E := ⟨st, many, rfl, hs, h0, hm, q⟩
theorem small_bits {i : Int} (h0 : 0 ≤ i) (h : i ≤ 10 ^ 2000) : i.natAbs < 2 ^ 8000 := by
  have e : (10 : Int) ^ 2000 < 2 ^ 8000 := by decide +kernel
  have e2 : ((2 ^ 8000 : Nat) : Int) = (2 : Int) ^ 8000 := by decide +kernel
  omega
end NF

namespace NF
open PySem PySem.Spec PyProof.Rows L2 Evl
/-! ### repr of data -/
def Fine (d : PyData) : Prop := d.showable = true ∧ d.hasDict = false ∧ d.depth ≤ 20 ∧ d.shown.length ≤ sizeLine
def rRep (K : PySem.W.Frag) : List V → Hp → VK → Prop := fun xs H Q => ∃ (x : V) (d : PyData), xs = [x] ∧ Dp K H x d ∧ Fine d ∧ Q (.str d.shown) H
theorem call_rep {X : Cx} (gd : X.A.guards = some []) (hu : X.A.units + 64 < cLine) : CallR X (.builtin "repr") (rRep X.K) := by
  intro pins s σ H xs us Q I r h
  obtain ⟨x, d, rfl, hd, ⟨f1, f2, f3, f4⟩, q⟩ := h
  obtain ⟨u, rfl, ru⟩ := vals1 r
  obtain ⟨as, rd⟩ := Dp.reads I d x u hd ru
  cases rd with
  | none => exact PySem.P.repr_of_none ⟨.str _, H, I.tok _, ⟨_, rfl⟩, q⟩
  | bool b => exact PySem.P.repr_of_bool ⟨.str _, H, I.tok _, ⟨_, rfl⟩, q⟩
  | int i t => exact PySem.P.repr_of_int (by simpa only [PyData.showable, decide_eq_true_eq] using f1) ⟨.str _, H, I.tok _, ⟨_, rfl⟩, q⟩
  | str y t => exact PySem.P.repr_of_str ⟨.str _, H, I.tok _, ⟨_, rfl⟩, q⟩ f4
  | list a1 a2 a3 a4 => exact repr_of_reads' (.list a1 a2 a3 a4) f1 (fun z => by rw [f2] at z; cases z) gd (by omega) (fun _ _ z => z) (fun h' t tk hk => ⟨.str _, H, I.kept hk, ⟨t, rfl⟩, q⟩) f4
  | tuple a1 a2 a3 a4 => exact repr_of_reads' (.tuple a1 a2 a3 a4) f1 (fun z => by rw [f2] at z; cases z) gd (by omega) (fun _ _ z => z) (fun h' t tk hk => ⟨.str _, H, I.kept hk, ⟨t, rfl⟩, q⟩) f4
  | dict a1 a2 a3 a4 a5 => cases hd
/-! ### data that is fine to show -/
def FineN (n : Nat) (d : PyData) : Prop := d.showable = true ∧ d.hasDict = false ∧ d.leavesShort 2000 = true ∧ d.weight ≤ n
theorem fine_of {n : Nat} {d : PyData} (h : FineN n d) (hn : n ≤ 4000) (hd : d.depth ≤ 20) : Fine d := by
  obtain ⟨h1, h2, h3, h4⟩ := h
  refine ⟨h1, h2, hd, ?_⟩
  have h5 := PyData.shown_le 2000 (by decide) d h3
  have h6 : (2000 + 2) * d.weight ≤ 2002 * 4000 := Nat.mul_le_mul_left _ (by omega)
  have h7 : 2002 * 4000 + 2000 ≤ sizeLine := by decide
  omega
theorem fineI {i : Int} (h : i.natAbs < 2 ^ 1900) : FineN 1900 (.int i) := by
  have hl : i.natAbs.log2 < 1900 := PySem.Flt.log2_lt_of (by decide) h
  refine ⟨?_, rfl, ?_, ?_⟩
  · simp only [PyData.showable, decide_eq_true_eq]
    omega
  · simp only [PyData.leavesShort, decide_eq_true_eq]
    show (Str.ofString (toString i)).length ≤ 2000
    have h1 := int_text_length_le (a := i) (k := 1900) (by decide) hl
    rw [PySem.ofString_length]
    omega
  · simp only [PyData.weight]
    split <;> omega
def fd (x : Rat) : PyData := .tuple [.int x.num, .int x.den]
/-- the bits of a fraction as shown -/
theorem weightI {i : Int} {B : Nat} (h : i.natAbs < 2 ^ B) (h0 : 0 < B) : PyData.weight (.int i) ≤ B := by
  have hl : i.natAbs.log2 < B := PySem.Flt.log2_lt_of h0 h
  simp only [PyData.weight]
  split <;> omega
theorem fineF {B : Nat} {x : Rat} (h : Sz B x) (h0 : 0 < B) (hB : B ≤ 1900) : FineN (2 * B + 2) (fd x) := by
  obtain ⟨a1, a2, a3, _⟩ := fineI (bits_up h.num hB)
  obtain ⟨b1, b2, b3, _⟩ := fineI (bits_up h.den hB)
  have a4 := weightI h.num h0
  have b4 := weightI h.den h0
  refine ⟨?_, ?_, ?_, ?_⟩
  · simp only [fd, PyData.showable, PyData.showableAll] at *
    simp only [a1, b1]
    rfl
  · rfl
  · simp only [fd, PyData.leavesShort, PyData.leavesShortAll] at *
    simp only [a3, b3]
    rfl
  · simp only [fd, PyData.weight, PyData.weightAll] at *
    omega
theorem fineL {B : Nat} (h0 : 0 < B) (hB : B ≤ 1900) : ∀ {xs : List Rat}, (∀ x ∈ xs, Sz B x) → FineN (xs.length * (2 * B + 3)) (.list (xs.map fd)) ∧ (PyData.list (xs.map fd)).depth ≤ 2
  | [], _ => ⟨⟨rfl, rfl, rfl, Nat.zero_le _⟩, by show 1 ≤ 2; decide⟩
  | x :: xs, h => by
    obtain ⟨⟨a1, a2, a3, a4⟩, a5⟩ := fineL h0 hB (xs := xs) fun y hy => h y (List.mem_cons_of_mem _ hy)
    obtain ⟨b1, b2, b3, b4⟩ := fineF (h x (List.mem_cons_self ..)) h0 hB
    simp only [PyData.showable, PyData.hasDict, PyData.leavesShort, PyData.weight, PyData.depth, List.map_cons, PyData.showableAll, PyData.hasDictAll, PyData.leavesShortAll, PyData.weightAll, PyData.depthAll, FineN] at *
    refine ⟨⟨by rw [a1, b1]; rfl, by rw [a2, b2]; rfl, by rw [a3, b3]; rfl, ?_⟩, ?_⟩
    · rw [List.length_cons, Nat.succ_mul]
      omega
    · have : (fd x).depth ≤ 1 := by show 1 ≤ 1; decide
      omega
theorem fine_rt {B : Nat} {x : Rat} (h : Sz B x) (h0 : 0 < B) (hB : B ≤ 1900) : Fine (fd x) := fine_of (fineF h h0 hB) (by omega) (by show 1 ≤ 20; decide)
theorem fine_rts {B : Nat} {xs : List Rat} (h : ∀ x ∈ xs, Sz B x) (h0 : 0 < B) (hB : B ≤ 1900) (hn : xs.length * (2 * B + 3) ≤ 4000) : Fine (.list (xs.map fd)) := by
  obtain ⟨a, b⟩ := fineL h0 hB h
  exact fine_of a hn (by omega)
theorem fine_bl (b : Bool) : Fine (.bool b) := by cases b <;> exact ⟨rfl, rfl, by decide, by decide +kernel⟩
/-! ### what repr evaluates to -/
section
variable {K : PySem.W.Frag} {H H1 H2 : Hp} {σ : L2.St} {ta tb te tl : TE} {x y z : Rat} {v w u : V} {B : Nat} {E : XK}
theorem dp_rts : ∀ {us : List V} {xs : List Rat}, RtAll K H us xs → DpAll K H us (xs.map fd)
  | _, _, .nil => .nil
  | _, _, .cons h t => .cons (dp_rt h) (dp_rts t)
theorem ev_repF (h : EvF K ta σ H x) (sx : Sz B x) (h0 : 0 < B) (hB : B ≤ 1900) : Ev (tCB (rRep K) (tCons ta tNil)) σ H (.str (fd x).shown) := fun H1 e Q q =>
  h H1 e _ fun v H2 e2 r => ⟨v, fd x, rfl, dp_rt r, fine_rt sx h0 hB, q H2 e2⟩
theorem ev_repL {a : Addr} {us : List V} {xs : List Rat} (h : Ev ta σ H (.ref a)) (ha : SqL K H a us) (hx : RtAll K H us xs) (hf : Fine (.list (xs.map fd))) : Ev (tCB (rRep K) (tCons ta tNil)) σ H (.str (PyData.list (xs.map fd)).shown) := fun H1 e Q q =>
  h H1 e _ fun H2 e2 => ⟨_, _, rfl, .lst (ex_l (e.trans e2) ha) (dp_rts (hx.mono (e.trans e2))), hf, q H2 e2⟩
theorem ev_repB {b : Bool} (h : Ev ta σ H (.bl b)) : Ev (tCB (rRep K) (tCons ta tNil)) σ H (.str (PyData.bool b).shown) := fun H1 e Q q =>
  h H1 e _ fun H2 e2 => ⟨_, .bool b, rfl, .bl b, fine_bl b, q H2 e2⟩
/-- fractions made one after another, then a list of them -/
def EvFs (K : PySem.W.Frag) (tA : TA) (σ : L2.St) (H : Hp) (xs : List Rat) : Prop := ∀ H1, Ex H H1 → ∀ Q : List V → Hp → Prop, (∀ vs H2, Ex H1 H2 → RtAll K H2 vs xs → Q vs H2) → tA σ H1 Q
theorem efs_nil : EvFs K tNil σ H [] := fun H1 _ Q q => q [] H1 (Ex.refl H1) .nil
theorem efs_cons {tA : TA} {xs : List Rat} (h : EvF K ta σ H x) (hr : EvFs K tA σ H xs) : EvFs K (tCons ta tA) σ H (x :: xs) := fun H1 e Q q =>
  h H1 e _ fun v H2 e2 r => hr H2 (e.trans e2) _ fun vs H3 e3 rs => q (v :: vs) H3 (e2.trans e3) (.cons (r.mono e3) rs)
/-- such a list -/
def EvR (K : PySem.W.Frag) (te : TE) (σ : L2.St) (H : Hp) (xs : List Rat) : Prop := ∀ H1, Ex H H1 → ∀ Q : VK, (∀ p us H2, H1 p = none → Ex H1 H2 → H2 p = some (.lst us) → RtAll K H2 us xs → Q (.ref p) H2) → te σ H1 Q
theorem er_lst {tA : TA} {xs : List Rat} (h : EvFs K tA σ H xs) (hl : xs.length ≤ 100000) : EvR K (tLst tA) σ H xs := fun H1 e Q q =>
  h H1 e _ fun vs H2 e2 r => ⟨sz_of (by rw [r.length]; exact hl), fun p hp => q p vs _ (fresh_back e2 hp) (e2.trans (Ex.new hp)) upd_same (r.mono (Ex.new hp))⟩
end
/-! ### f(k = v, ..) -/
structure CaK (P : Program) (w : World) (K : PySem.W.Frag) (mg : Str → Option Value) (base : Heap) (k : Nat) (x : Str) (ps ks : List Str) (g : {α : Type} → List α → List α) (sp : Sp) : Prop where
  ex : ∃ (f : Addr) (fd : FuncData), FnG P w K mg base CX0 k f fd ps sp ∧ mg x = some (.ref f) ∧ PySem.W.keepIn K (.ref f) = true ∧ (∀ (s : Shared) (ws : List Value), K.In s.heap → ws.length = ks.length → BindsTo s fd ⟨[], ks.zip ws⟩ (ps.zip (g ws)))
  rel : ∀ {vs : List V} {us : List Value}, Vals vs us → Vals (g vs) (g us)
def tCallW (n : Nat) (sp : Sp) (g : {α : Type} → List α → List α) (E : XK) (tk : TA) : TE := fun σ H Q => tk σ H fun zs H2 => zs.length = n ∧ sp (g zs) H2 Q E
theorem pe_caK {X : Cx} {j k : Nat} {x : Str} {ps ks : List Str} {g : {α : Type} → List α → List α} {sp : Sp} {p pos : Pos} {kws : List Keyword} {tk : TA} (C : CaK X.prog X.w X.K X.mg X.base k x ps ks g sp) (gd : X.A.guards = some []) (hr : Room j X.A) (hk : k ≤ j) (gl : Gl X x) (hkw : PK X kws tk)
    (hall : (backToKw pos (keywordEach kws X.env)).all (·.1.isSome) = true := by rfl) (hks : (backToKw pos (keywordEach kws X.env)).filterMap (·.1) = ks := by rfl) (db : (x == ("__debug__" : Str)) = false := by decide)
    (pl : ((backTo pos (starEach [] X.env)).any (·.1) || (backToKw pos (keywordEach kws X.env)).any (·.1.isNone)) = false := by rfl) : PE X (.Call (.Name x p) [] kws pos) (tCallW ks.length sp g E0 tk) := by
  obtain ⟨f, fd, F, hm, kp, b⟩ := C.ex
  constructor
  intro pins s σ H Q I h
  refine wpAny_Call_Name_kw (ld_glob I gl hm (PySem.W.callWith_KW0 (h₀ := X.base) I.ok.mod.kin kp hall (thn (hkw.run pos pins s σ H _ I h) ?_) pl) db)
  rintro ws s1 ⟨zs, G, J, r, hl, q⟩
  refine ⟨J.kIn, ?_⟩
  rw [hks]
  refine wpAny_call (codeAny_mono (F.goes X.A X.stack s1 G ⟨[], ks.zip ws⟩ _ _ Q E0 gd (hr.mono hk) J.env0 (b s1 ws J.kIn (r.length.symm.trans hl)) (C.rel r) q) ?_)
  intro r2 s2 z
  match r2, z with
  | .error y, z => exact z.elim
  | .ok (.ret u), z => exact J.after z
end NF

/-! the kind of the laws' bags: two ints and a truth -/
namespace WL
open PySem L2
def Bk (vs : List V) : Prop := ∃ (g m : Int) (c : Bool), vs = [.int g, .int m, .bl c]
end WL

namespace WL
open PySem PySem.Spec PyProof.Rows L2 Evl NF
/-! ### predicates that stay where the heap grows; worlds: what is settled (r) within what stands (h) -/
structure MP where
  p : Hp → V → Prop
  mono : ∀ {H H' : Hp} {v : V}, Ex H H' → p H v → p H' v
structure Wd where
  r : Hp
  h : Hp
/-- no tuple: what may change -/
def nt : HO → Bool
  | .tup _ => false
  | .frz _ (.tup _) => false
  | _ => true
def Ow (W : Wd) (p : Addr) : Prop := (∃ o, W.h p = some o ∧ nt o = true) ∧ W.r p = none
structure Le (M : Addr → Prop) (W W2 : Wd) : Prop where
  r : Ex W.r W2.r
  h : ∀ p o, ¬ M p → W.h p = some o → W2.h p = some o
  w : ∀ p, Ow W p → Ow W2 p
theorem Le.refl {M : Addr → Prop} (W : Wd) : Le M W W := ⟨Ex.refl _, fun _ _ _ h => h, fun _ h => h⟩
theorem Le.trans {M : Addr → Prop} {W W1 W2 : Wd} (a : Le M W W1) (b : Le M W1 W2) : Le M W W2 := ⟨a.r.trans b.r, fun p o n h => b.h p o n (a.h p o n h), fun p h => b.w p (a.w p h)⟩
theorem Le.more {M N : Addr → Prop} {W W2 : Wd} (a : Le M W W2) (s : ∀ p, M p → N p) : Le N W W2 := ⟨a.r, fun p o n h => a.h p o (fun z => n (s p z)) h, a.w⟩
def Bg (H : Hp) (p : Addr) : Prop := ∃ (vs : List V) (_ : Bk vs), H p = some (.lst vs)
inductive Al (H : Hp) : List V → List MP → Prop
  | nil : Al H [] []
  | cons {v : V} {vs : List V} {P : MP} {Ps : List MP} : P.p H v → Al H vs Ps → Al H (v :: vs) (P :: Ps)
theorem Al.mono {H H' : Hp} (e : Ex H H') : ∀ {vs : List V} {Ps : List MP}, Al H vs Ps → Al H' vs Ps
  | _, _, .nil => .nil
  | _, _, .cons h t => .cons (MP.mono _ e h) (Al.mono e t)
theorem Al.length {H : Hp} : ∀ {vs : List V} {Ps : List MP}, Al H vs Ps → vs.length = Ps.length
  | _, _, .nil => rfl
  | _, _, .cons _ t => congrArg Nat.succ (Al.length t)
theorem Al.get {H : Hp} : ∀ {vs : List V} {Ps : List MP} {i : Nat} {P : MP}, Al H vs Ps → Ps[i]? = some P → ∃ v, vs[i]? = some v ∧ P.p H v
  | _, _, _, _, .nil, e => by simp at e
  | _, _, 0, _, .cons h _, e => by
    have e' := Option.some.inj e
    subst e'
    exact ⟨_, rfl, h⟩
  | _, _, i + 1, _, .cons _ t, e => Al.get (i := i) t e
theorem Al.getV {H : Hp} : ∀ {vs : List V} {Ps : List MP} {i : Nat} {v : V}, Al H vs Ps → vs[i]? = some v → ∃ P, Ps[i]? = some P ∧ P.p H v
  | _, _, _, _, .nil, e => by simp at e
  | _, _, 0, _, .cons h _, e => by
    have e' := Option.some.inj e
    subst e'
    exact ⟨_, rfl, h⟩
  | _, _, i + 1, _, .cons _ t, e => Al.getV (i := i) t e
theorem Al.app {H : Hp} : ∀ {vs ws : List V} {Ps Qs : List MP}, Al H vs Ps → Al H ws Qs → Al H (vs ++ ws) (Ps ++ Qs)
  | _, _, _, _, .nil, r => r
  | _, _, _, _, .cons h t, r => .cons h (Al.app t r)
theorem Al.one {H : Hp} {v : V} {P : MP} (h : P.p H v) : Al H [v] [P] := .cons h .nil
theorem Al.set {H : Hp} {v : V} {P : MP} (h : P.p H v) : ∀ {vs : List V} {Ps : List MP} (i : Nat), Al H vs Ps → Al H (vs.set i v) (Ps.set i P)
  | _, _, _, .nil => .nil
  | _, _, 0, .cons _ t => .cons h t
  | _, _, i + 1, .cons g t => .cons g (Al.set h i t)
theorem Al.drop {H : Hp} : ∀ {vs : List V} {Ps : List MP} (n : Nat), Al H vs Ps → Al H (vs.drop n) (Ps.drop n)
  | _, _, 0, h => h
  | _, _, n + 1, .nil => .nil
  | _, _, n + 1, .cons _ t => Al.drop n t
theorem Al.take {H : Hp} : ∀ {vs : List V} {Ps : List MP} (n : Nat), Al H vs Ps → Al H (vs.take n) (Ps.take n)
  | _, _, 0, h => .nil
  | _, _, n + 1, .nil => .nil
  | _, _, n + 1, .cons h t => .cons h (Al.take n t)
theorem Al.erase {H : Hp} : ∀ {vs : List V} {Ps : List MP} (n : Nat), Al H vs Ps → Al H (vs.eraseIdx n) (Ps.eraseIdx n)
  | _, _, _, .nil => .nil
  | _, _, 0, .cons _ t => t
  | _, _, n + 1, .cons h t => .cons h (Al.erase n t)
theorem Al.rev {H : Hp} : ∀ {vs : List V} {Ps : List MP}, Al H vs Ps → Al H vs.reverse Ps.reverse
  | _, _, .nil => .nil
  | _, _, .cons h t => by
    rw [List.reverse_cons, List.reverse_cons]
    exact (Al.rev t).app (Al.one h)
/-! ### what a slot, an argument, an answer is -/
inductive Sl where
  | un
  | val (P : MP)
  | own (Ps : List MP)
  | mat (Pss : List (List MP))
  | bag
/-- rows that are own, by their places -/
inductive Rw (H0 : Hp) (W : Wd) : List Addr → List (List MP) → Prop
  | nil : Rw H0 W [] []
  | cons {p : Addr} {vs : List V} {Ps : List MP} {ps : List Addr} {Pss : List (List MP)} : W.h p = some (.lst vs) → W.r p = none → H0 p = none → Al W.r vs Ps → Rw H0 W ps Pss → Rw H0 W (p :: ps) (Ps :: Pss)
theorem Rw.get {H0 : Hp} {W : Wd} : ∀ {ps : List Addr} {Pss : List (List MP)} {i : Nat} {p : Addr}, Rw H0 W ps Pss → ps[i]? = some p → ∃ vs Ps, Pss[i]? = some Ps ∧ W.h p = some (.lst vs) ∧ W.r p = none ∧ H0 p = none ∧ Al W.r vs Ps
  | _, _, _, _, .nil, e => by simp at e
  | _, _, 0, _, .cons h1 h2 h3 h4 _, e => by
    have e' := Option.some.inj e
    subst e'
    exact ⟨_, _, rfl, h1, h2, h3, h4⟩
  | _, _, i + 1, _, .cons _ _ _ _ t, e => Rw.get (i := i) t e
theorem Rw.len {H0 : Hp} {W : Wd} : ∀ {ps : List Addr} {Pss : List (List MP)}, Rw H0 W ps Pss → ps.length = Pss.length
  | _, _, .nil => rfl
  | _, _, .cons _ _ _ _ t => congrArg Nat.succ (Rw.len t)
theorem Rw.mono {H0 : Hp} {W W2 : Wd} (er : Ex W.r W2.r) : ∀ {ps : List Addr} {Pss : List (List MP)}, Rw H0 W ps Pss → (∀ p ∈ ps, ∀ o, W.h p = some o → W2.h p = some o) → (∀ p ∈ ps, W.r p = none → W2.r p = none) → Rw H0 W2 ps Pss
  | _, _, .nil, _, _ => .nil
  | _, _, .cons h1 h2 h3 h4 t, a, b => .cons (a _ (List.mem_cons_self ..) _ h1) (b _ (List.mem_cons_self ..) h2) h3 (h4.mono er) (Rw.mono er t (fun p hp => a p (List.mem_cons_of_mem _ hp)) fun p hp => b p (List.mem_cons_of_mem _ hp))
theorem Rw.mem {H0 : Hp} {W : Wd} {ps : List Addr} {Pss : List (List MP)} {p : Addr} (h : Rw H0 W ps Pss) (hp : p ∈ ps) : ∃ vs Ps, Ps ∈ Pss ∧ W.h p = some (.lst vs) ∧ W.r p = none ∧ H0 p = none ∧ Al W.r vs Ps := by
  obtain ⟨i, hi⟩ := List.mem_iff_getElem?.mp hp
  obtain ⟨vs, Ps, h1, h2⟩ := h.get hi
  exact ⟨vs, Ps, List.mem_of_getElem? h1, h2⟩
def SlOk (W0 : Wd) (M : Addr → Prop) (W : Wd) (u : Option V) : Sl → Prop
  | .un => True
  | .val P => ∃ v, u = some v ∧ P.p W.r v
  | .own Ps => ∃ p vs, u = some (.ref p) ∧ W.h p = some (.lst vs) ∧ W.r p = none ∧ W0.h p = none ∧ Al W.r vs Ps
  | .mat Pss => ∃ (p : Addr) (ps : List Addr), u = some (.ref p) ∧ W.r p = some (.lst (ps.map V.ref)) ∧ ps.Nodup ∧ Rw W0.h W ps Pss
  | .bag => ∃ p, u = some (.ref p) ∧ Bg W.h p ∧ W.r p = none ∧ (W0.h p = none ∨ M p)
/-- the places that a slot may change -/
def ft (R : Hp) (u : Option V) : Sl → Addr → Prop
  | .own _ => fun a => u = some (.ref a)
  | .bag => fun a => u = some (.ref a)
  | .mat _ => fun a => ∃ (p : Addr) (ps : List Addr), u = some (.ref p) ∧ R p = some (.lst (ps.map V.ref)) ∧ a ∈ ps
  | _ => fun _ => False
def Sl.ow : Sl → Bool
  | .own _ => true
  | .mat _ => true
  | .bag => true
  | _ => false
theorem ft_ow {R : Hp} {u : Option V} {s : Sl} {a : Addr} (h : ft R u s a) : s.ow = true := by
  cases s with
  | un => exact h.elim
  | val P => exact h.elim
  | own Ps => rfl
  | mat Pss => rfl
  | bag => rfl
theorem ft_up {R R2 : Hp} {u : Option V} {s : Sl} {a : Addr} (e : Ex R R2) (h : ft R u s a) : ft R2 u s a := by
  cases s with
  | un => exact h
  | val P => exact h
  | own Ps => exact h
  | bag => exact h
  | mat Pss =>
    obtain ⟨p, ps, h1, h2, h3⟩ := h
    exact ⟨p, ps, h1, e _ _ h2, h3⟩
theorem map_ref_inj : ∀ {ps qs : List Addr}, ps.map V.ref = qs.map V.ref → ps = qs
  | [], [], _ => rfl
  | [], _ :: _, h => by cases h
  | _ :: _, [], h => by cases h
  | p :: ps, q :: qs, h => by
    have h1 := List.cons.inj h
    have h2 : p = q := V.ref.inj h1.1
    rw [h2, map_ref_inj h1.2]
structure En (W0 : Wd) (M : Addr → Prop) (W : Wd) (σ : L2.St) (ρ : List Sl) : Prop where
  sub : Ex W.r W.h
  le : Le M W0 W
  old : ∀ p, M p → Bg W0.h p
  bags : ∀ p, M p → Bg W.h p
  len : σ.length = ρ.length
  ok : ∀ (i : Nat) s, ρ[i]? = some s → ∃ u, σ[i]? = some u ∧ SlOk W0 M W u s
  ne : ∀ (i j : Nat) s t u w a, i ≠ j → ρ[i]? = some s → ρ[j]? = some t → σ[i]? = some u → σ[j]? = some w → ft W.r u s a → ¬ ft W.r w t a
def Bags (σ : L2.St) (ρ : List Sl) (p : Addr) : Prop := ∃ i : Nat, ρ[i]? = some .bag ∧ σ[i]? = some (some (.ref p))
/-- a step of an expression: bags may turn, all else stands -/
structure Go (σ : L2.St) (ρ : List Sl) (W W2 : Wd) : Prop where
  sub : Ex W2.r W2.h
  le : Le (Bags σ ρ) W W2
  bg : ∀ p, Bags σ ρ p → Bg W2.h p
theorem Go.trans {σ : L2.St} {ρ : List Sl} {W W1 W2 : Wd} (a : Go σ ρ W W1) (b : Go σ ρ W1 W2) : Go σ ρ W W2 := ⟨b.sub, a.le.trans b.le, b.bg⟩
section
variable {W0 W W1 W2 W3 : Wd} {M : Addr → Prop} {σ : L2.St} {ρ : List Sl} {i : Nat}
theorem En.bag (e : En W0 M W σ ρ) {p : Addr} (h : Bags σ ρ p) : Bg W.h p ∧ W.r p = none ∧ (W0.h p = none ∨ M p) := by
  obtain ⟨i, h1, h2⟩ := h
  obtain ⟨u, e1, q, e2, r⟩ := e.ok i _ h1
  rw [h2] at e1
  cases e1
  cases e2
  exact r
theorem En.go (e : En W0 M W σ ρ) (g : Go σ ρ W W2) : En W0 M W2 σ ρ := by
  have st : ∀ p o, ¬ M p → W0.h p = some o → W2.h p = some o := fun p o n h => g.le.h p o (fun b => (e.bag b).2.2.elim (fun z => by rw [z] at h; cases h) n) (e.le.h p o n h)
  have dn : ∀ {i : Nat} {s : Sl} {u : Option V} {a : Addr}, ρ[i]? = some s → σ[i]? = some u → ft W2.r u s a → ft W.r u s a := fun {i s u a} hs hu h => by
    cases s with
    | un => exact h
    | val P => exact h
    | own Ps => exact h
    | bag => exact h
    | mat Pss =>
      obtain ⟨p, ps, h1, h2, h3⟩ := h
      obtain ⟨u', hu', p', ps', e1, k1, _⟩ := e.ok i _ hs
      rw [hu] at hu'
      cases hu'
      rw [h1] at e1
      cases e1
      have := g.le.r _ _ k1
      rw [h2] at this
      have := map_ref_inj (HO.lst.inj (Option.some.inj this))
      subst this
      exact ⟨p, ps, h1, k1, h3⟩
  refine ⟨g.sub, ⟨e.le.r.trans g.le.r, st, fun p h => g.le.w p (e.le.w p h)⟩, e.old, fun p m => ?_, e.len, fun i s hs => ?_, fun i j s t u w a n h1 h2 k1 k2 f1 f2 => e.ne i j s t u w a n h1 h2 k1 k2 (dn h1 k1 f1) (dn h2 k2 f2)⟩
  · by_cases b : Bags σ ρ p
    · exact g.bg p b
    · obtain ⟨x, y, h⟩ := e.bags p m
      exact ⟨x, y, g.le.h _ _ b h⟩
  · obtain ⟨u, h1, h2⟩ := e.ok i s hs
    refine ⟨u, h1, ?_⟩
    cases s with
    | un => trivial
    | val P =>
      obtain ⟨v, rfl, h⟩ := h2
      exact ⟨v, rfl, P.mono g.le.r h⟩
    | own Ps =>
      obtain ⟨p, vs, rfl, h3, h4, h5, h6⟩ := h2
      refine ⟨p, vs, rfl, g.le.h _ _ (fun b => ?_) h3, (g.le.w p ⟨⟨_, h3, rfl⟩, h4⟩).2, h5, h6.mono g.le.r⟩
      obtain ⟨j, j1, j2⟩ := b
      by_cases c : i = j
      · subst c
        rw [hs] at j1
        cases j1
      · exact e.ne i j _ _ _ _ _ c hs j1 h1 j2 (show some (V.ref p) = some (V.ref p) from rfl) rfl
    | mat Pss =>
      obtain ⟨p, ps, rfl, h3, h4, h5⟩ := h2
      refine ⟨p, ps, rfl, g.le.r _ _ h3, h4, h5.mono g.le.r (fun q hq o ho => g.le.h _ _ (fun b => ?_) ho) fun q hq hr => ?_⟩
      · obtain ⟨j, j1, j2⟩ := b
        by_cases c : i = j
        · subst c
          rw [hs] at j1
          cases j1
        · exact e.ne i j _ _ _ _ _ c hs j1 h1 j2 (show ft W.r (some (V.ref p)) (.mat Pss) q from ⟨p, ps, rfl, h3, hq⟩) rfl
      · obtain ⟨vs, Ps, _, k1, _⟩ := h5.mem hq
        exact (g.le.w q ⟨⟨_, k1, rfl⟩, hr⟩).2
    | bag =>
      obtain ⟨p, rfl, h3, h4, h5⟩ := h2
      obtain ⟨_, _, h3'⟩ := id h3
      exact ⟨p, rfl, g.bg p ⟨i, hs, h1⟩, (g.le.w p ⟨⟨_, h3', rfl⟩, h4⟩).2, h5⟩
theorem En.id (e : En W0 M W σ ρ) : Go σ ρ W W := ⟨e.sub, Le.refl W, fun p b => (e.bag b).1⟩
end
/-! ### answers -/
def ROk (W W2 : Wd) (v : V) : Sl → Prop
  | .val P => P.p W2.r v
  | .own Ps => ∃ p vs, v = .ref p ∧ W2.h p = some (.lst vs) ∧ W2.r p = none ∧ W.h p = none ∧ Al W2.r vs Ps
  | .mat Pss => ∃ (p : Addr) (ps : List Addr), v = .ref p ∧ W2.r p = some (.lst (ps.map V.ref)) ∧ W.h p = none ∧ ps.Nodup ∧ Rw W.h W2 ps Pss
  | _ => False
def E (ρ : List Sl) (te : TE) (Ψ : Sl → Prop) : Prop := ∀ W0 M W σ, En W0 M W σ ρ → ∀ Q : VK, (∀ s v W2, Go σ ρ W W2 → ROk W W2 v s → Ψ s → Q v W2.h) → te σ W.h Q
def T (ρ : List Sl) (tt : TT) (Ψ : Bool → Prop) : Prop := ∀ W0 M W σ, En W0 M W σ ρ → ∀ Q : Bool → Hp → Prop, (∀ b W2, Go σ ρ W W2 → Ψ b → Q b W2.h) → tt σ W.h Q
def D (ρ : List Sl) (te : TE) (P : MP) : Prop := ∀ W0 M W σ, En W0 M W σ ρ → ∀ Q : VK, (∀ v W2, Go σ ρ W W2 → P.p W2.r v → Q v W2.h) → te σ W.h Q
section
variable {K : PySem.W.Frag} {W0 W W1 W2 W3 : Wd} {M : Addr → Prop} {σ : L2.St} {ρ : List Sl} {i j : Nat} {P P1 P2 P3 : MP} {Ps Qs : List MP} {ta tb tc te : TE} {tt t1 t2 : TT} {Ψ : Sl → Prop} {Φ : Bool → Prop} {v w u : V} {b b1 b2 : Bool} {r r1 r2 : R2}
def sc (v : V) : MP := ⟨fun _ u => u = v, fun _ h => h⟩
def lst (K : PySem.W.Frag) (Ps : List MP) : MP := ⟨fun H v => ∃ p vs, v = .ref p ∧ SqL K H p vs ∧ Al H vs Ps, fun e h => by
  obtain ⟨p, vs, h1, h2, h3⟩ := h
  exact ⟨p, vs, h1, ex_l e h2, h3.mono e⟩⟩
def tup (K : PySem.W.Frag) (Ps : List MP) : MP := ⟨fun H v => ∃ p vs, v = .ref p ∧ SqT K H p vs ∧ Al H vs Ps, fun e h => by
  obtain ⟨p, vs, h1, h2, h3⟩ := h
  exact ⟨p, vs, h1, ex_t e h2, h3.mono e⟩⟩
def rat (K : PySem.W.Frag) (x : Rat) : MP := ⟨fun H v => Rt K H v x, fun e h => h.mono e⟩
theorem E.of (h : D ρ te P) (q : Ψ (.val P)) : E ρ te Ψ := fun W0 M W σ e Q k => h W0 M W σ e Q fun v W2 g r => k (.val P) v W2 g r q
theorem E.mono {Ψ2 : Sl → Prop} (h : E ρ te Ψ) (q : ∀ s, Ψ s → Ψ2 s) : E ρ te Ψ2 := fun W0 M W σ e Q k => h W0 M W σ e Q fun s v W2 g r z => k s v W2 g r (q s z)
theorem T.mono {Φ2 : Bool → Prop} (h : T ρ tt Φ) (q : ∀ s, Φ s → Φ2 s) : T ρ tt Φ2 := fun W0 M W σ e Q k => h W0 M W σ e Q fun s W2 g z => k s W2 g (q s z)
theorem d_var (h : ρ[i]? = some (.val P)) : D ρ (tVar i) P := fun W0 M W σ e Q k => by
  obtain ⟨u, h1, v, rfl, h2⟩ := e.ok i _ h
  exact ⟨v, h1, k v W e.id h2⟩
theorem d_c : D ρ (tC v) (sc v) := fun W0 M W σ e Q k => k v W e.id rfl
/-- a written object -/
theorem d_k (h : ∀ H, P.p H v) : D ρ (tC v) P := fun W0 M W σ e Q k => k v W e.id (h _)
theorem D.is (h : D ρ te P) (e : P = P2) : D ρ te P2 := e ▸ h
theorem D.imp (h : D ρ te P) (q : ∀ H v, P.p H v → P2.p H v) : D ρ te P2 := fun W0 M W σ e Q k => h W0 M W σ e Q fun v W2 g r => k v W2 g (q _ _ r)
/-- an operation that reads -/
def OpV (r : R2) (P Q T : MP) : Prop := ∀ (R H : Hp) x y, Ex R H → P.p R x → Q.p R y → ∀ C : VK, (∀ v, T.p R v → C v H) → r x y H C
theorem d_op (ha : D ρ ta P1) (hb : D ρ tb P2) (hr : OpV r P1 P2 P3) : D ρ (tOp r ta tb) P3 := fun W0 M W σ e Q k =>
  ha W0 M W σ e _ fun x W1 g1 px => hb W0 M W1 σ (e.go g1) _ fun y W2 g2 py => hr W2.r W2.h x y g2.sub (P1.mono g2.le.r px) py _ fun v pv => k v W2 (g1.trans g2) pv
theorem e_op (h : E ρ ta fun s => ∃ P1, s = .val P1 ∧ E ρ tb fun t => ∃ P2 P3, t = .val P2 ∧ OpV r P1 P2 P3 ∧ Ψ (.val P3)) : E ρ (tOp r ta tb) Ψ := fun W0 M W σ e Q k => h W0 M W σ e _ fun s x W1 g1 px q => by
  obtain ⟨P1, rfl, h2⟩ := q
  refine h2 W0 M W1 σ (e.go g1) _ fun t y W2 g2 py q => ?_
  obtain ⟨P2, P3, rfl, hr, hq⟩ := q
  exact hr W2.r W2.h x y g2.sub (P1.mono g2.le.r px) py _ fun v pv => k (.val P3) v W2 (g1.trans g2) pv hq
theorem ov_v (h : ∀ H (C : VK), C w H → r u v H C) : OpV r (sc u) (sc v) (sc w) := fun R H x y _ px py C k => by
  cases px
  cases py
  exact h H C (k w rfl)
theorem ov_i0 {g : Int → Int → V} {a b : Int} : OpV (rI0 g) (sc (.int a)) (sc (.int b)) (sc (g a b)) := ov_v fun H C c => ⟨a, b, rfl, rfl, c⟩
theorem ov_i {C : Int → Int → Prop} {g : Int → Int → V} {a b : Int} (hc : C a b) : OpV (rI C g) (sc (.int a)) (sc (.int b)) (sc (g a b)) := ov_v fun H _ c => ⟨a, b, rfl, rfl, hc, c⟩
theorem ov_eqv (h : scal u v = true) : OpV rEq (sc u) (sc v) (sc (.bl (decide (u = v)))) := ov_v fun H C c => ⟨h, c⟩
theorem ov_nev (h : scal u v = true) : OpV rNe (sc u) (sc v) (sc (.bl (!decide (u = v)))) := ov_v fun H C c => ⟨h, c⟩
theorem ov_r0 {x : Rat} : OpV (rIxT K) (rat K x) (sc (.int 0)) (sc (.int x.num)) := fun R H a c s px py C k => by
  cases py
  obtain ⟨p, rfl, hs⟩ := px
  exact ⟨p, _, 0, _, rfl, rfl, ex_t s hs, atI_nat (j := 0) rfl, k _ rfl⟩
theorem ov_r1 {x : Rat} : OpV (rIxT K) (rat K x) (sc (.int 1)) (sc (.int x.den)) := fun R H a c s px py C k => by
  cases py
  obtain ⟨p, rfl, hs⟩ := px
  exact ⟨p, _, 1, _, rfl, rfl, ex_t s hs, atI_nat (j := 1) rfl, k _ rfl⟩
theorem ov_ixL {n : Nat} (h : Ps[n]? = some P) : OpV (rIxL K) (lst K Ps) (sc (.int (n : Int))) P := fun R H a c s px py C k => by
  cases py
  obtain ⟨p, vs, rfl, hs, ha⟩ := px
  obtain ⟨v, hv, pv⟩ := ha.get h
  exact ⟨p, _, n, v, rfl, rfl, ex_l s hs, atI_nat hv, k _ pv⟩
theorem ov_ixT {n : Nat} (h : Ps[n]? = some P) : OpV (rIxT K) (tup K Ps) (sc (.int (n : Int))) P := fun R H a c s px py C k => by
  cases py
  obtain ⟨p, vs, rfl, hs, ha⟩ := px
  obtain ⟨v, hv, pv⟩ := ha.get h
  exact ⟨p, _, n, v, rfl, rfl, ex_t s hs, atI_nat hv, k _ pv⟩
theorem ov_eqR {x y : Rat} : OpV (rEqD K) (rat K x) (rat K y) (sc (.bl (decide (x = y)))) := fun R H a c s px py C k =>
  ⟨_, _, dp_rt (Rt.mono px s), dp_rt (Rt.mono py s), rfl, rfl, by rw [eqv_rt]; exact k _ rfl⟩
theorem ov_neR {x y : Rat} : OpV (rNeD K) (rat K x) (rat K y) (sc (.bl (!decide (x = y)))) := fun R H a c s px py C k =>
  ⟨_, _, dp_rt (Rt.mono px s), dp_rt (Rt.mono py s), rfl, rfl, by rw [eqv_rt]; exact k _ rfl⟩
/-- an own list that is read where it stands -/
theorem own_at {n : Nat} (h : ρ[i]? = some (.own Ps)) (hb : D ρ tb (sc (.int (n : Int)))) (hn : Ps[n]? = some P) : D ρ (tOp (rIxL K) (tVar i) tb) P := fun W0 M W σ e Q k => by
  obtain ⟨u, h1, p, vs, rfl, _⟩ := e.ok i _ h
  refine ⟨_, h1, hb W0 M W σ e _ fun y W2 g py => ?_⟩
  cases py
  obtain ⟨u, h1', p', vs', e1, h3, h4, h5, h6⟩ := (e.go g).ok i _ h
  rw [h1] at h1'
  cases h1'
  cases e1
  obtain ⟨v, hv, pv⟩ := h6.get hn
  exact ⟨p, _, n, v, rfl, rfl, SqL.of h3, atI_nat hv, k v W2 g pv⟩
theorem d_un {r : V → Hp → VK → Prop} (ha : D ρ ta (sc u)) (hr : ∀ H (C : VK), C v H → r u H C) : D ρ (tUn r ta) (sc v) := fun W0 M W σ e Q k =>
  ha W0 M W σ e _ fun x W1 g1 px => by
    cases px
    exact hr _ _ (k v W1 g1 rfl)
/-! ### tests -/
theorem T.of (h : D ρ te (sc (.bl b))) (q : Φ b) : T ρ (tTest te) Φ := fun W0 M W σ e Q k => h W0 M W σ e _ fun v W2 g r => by
  cases r
  exact ⟨b, rfl, k b W2 g q⟩
theorem T.ofB (h : D ρ te (sc (.bl b))) (q : Φ b) : T ρ (tB te) Φ := T.of h q
theorem t_test (h : E ρ te fun s => ∃ b, s = .val (sc (.bl b)) ∧ Φ b) : T ρ (tTest te) Φ := fun W0 M W σ e Q k => h W0 M W σ e _ fun s v W2 g r q => by
  obtain ⟨b, rfl, hq⟩ := q
  cases r
  exact ⟨b, rfl, k b W2 g hq⟩
theorem t_B (h : E ρ te fun s => ∃ b, s = .val (sc (.bl b)) ∧ Φ b) : T ρ (tB te) Φ := t_test h
theorem t_and (h : T ρ t1 fun b => if b = true then T ρ t2 Φ else Φ false) : T ρ (tAnd t1 t2) Φ := fun W0 M W σ e Q k => h W0 M W σ e _ fun b W2 g q => by
  cases b with
  | true => exact q W0 M W2 σ (e.go g) _ fun c W3 g2 z => k c W3 (g.trans g2) z
  | false => exact k false W2 g q
theorem t_or (h : T ρ t1 fun b => if b = true then Φ true else T ρ t2 Φ) : T ρ (tOr t1 t2) Φ := fun W0 M W σ e Q k => h W0 M W σ e _ fun b W2 g q => by
  cases b with
  | false => exact q W0 M W2 σ (e.go g) _ fun c W3 g2 z => k c W3 (g.trans g2) z
  | true => exact k true W2 g q
theorem t_not (h : T ρ t1 fun b => Φ (!b)) : T ρ (tNot t1) Φ := fun W0 M W σ e Q k => h W0 M W σ e _ fun b W2 g q => k (!b) W2 g q
theorem t_yes (q : Φ true) : T ρ tYes Φ := fun W0 M W σ e Q k => k true W e.id q
theorem d_and (ha : D ρ ta (sc (.bl b1))) (hb : b1 = true → D ρ tb (sc (.bl b2))) : D ρ (tAndV ta tb) (sc (.bl (b1 && b2))) := fun W0 M W σ e Q k => ha W0 M W σ e _ fun v W1 g1 r => by
  cases r
  refine ⟨b1, rfl, ?_⟩
  cases b1 with
  | true => exact hb rfl W0 M W1 σ (e.go g1) _ fun v W2 g2 r => k v W2 (g1.trans g2) r
  | false => exact k _ W1 g1 rfl
theorem d_or (ha : D ρ ta (sc (.bl b1))) (hb : b1 = false → D ρ tb (sc (.bl b2))) : D ρ (tOrV ta tb) (sc (.bl (b1 || b2))) := fun W0 M W σ e Q k => ha W0 M W σ e _ fun v W1 g1 r => by
  cases r
  refine ⟨b1, rfl, ?_⟩
  cases b1 with
  | false => exact hb rfl W0 M W1 σ (e.go g1) _ fun v W2 g2 r => k v W2 (g1.trans g2) r
  | true => exact k _ W1 g1 rfl
theorem d_not (ha : D ρ ta (sc (.bl b))) : D ρ (tNotV ta) (sc (.bl (!b))) := fun W0 M W σ e Q k => ha W0 M W σ e _ fun v W1 g1 r => by
  cases r
  exact ⟨b, rfl, k _ W1 g1 rfl⟩
theorem e_if (h : T ρ tt fun b => if b = true then E ρ ta Ψ else E ρ tb Ψ) : E ρ (tIf tt ta tb) Ψ := fun W0 M W σ e Q k => h W0 M W σ e _ fun b W1 g1 q => by
  have up : ∀ {s v W2}, Go σ ρ W1 W2 → ROk W1 W2 v s → ROk W W2 v s := fun {s v W2} g2 r => by
    cases s with
    | val P => exact r
    | own Ps =>
      obtain ⟨p, vs, h1, h2, h3, h4, h5⟩ := r
      refine ⟨p, vs, h1, h2, h3, ?_, h5⟩
      cases c : W.h p with
      | none => rfl
      | some o =>
        by_cases bb : Bags σ ρ p
        · obtain ⟨_, _, z⟩ := g1.bg p bb
          rw [h4] at z
          cases z
        · have := g1.le.h p o bb c
          rw [h4] at this
          cases this
    | mat Pss =>
      have nn : ∀ {p}, W1.h p = none → W.h p = none := fun {p} h4 => by
        cases c : W.h p with
        | none => rfl
        | some o =>
          by_cases bb : Bags σ ρ p
          · obtain ⟨_, _, z⟩ := g1.bg p bb
            rw [h4] at z
            cases z
          · have := g1.le.h p o bb c
            rw [h4] at this
            cases this
      obtain ⟨p, ps, h1, h2, h3, h4, h5⟩ := r
      refine ⟨p, ps, h1, h2, nn h3, h4, ?_⟩
      clear h2 h4
      induction h5 with
      | nil => exact .nil
      | cons k1 k2 k3 k4 _ ih => exact .cons k1 k2 (nn k3) k4 ih
    | un => exact r
    | bag => exact r
  cases b with
  | true => exact q W0 M W1 σ (e.go g1) _ fun s v W2 g2 r z => k s v W2 (g1.trans g2) (up g2 r) z
  | false => exact q W0 M W1 σ (e.go g1) _ fun s v W2 g2 r z => k s v W2 (g1.trans g2) (up g2 r) z
theorem d_if (h : T ρ tt fun b => if b = true then D ρ ta P else D ρ tb P) : D ρ (tIf tt ta tb) P := fun W0 M W σ e Q k => h W0 M W σ e _ fun b W1 g1 q => by
  cases b with
  | true => exact q W0 M W1 σ (e.go g1) _ fun v W2 g2 r => k v W2 (g1.trans g2) r
  | false => exact q W0 M W1 σ (e.go g1) _ fun v W2 g2 r => k v W2 (g1.trans g2) r
theorem d_chain (ha : D ρ ta P1) (hb : D ρ tb P2) (hr : OpV r1 P1 P2 (sc (.bl b1))) (hc : b1 = true → ∃ P3, D ρ tc P3 ∧ OpV r2 P2 P3 (sc (.bl b2))) : D ρ (tChain r1 r2 ta tb tc) (sc (.bl (b1 && b2))) := fun W0 M W σ e Q k =>
  ha W0 M W σ e _ fun x W1 g1 px => hb W0 M W1 σ (e.go g1) _ fun y W2 g2 py => hr W2.r W2.h x y g2.sub (P1.mono g2.le.r px) py _ fun v pv => by
    cases pv
    refine ⟨b1, rfl, ?_⟩
    cases b1 with
    | false => exact k _ W2 (g1.trans g2) rfl
    | true =>
      obtain ⟨P3, hc, hr2⟩ := hc rfl
      exact hc W0 M W2 σ ((e.go g1).go g2) _ fun z W3 g3 pz => hr2 W3.r W3.h y z g3.sub (P2.mono g3.le.r py) pz _ fun v pv => k v W3 ((g1.trans g2).trans g3) pv
end
end WL

namespace WL
open PySem PySem.Spec PyProof.Rows L2 Evl NF
/-! ### what is made on the way is settled -/
inductive Set (K : PySem.W.Frag) : Sl → MP → Prop
  | val {P : MP} : Set K (.val P) P
  | own {Ps : List MP} : Set K (.own Ps) (lst K Ps)
  | mat {Pss : List (List MP)} : Set K (.mat Pss) (lst K (Pss.map (lst K)))
/-- settled with the rows at ps -/
def Rin (R H : Hp) (ps : List Addr) : Hp := fun a => if a ∈ ps then H a else R a
theorem rin_ex {R H : Hp} {ps : List Addr} (h : ∀ p ∈ ps, R p = none) : Ex R (Rin R H ps) := fun a o ha => by
  unfold Rin
  rw [if_neg fun c => ?_]
  · exact ha
  · rw [h a c] at ha
    cases ha
theorem rin_sub {R H : Hp} {ps : List Addr} (s : Ex R H) : Ex (Rin R H ps) H := fun a o ha => by
  unfold Rin at ha
  split at ha
  · exact ha
  · exact s _ _ ha
theorem rin_rows {K : PySem.W.Frag} {H0 : Hp} {W : Wd} {qs : List Addr} (hq : ∀ p ∈ qs, W.r p = none) : ∀ {ps : List Addr} {Pss : List (List MP)}, Rw H0 W ps Pss → (∀ p ∈ ps, p ∈ qs) → Al (Rin W.r W.h qs) (ps.map V.ref) (Pss.map (lst K))
  | _, _, .nil, _ => .nil
  | _, _, .cons (p := p) h1 h2 h3 h4 t, m => .cons ⟨_, _, rfl, SqL.of (by unfold Rin; rw [if_pos (m _ (List.mem_cons_self ..))]; exact h1), h4.mono (rin_ex hq)⟩ (rin_rows hq t fun p hp => m p (List.mem_cons_of_mem _ hp))
section
variable {K : PySem.W.Frag} {W0 W W1 W2 W3 : Wd} {M : Addr → Prop} {σ : L2.St} {ρ : List Sl} {i j : Nat} {P P1 P2 P3 : MP} {Ps Qs : List MP} {ta tb tc te : TE} {tt t1 t2 : TT} {Ψ : Sl → Prop} {Φ : Bool → Prop} {v w u : V} {b b1 b2 : Bool} {r r1 r2 : R2} {s : Sl}
theorem settle (e : En W0 M W σ ρ) (g : Go σ ρ W W2) (h : ROk W W2 v s) (q : Set K s P) : ∃ W3, W3.h = W2.h ∧ Ex W2.r W3.r ∧ Go σ ρ W W3 ∧ P.p W3.r v := by
  cases q with
  | val => exact ⟨W2, rfl, Ex.refl _, g, h⟩
  | own =>
    obtain ⟨p, vs, rfl, h1, h2, h3, h4⟩ := h
    have ex : Ex W2.r (upd W2.r p (.lst vs)) := Ex.new h2
    refine ⟨⟨upd W2.r p (.lst vs), W2.h⟩, rfl, ex, ⟨fun a o (ha : upd W2.r p (.lst vs) a = some o) => ?_, ⟨g.le.r.trans ex, g.le.h, fun q hq => ?_⟩, g.bg⟩, p, vs, rfl, SqL.of upd_same, h4.mono ex⟩
    · by_cases c : a = p
      · subst c
        rw [upd_same] at ha
        cases ha
        exact h1
      · rw [upd_ne c] at ha
        exact g.sub _ _ ha
    · have c : q ≠ p := fun z => by
        obtain ⟨⟨xs, hx, _⟩, _⟩ := hq
        rw [z, h3] at hx
        cases hx
      exact ⟨(g.le.w q hq).1, by show upd W2.r p _ q = none; rw [upd_ne c]; exact (g.le.w q hq).2⟩
  | mat =>
    obtain ⟨p, ps, rfl, h1, h2, h3, h4⟩ := h
    have hr : ∀ q ∈ ps, W2.r q = none := fun q hq => by
      obtain ⟨_, _, _, _, k2, _⟩ := h4.mem hq
      exact k2
    have ex : Ex W2.r (Rin W2.r W2.h ps) := rin_ex hr
    refine ⟨⟨Rin W2.r W2.h ps, W2.h⟩, rfl, ex, ⟨rin_sub g.sub, ⟨g.le.r.trans ex, g.le.h, fun q hq => ?_⟩, g.bg⟩, p, _, rfl, SqL.of (ex _ _ h1), rin_rows hr h4 fun _ z => z⟩
    have c : q ∉ ps := fun z => by
      obtain ⟨_, _, _, _, _, k3, _⟩ := h4.mem z
      obtain ⟨⟨o, ho, _⟩, _⟩ := hq
      rw [k3] at ho
      cases ho
    exact ⟨(g.le.w q hq).1, by show Rin W2.r W2.h ps q = none; unfold Rin; rw [if_neg c]; exact (g.le.w q hq).2⟩
theorem ROk.back (e : En W0 M W σ ρ) (g : Go σ ρ W W1) (r : ROk W1 W2 v s) : ROk W W2 v s := by
  cases s with
  | val P => exact r
  | own Ps =>
    obtain ⟨p, vs, h1, h2, h3, h4, h5⟩ := r
    refine ⟨p, vs, h1, h2, h3, ?_, h5⟩
    cases c : W.h p with
    | none => rfl
    | some o =>
      by_cases bb : Bags σ ρ p
      · obtain ⟨_, _, z⟩ := g.bg p bb
        rw [h4] at z
        cases z
      · have := g.le.h p o bb c
        rw [h4] at this
        cases this
  | mat Pss =>
    have nn : ∀ {p}, W1.h p = none → W.h p = none := fun {p} h4 => by
      cases c : W.h p with
      | none => rfl
      | some o =>
        by_cases bb : Bags σ ρ p
        · obtain ⟨_, _, z⟩ := g.bg p bb
          rw [h4] at z
          cases z
        · have := g.le.h p o bb c
          rw [h4] at this
          cases this
    obtain ⟨p, ps, h1, h2, h3, h4, h5⟩ := r
    refine ⟨p, ps, h1, h2, nn h3, h4, ?_⟩
    clear h2 h4
    induction h5 with
    | nil => exact .nil
    | cons k1 k2 k3 k4 _ ih => exact .cons k1 k2 (nn k3) k4 ih
  | un => exact r
  | bag => exact r
theorem D.of (h : E ρ te fun s => Set K s P) : D ρ te P := fun W0 M W σ e Q k => h W0 M W σ e _ fun s v W2 g r q => by
  obtain ⟨W3, e1, _, g3, p3⟩ := settle e g r q
  rw [← e1]
  exact k v W3 g3 p3
/-! ### arguments -/
def AOk (σ : L2.St) (ρ : List Sl) (W : Wd) (v : V) : Sl → Prop
  | .val P => P.p W.r v
  | .bag => ∃ i : Nat, ρ[i]? = some .bag ∧ σ[i]? = some (some v)
  | _ => False
inductive AOks (σ : L2.St) (ρ : List Sl) (W : Wd) : List V → List Sl → Prop
  | nil : AOks σ ρ W [] []
  | cons {v : V} {s : Sl} {vs : List V} {ss : List Sl} : AOk σ ρ W v s → AOks σ ρ W vs ss → AOks σ ρ W (v :: vs) (s :: ss)
theorem AOk.mono (e : Ex W.r W2.r) (h : AOk σ ρ W v s) : AOk σ ρ W2 v s := by
  cases s with
  | val P => exact P.mono e h
  | bag => exact h
  | un => exact h
  | own _ => exact h
  | mat _ => exact h
def EA (ρ : List Sl) (ta : TA) (Φ : List Sl → Prop) : Prop := ∀ W0 M W σ, En W0 M W σ ρ → ∀ Q : List V → Hp → Prop, (∀ ss vs W2, Go σ ρ W W2 → AOks σ ρ W2 vs ss → Φ ss → Q vs W2.h) → ta σ W.h Q
def DA (ρ : List Sl) (ta : TA) (Ps : List MP) : Prop := ∀ W0 M W σ, En W0 M W σ ρ → ∀ Q : List V → Hp → Prop, (∀ vs W2, Go σ ρ W W2 → Al W2.r vs Ps → Q vs W2.h) → ta σ W.h Q
variable {tA tr : TA} {ΦA : List Sl → Prop}
theorem da_nil : DA ρ tNil [] := fun W0 M W σ e Q k => k [] W e.id .nil
theorem da_cons (h : D ρ ta P) (t : DA ρ tr Ps) : DA ρ (tCons ta tr) (P :: Ps) := fun W0 M W σ e Q k => h W0 M W σ e _ fun v W1 g1 p => t W0 M W1 σ (e.go g1) _ fun vs W2 g2 ps => k _ W2 (g1.trans g2) (.cons (P.mono g2.le.r p) ps)
theorem ea_nil (q : ΦA []) : EA ρ tNil ΦA := fun W0 M W σ e Q k => k [] [] W e.id .nil q
theorem ea_cons (h : E ρ ta fun s => ∃ P, Set K s P ∧ EA ρ tr fun ss => ΦA (.val P :: ss)) : EA ρ (tCons ta tr) ΦA := fun W0 M W σ e Q k => h W0 M W σ e _ fun s v W1 g1 r q => by
  obtain ⟨P, hs, q⟩ := q
  obtain ⟨W3, e1, _, g3, p3⟩ := settle e g1 r hs
  show tr σ W1.h _
  rw [← e1]
  exact q W0 M W3 σ (e.go g3) _ fun ss vs W2 g2 as q => k _ _ W2 (g3.trans g2) (.cons (s := .val P) (P.mono g2.le.r p3) as) q
theorem ea_d (h : D ρ ta P) (q : EA ρ tr fun ss => ΦA (.val P :: ss)) : EA ρ (tCons ta tr) ΦA := fun W0 M W σ e Q k => h W0 M W σ e _ fun v W1 g1 p =>
  q W0 M W1 σ (e.go g1) _ fun ss vs W2 g2 as q => k _ _ W2 (g1.trans g2) (.cons (s := .val P) (P.mono g2.le.r p) as) q
theorem ea_bag (h : ρ[i]? = some .bag) (q : EA ρ tr fun ss => ΦA (.bag :: ss)) : EA ρ (tCons (tVar i) tr) ΦA := fun W0 M W σ e Q k => by
  obtain ⟨u, h1, p, rfl, _⟩ := e.ok i _ h
  exact ⟨_, h1, q W0 M W σ e _ fun ss vs W2 g2 as q => k _ _ W2 g2 (.cons (s := .bag) ⟨i, h, h1⟩ as) q⟩
theorem EA.of (h : DA ρ tA Ps) (q : ΦA (Ps.map .val)) : EA ρ tA ΦA := fun W0 M W σ e Q k => h W0 M W σ e _ fun vs W2 g a => by
  refine k (Ps.map .val) vs W2 g ?_ q
  clear q k h
  induction a with
  | nil => exact .nil
  | cons p _ ih => exact .cons p ih
/-! ### builtin calls that read -/
def CbV (r : List V → Hp → VK → Prop) (Ps : List MP) (T : MP) : Prop := ∀ (R H : Hp) vs, Ex R H → Al R vs Ps → ∀ C : VK, (∀ v, T.p R v → C v H) → r vs H C
theorem d_cb {r : List V → Hp → VK → Prop} (ha : DA ρ tA Ps) (hr : CbV r Ps P) : D ρ (tCB r tA) P := fun W0 M W σ e Q k => ha W0 M W σ e _ fun vs W2 g a => hr W2.r W2.h vs g.sub a _ fun v p => k v W2 g p
theorem Al.inv1 {H : Hp} {vs : List V} (h : Al H vs [P]) : ∃ v, vs = [v] ∧ P.p H v := by
  cases h with
  | cons p t =>
    cases t
    exact ⟨_, rfl, p⟩
theorem Al.inv2 {H : Hp} {vs : List V} (h : Al H vs [P, P2]) : ∃ v w, vs = [v, w] ∧ P.p H v ∧ P2.p H w := by
  cases h with
  | cons p t =>
    obtain ⟨w, rfl, q⟩ := t.inv1
    exact ⟨_, w, rfl, p, q⟩
theorem cb_len : CbV (rLenS K) [lst K Ps] (sc (.int (Ps.length : Int))) := fun R H vs s a C k => by
  obtain ⟨v, rfl, p, ws, rfl, h1, h2⟩ := a.inv1
  exact ⟨p, ws, rfl, .inl (ex_l s h1), by rw [h2.length]; exact k _ rfl⟩
theorem cb_lenT : CbV (rLenS K) [tup K Ps] (sc (.int (Ps.length : Int))) := fun R H vs s a C k => by
  obtain ⟨v, rfl, p, ws, rfl, h1, h2⟩ := a.inv1
  exact ⟨p, ws, rfl, .inr (ex_t s h1), by rw [h2.length]; exact k _ rfl⟩
theorem cb_v {r : List V → Hp → VK → Prop} (h : ∀ H (C : VK), C w H → r [v] H C) : CbV r [sc v] (sc w) := fun R H vs s a C k => by
  obtain ⟨x, rfl, e⟩ := a.inv1
  cases e
  exact h H C (k w rfl)
theorem cb_v2 {r : List V → Hp → VK → Prop} (h : ∀ H (C : VK), C w H → r [v, u] H C) : CbV r [sc v, sc u] (sc w) := fun R H vs s a C k => by
  obtain ⟨x, y, rfl, e, e2⟩ := a.inv2
  cases e
  cases e2
  exact h H C (k w rfl)
theorem own_len (h : ρ[i]? = some (.own Ps)) : D ρ (tCB (rLenS K) (tCons (tVar i) tNil)) (sc (.int (Ps.length : Int))) := fun W0 M W σ e Q k => by
  obtain ⟨u, h1, p, vs, rfl, h3, h4, h5, h6⟩ := e.ok i _ h
  exact ⟨_, h1, p, vs, rfl, .inl (SqL.of h3), by rw [h6.length]; exact k _ W e.id rfl⟩
/-! ### tuples, lists made -/
theorem d_tup (h : DA ρ tA Ps) (hl : Nat.ble Ps.length 100000 = true := by rfl) : D ρ (tTup tA) (tup K Ps) := fun W0 M W σ e Q k => h W0 M W σ e _ fun vs W2 g a => by
  refine ⟨sz_of (by rw [a.length]; exact Nat.le_of_ble_eq_true hl), fun p hp => ?_⟩
  have rp : W2.r p = none := by
    cases c : W2.r p with
    | none => rfl
    | some o => rw [g.sub _ _ c] at hp; cases hp
  have ex : Ex W2.r (upd W2.r p (.tup vs)) := Ex.new rp
  refine k _ ⟨upd W2.r p (.tup vs), upd W2.h p (.tup vs)⟩ ⟨fun q o hq => ?_, ⟨g.le.r.trans ex, fun q o n hq => Ex.new hp _ _ (g.le.h q o n hq), fun q hq => ?_⟩, fun q b => ?_⟩ ⟨p, vs, rfl, SqT.of upd_same, a.mono ex⟩
  · by_cases c : q = p
    · subst c
      rw [show (⟨upd W2.r q (.tup vs), upd W2.h q (.tup vs)⟩ : Wd).r q = some (.tup vs) from upd_same] at hq
      cases hq
      exact upd_same
    · show upd W2.h p _ q = _
      rw [upd_ne c]
      have hq' : upd W2.r p (.tup vs) q = some o := hq
      rw [upd_ne c] at hq'
      exact g.sub _ _ hq'
  · obtain ⟨⟨xs, h1, hnt⟩, h2⟩ := g.le.w q hq
    have c : q ≠ p := fun z => by rw [z, hp] at h1; cases h1
    exact ⟨⟨xs, by show upd W2.h p _ q = _; rw [upd_ne c]; exact h1, hnt⟩, by show upd W2.r p _ q = _; rw [upd_ne c]; exact h2⟩
  · obtain ⟨x, y, h1⟩ := g.bg q b
    exact ⟨x, y, Ex.new hp _ _ h1⟩
theorem tup_rat {n d : Int} {x : Rat} (en : n = x.num) (ed : d = x.den) (H : Hp) (v : V) (h : (tup K [sc (.int n), sc (.int d)]).p H v) : (rat K x).p H v := by
  obtain ⟨p, vs, rfl, hs, ha⟩ := h
  obtain ⟨a, b, rfl, e1, e2⟩ := ha.inv2
  cases e1
  cases e2
  subst en ed
  exact ⟨p, rfl, hs⟩
/-- a new list, from where the heap stands -/
theorem e_new (e : En W0 M W σ ρ) (g : Go σ ρ W W2) {p : Addr} {vs : List V} (hp : W2.h p = none) (a : Al W2.r vs Ps) : ∃ W3, W3.h = upd W2.h p (.lst vs) ∧ W3.r = W2.r ∧ Go σ ρ W W3 ∧ ROk W W3 (.ref p) (.own Ps) := by
  have rp : W2.r p = none := by
    cases c : W2.r p with
    | none => rfl
    | some o => rw [g.sub _ _ c] at hp; cases hp
  have wp : W.h p = none := by
    cases c : W.h p with
    | none => rfl
    | some o =>
      by_cases bb : Bags σ ρ p
      · obtain ⟨_, _, z⟩ := g.bg p bb
        rw [hp] at z
        cases z
      · have := g.le.h p o bb c
        rw [hp] at this
        cases this
  refine ⟨⟨W2.r, upd W2.h p (.lst vs)⟩, rfl, rfl, ⟨fun q o hq => Ex.new hp _ _ (g.sub _ _ hq), ⟨g.le.r, fun q o n hq => Ex.new hp _ _ (g.le.h q o n hq), fun q hq => ?_⟩, fun q b => ?_⟩, p, vs, rfl, upd_same, rp, wp, a⟩
  · obtain ⟨⟨xs, h1, hnt⟩, h2⟩ := g.le.w q hq
    exact ⟨⟨xs, Ex.new hp _ _ h1, hnt⟩, h2⟩
  · obtain ⟨x, y, h1⟩ := g.bg q b
    exact ⟨x, y, Ex.new hp _ _ h1⟩
theorem e_lst (h : EA ρ tA fun ss => ∃ Ps, ss = Ps.map .val ∧ Nat.ble Ps.length 100000 = true ∧ Ψ (.own Ps)) : E ρ (tLst tA) Ψ := fun W0 M W σ e Q k => h W0 M W σ e _ fun ss vs W2 g a q => by
  obtain ⟨Ps, rfl, hl, q⟩ := q
  have al : Al W2.r vs Ps := by
    clear q hl h
    induction Ps generalizing vs with
    | nil =>
      cases a
      exact .nil
    | cons P Ps ih =>
      cases a with
      | cons p t => exact .cons p (ih _ t)
  refine ⟨sz_of (by rw [al.length]; exact Nat.le_of_ble_eq_true hl), fun p hp => ?_⟩
  obtain ⟨W3, e1, _, g3, r3⟩ := e_new e g hp al
  rw [← e1]
  exact k _ _ W3 g3 r3 q
theorem e_lstD (h : DA ρ tA Ps) (q : Ψ (.own Ps)) (hl : Nat.ble Ps.length 100000 = true := by rfl) : E ρ (tLst tA) Ψ := e_lst (EA.of h ⟨Ps, rfl, hl, q⟩)
/-- a builtin call that makes a list -/
def CbL (r : List V → Hp → VK → Prop) (Ps Qs : List MP) : Prop := ∀ (R H : Hp) vs, Ex R H → Al R vs Ps → ∀ C : VK, (∀ p ws, H p = none → Al R ws Qs → C (.ref p) (upd H p (.lst ws))) → r vs H C
theorem e_cbL {r : List V → Hp → VK → Prop} (ha : DA ρ tA Ps) (hr : CbL r Ps Qs) (q : Ψ (.own Qs)) : E ρ (tCB r tA) Ψ := fun W0 M W σ e Q k => ha W0 M W σ e _ fun vs W2 g a => hr W2.r W2.h vs g.sub a _ fun p ws hp al => by
  obtain ⟨W3, e1, _, g3, r3⟩ := e_new e g hp al
  rw [← e1]
  exact k _ _ W3 g3 r3 q
theorem cl_list : CbL (rListS K) [lst K Ps] Ps := fun R H vs s a C k => by
  obtain ⟨v, rfl, p, ws, rfl, h1, h2⟩ := a.inv1
  exact ⟨p, ws, rfl, .inl (ex_l s h1), fun l hl => k l ws hl h2⟩
theorem cl_listT : CbL (rListS K) [tup K Ps] Ps := fun R H vs s a C k => by
  obtain ⟨v, rfl, p, ws, rfl, h1, h2⟩ := a.inv1
  exact ⟨p, ws, rfl, .inr (ex_t s h1), fun l hl => k l ws hl h2⟩
end
/-! ### promises -/
def noBag : List Sl → Bool
  | [] => true
  | .bag :: _ => false
  | _ :: t => noBag t
def oneBag : List Sl → Bool
  | [] => true
  | .bag :: t => noBag t
  | _ :: t => oneBag t
theorem noBag_no : ∀ {ρ : List Sl} {i : Nat}, noBag ρ = true → ρ[i]? ≠ some .bag
  | [], _, _, e => by simp at e
  | .bag :: _, _, h, _ => by cases h
  | .un :: t, 0, _, e => by simp at e
  | .val _ :: t, 0, _, e => by simp at e
  | .own _ :: t, 0, _, e => by simp at e
  | .mat _ :: t, 0, _, e => by simp at e
  | .mat _ :: t, i + 1, h, e => noBag_no (ρ := t) (i := i) h (by simpa using e)
  | .un :: t, i + 1, h, e => noBag_no (ρ := t) (i := i) h (by simpa using e)
  | .val _ :: t, i + 1, h, e => noBag_no (ρ := t) (i := i) h (by simpa using e)
  | .own _ :: t, i + 1, h, e => noBag_no (ρ := t) (i := i) h (by simpa using e)
theorem oneBag_eq : ∀ {ρ : List Sl} {i j : Nat}, oneBag ρ = true → ρ[i]? = some .bag → ρ[j]? = some .bag → i = j
  | [], _, _, _, e, _ => by simp at e
  | .bag :: t, 0, 0, _, _, _ => rfl
  | .bag :: t, i + 1, _, h, e, _ => absurd (show t[i]? = some .bag by simpa using e) (noBag_no h)
  | .bag :: t, _, j + 1, h, _, e => absurd (show t[j]? = some .bag by simpa using e) (noBag_no h)
  | .un :: t, 0, _, _, e, _ => by simp at e
  | .val _ :: t, 0, _, _, e, _ => by simp at e
  | .own _ :: t, 0, _, _, e, _ => by simp at e
  | .mat _ :: t, 0, _, _, e, _ => by simp at e
  | .un :: t, _, 0, _, _, e => by simp at e
  | .val _ :: t, _, 0, _, _, e => by simp at e
  | .own _ :: t, _, 0, _, _, e => by simp at e
  | .mat _ :: t, _, 0, _, _, e => by simp at e
  | .mat _ :: t, i + 1, j + 1, h, e1, e2 => congrArg Nat.succ (oneBag_eq (ρ := t) h (by simpa using e1) (by simpa using e2))
  | .un :: t, i + 1, j + 1, h, e1, e2 => congrArg Nat.succ (oneBag_eq (ρ := t) h (by simpa using e1) (by simpa using e2))
  | .val _ :: t, i + 1, j + 1, h, e1, e2 => congrArg Nat.succ (oneBag_eq (ρ := t) h (by simpa using e1) (by simpa using e2))
  | .own _ :: t, i + 1, j + 1, h, e1, e2 => congrArg Nat.succ (oneBag_eq (ρ := t) h (by simpa using e1) (by simpa using e2))
theorem noBag_vals : ∀ (Ps : List MP), noBag (Ps.map .val) = true
  | [] => rfl
  | _ :: Ps => noBag_vals Ps
theorem oneBag_vals : ∀ (Ps : List MP), oneBag (Ps.map .val) = true
  | [] => rfl
  | _ :: Ps => oneBag_vals Ps
/-- an argument as the callee meets it -/
def POk (W : Wd) (v : V) : Sl → Prop
  | .val P => P.p W.r v
  | .bag => ∃ p, v = .ref p ∧ Bg W.h p ∧ W.r p = none
  | _ => False
inductive POks (W : Wd) : List V → List Sl → Prop
  | nil : POks W [] []
  | cons {v : V} {s : Sl} {vs : List V} {ss : List Sl} : POk W v s → POks W vs ss → POks W (v :: vs) (s :: ss)
theorem POks.length {W : Wd} : ∀ {vs : List V} {ss : List Sl}, POks W vs ss → vs.length = ss.length
  | _, _, .nil => rfl
  | _, _, .cons _ t => congrArg Nat.succ (POks.length t)
theorem POks.get {W : Wd} : ∀ {vs : List V} {ss : List Sl} {i : Nat} {s : Sl}, POks W vs ss → ss[i]? = some s → ∃ v, vs[i]? = some v ∧ POk W v s
  | _, _, _, _, .nil, e => by simp at e
  | _, _, 0, _, .cons h _, e => by
    have e' := Option.some.inj e
    subst e'
    exact ⟨_, rfl, h⟩
  | _, _, i + 1, _, .cons _ t, e => POks.get (i := i) t e
def BagOf (vs : List V) (ss : List Sl) (p : Addr) : Prop := ∃ i : Nat, ss[i]? = some .bag ∧ vs[i]? = some (.ref p)
def spP (pre : List Sl → (Sl → Prop) → Prop) : Sp := fun vs H Q _ => ∃ (W : Wd) (ss : List Sl) (Ψ : Sl → Prop), W.h = H ∧ Ex W.r W.h ∧ POks W vs ss ∧ oneBag ss = true ∧ pre ss Ψ ∧
  ∀ s v W2, Ex W2.r W2.h → Le (BagOf vs ss) W W2 → (∀ p, BagOf vs ss p → Bg W2.h p) → ROk W W2 v s → Ψ s → Q v W2.h
section
variable {K : PySem.W.Frag} {W0 W W1 W2 W3 : Wd} {M : Addr → Prop} {σ : L2.St} {ρ : List Sl} {i j : Nat} {P : MP} {Ps Qs : List MP} {ta tb tc te : TE} {tA tr : TA} {Ψ : Sl → Prop} {v w u : V} {pre : List Sl → (Sl → Prop) → Prop} {dvs : List V} {Ex0 : XK}
theorem AOks.pok (e : En W0 M W σ ρ) : ∀ {vs : List V} {ss : List Sl}, AOks σ ρ W vs ss → POks W vs ss
  | _, _, .nil => .nil
  | _, _, .cons (s := .val P) h t => .cons h (AOks.pok e t)
  | _, _, .cons (s := .bag) ⟨i, h1, h2⟩ t => by
    obtain ⟨u, e1, p, e2, h3, h4, _⟩ := e.ok i _ h1
    rw [h2] at e1
    cases e1
    cases e2
    exact .cons ⟨p, rfl, h3, h4⟩ (AOks.pok e t)
theorem AOks.bag : ∀ {vs : List V} {ss : List Sl} {p : Addr}, AOks σ ρ W vs ss → BagOf vs ss p → Bags σ ρ p
  | _, _, _, .nil, ⟨i, e, _⟩ => by simp at e
  | _, _, _, .cons h t, ⟨0, e1, e2⟩ => by
    simp at e1 e2
    subst e1 e2
    exact h
  | _, _, _, .cons h t, ⟨i + 1, e1, e2⟩ => AOks.bag t ⟨i, by simpa using e1, by simpa using e2⟩
theorem AOks.app {Vs : List MP} {ws : List V} (a : Al W.r ws Vs) : ∀ {vs : List V} {ss : List Sl}, AOks σ ρ W vs ss → AOks σ ρ W (vs ++ ws) (ss ++ Vs.map .val)
  | _, _, .nil => by
    show AOks σ ρ W ws (Vs.map .val)
    induction a with
    | nil => exact .nil
    | cons p _ ih => exact .cons p ih
  | _, _, .cons h t => .cons h (AOks.app a t)
theorem al_sc {H : Hp} : ∀ {vs : List V}, Al H vs (vs.map sc)
  | [] => .nil
  | _ :: _ => .cons rfl al_sc
theorem e_call (h : EA ρ tA fun ss => oneBag (ss ++ (dvs.map sc).map .val) = true ∧ pre (ss ++ (dvs.map sc).map .val) Ψ) : E ρ (tCall (spP pre) dvs Ex0 tA) Ψ := fun W0 M W σ e Q k => h W0 M W σ e _ fun ss vs W1 g1 as q => by
  have as' : AOks σ ρ W1 (vs ++ dvs) (ss ++ (dvs.map sc).map .val) := as.app al_sc
  refine ⟨W1, _, Ψ, rfl, g1.sub, as'.pok (e.go g1), q.1, q.2, fun s v W2 sub le bg r z => ?_⟩
  have g2 : Go σ ρ W1 W2 := ⟨sub, le.more fun p b => as'.bag b, fun p b => ?_⟩
  · exact k s v W2 (g1.trans g2) (r.back e g1) z
  · by_cases c : BagOf (vs ++ dvs) (ss ++ (dvs.map sc).map .val) p
    · exact bg p c
    · obtain ⟨x, y, hb⟩ := ((e.go g1).bag b).1
      exact ⟨x, y, le.h _ _ c hb⟩
theorem d_call (ha : DA ρ tA Ps) (h : ∀ Ψ : Sl → Prop, Ψ (.val P) → pre (Ps.map .val ++ (dvs.map sc).map .val) Ψ) : D ρ (tCall (spP pre) dvs Ex0 tA) P := fun W0 M W σ e Q k =>
  e_call (Ψ := fun s => s = .val P) (EA.of ha ⟨by rw [← List.map_append]; exact oneBag_vals _, h _ rfl⟩) W0 M W σ e _ fun s v W2 g r z => by
    subst z
    exact k v W2 g r
end
end WL

namespace WL
open PySem PySem.Spec PyProof.Rows L2 Evl NF
/-! ### statements -/
structure Post where
  nx : List Sl → Prop
  rt : Sl → Prop
  bk : List Sl → Prop := fun _ => False
  ct : List Sl → Prop := fun _ => False
structure Meets (W0 : Wd) (M : Addr → Prop) (D : Ends) (R : Post) : Prop where
  nx : ∀ W σ ρ, En W0 M W σ ρ → R.nx ρ → D.nx σ W.h
  bk : ∀ W σ ρ, En W0 M W σ ρ → R.bk ρ → D.bk σ W.h
  ct : ∀ W σ ρ, En W0 M W σ ρ → R.ct ρ → D.ct σ W.h
  rt : ∀ s v W, Ex W.r W.h → Le M W0 W → (∀ p, M p → Bg W.h p) → ROk W0 W v s → R.rt s → D.rt v W.h
def G (ts : TS) (ρ : List Sl) (R : Post) : Prop := ∀ W0 M W σ D, En W0 M W σ ρ → Meets W0 M D R → ts D σ W.h
section
variable {K : PySem.W.Frag} {W0 W W1 W2 W3 : Wd} {M : Addr → Prop} {σ : L2.St} {ρ ρ1 ρ2 : List Sl} {i j : Nat} {P P1 P2 P3 : MP} {Ps Qs : List MP} {ta tb tc te tl : TE} {tt t1 t2 : TT} {Ψ : Sl → Prop} {v w u : V} {b b1 b2 : Bool} {R : Post} {t tu tw tz : TS} {s : Sl} {tA : TA}
theorem ROk.base (e : En W0 M W σ ρ) (r : ROk W W2 v s) : ROk W0 W2 v s := by
  cases s with
  | val P => exact r
  | own Ps =>
    obtain ⟨p, vs, h1, h2, h3, h4, h5⟩ := r
    refine ⟨p, vs, h1, h2, h3, ?_, h5⟩
    cases c : W0.h p with
    | none => rfl
    | some o =>
      by_cases m : M p
      · obtain ⟨_, _, z⟩ := e.bags p m
        rw [h4] at z
        cases z
      · have := e.le.h p o m c
        rw [h4] at this
        cases this
  | mat Pss =>
    have nn : ∀ {p}, W.h p = none → W0.h p = none := fun {p} h4 => by
      cases c : W0.h p with
      | none => rfl
      | some o =>
        by_cases m : M p
        · obtain ⟨_, _, z⟩ := e.bags p m
          rw [h4] at z
          cases z
        · have := e.le.h p o m c
          rw [h4] at this
          cases this
    obtain ⟨p, ps, h1, h2, h3, h4, h5⟩ := r
    refine ⟨p, ps, h1, h2, nn h3, h4, ?_⟩
    clear h2 h4
    induction h5 with
    | nil => exact .nil
    | cons k1 k2 k3 k4 _ ih => exact .cons k1 k2 (nn k3) k4 ih
  | un => exact r
  | bag => exact r
/-- what a slot may change stands in the heap -/
theorem En.ft_some (e : En W0 M W σ ρ) {k : Nat} {t' : Sl} {u : Option V} {a : Addr} (hk : ρ[k]? = some t') (hu : σ[k]? = some u) (h : ft W.r u t' a) : ∃ o, W.h a = some o := by
  obtain ⟨u', hu', q⟩ := e.ok k t' hk
  rw [hu] at hu'
  cases hu'
  cases t' with
  | un => exact h.elim
  | val P => exact h.elim
  | own Qs =>
    obtain ⟨p', vs', e1, q2, _⟩ := q
    have h' : u = some (.ref a) := h
    rw [h'] at e1
    cases e1
    exact ⟨_, q2⟩
  | bag =>
    obtain ⟨p', e1, ⟨_, _, q2⟩, _⟩ := q
    have h' : u = some (.ref a) := h
    rw [h'] at e1
    cases e1
    exact ⟨_, q2⟩
  | mat Pss =>
    obtain ⟨p, ps, e1, k1, _, rw_⟩ := q
    obtain ⟨p2, ps2, e2, k2, hm⟩ := h
    rw [e1] at e2
    cases e2
    rw [k1] at k2
    have := map_ref_inj (HO.lst.inj (Option.some.inj k2))
    subst this
    obtain ⟨vs, _, _, k3, _⟩ := rw_.mem hm
    exact ⟨_, k3⟩
/-- a slot is set -/
theorem En.set (e : En W0 M W σ ρ) (g : Go σ ρ W W2) (r : ROk W W2 v s) (hi : i < ρ.length) : En W0 M W2 (σ.set i (some v)) (ρ.set i s) := by
  have e2 := e.go g
  have rb := ROk.base e r
  have hσ : i < σ.length := by rw [e.len]; exact hi
  refine ⟨e2.sub, e2.le, e2.old, e2.bags, by rw [List.length_set, List.length_set]; exact e.len, fun k t hk => ?_, fun k l t t' u w a hkl hk hl ku lu o1 o2 => ?_⟩
  · by_cases c : i = k
    · subst c
      rw [List.getElem?_set_self hi] at hk
      cases hk
      refine ⟨some v, List.getElem?_set_self hσ, ?_⟩
      cases s with
      | un => trivial
      | val P => exact ⟨v, rfl, r⟩
      | own Ps =>
        obtain ⟨p, vs, rfl, h2, h3, h4, h5⟩ := rb
        exact ⟨p, vs, rfl, h2, h3, h4, h5⟩
      | mat Pss =>
        obtain ⟨p, ps, rfl, h2, h3, h4, h5⟩ := rb
        exact ⟨p, ps, rfl, h2, h4, h5⟩
      | bag => exact r.elim
    · rw [List.getElem?_set_ne c] at hk
      rw [List.getElem?_set_ne c]
      exact e2.ok k t hk
  · have fr : ∀ {l : Nat} {t' : Sl} {w : Option V} {a : Addr}, ρ[l]? = some t' → σ[l]? = some w → ft W2.r w t' a → ¬ ft W2.r (some v) s a := by
      clear hk hl o1 o2 hkl ku lu
      intro l t' w a hl lu o2 o1
      have st : ∃ o, W.h a = some o := by
        refine e.ft_some hl lu ?_
        cases t' with
        | un => exact o2
        | val P => exact o2
        | own Ps => exact o2
        | bag => exact o2
        | mat Pss =>
          obtain ⟨p, ps, h1, h2, h3⟩ := o2
          obtain ⟨u', hu', p', ps', e1, k1, _⟩ := e.ok l _ hl
          rw [lu] at hu'
          cases hu'
          rw [h1] at e1
          cases e1
          have := g.le.r _ _ k1
          rw [h2] at this
          have := map_ref_inj (HO.lst.inj (Option.some.inj this))
          subst this
          exact ⟨p, ps, h1, k1, h3⟩
      obtain ⟨o, ho⟩ := st
      cases s with
      | un => exact o1
      | val P => exact o1
      | bag => exact r
      | own Ps =>
        obtain ⟨p, vs, rfl, h2, h3, h4, h5⟩ := r
        have o1' : some (V.ref p) = some (.ref a) := o1
        cases o1'
        rw [h4] at ho
        cases ho
      | mat Pss =>
        obtain ⟨p, ps, rfl, h2, h3, h4, h5⟩ := r
        obtain ⟨p', ps', e1, k1, hm⟩ := o1
        cases e1
        rw [h2] at k1
        have := map_ref_inj (HO.lst.inj (Option.some.inj k1))
        subst this
        obtain ⟨_, _, _, _, _, k3, _⟩ := h5.mem hm
        rw [k3] at ho
        cases ho
    by_cases c : i = k
    · subst c
      have c2 : i ≠ l := hkl
      rw [List.getElem?_set_self hi] at hk
      rw [List.getElem?_set_ne c2] at hl lu
      cases hk
      rw [List.getElem?_set_self hσ] at ku
      cases ku
      exact fr hl lu o2 o1
    · rw [List.getElem?_set_ne c] at hk ku
      by_cases c2 : i = l
      · subst c2
        rw [List.getElem?_set_self hi] at hl
        cases hl
        rw [List.getElem?_set_self hσ] at lu
        cases lu
        exact fr hk ku o1 o2
      · rw [List.getElem?_set_ne c2] at hl lu
        exact e2.ne k l t t' u w a hkl hk hl ku lu o1 o2
/-- less is said of a slot -/
theorem En.less (e : En W0 M W σ ρ) (hl : ρ2.length = ρ.length) (h : ∀ (i : Nat) s, ρ2[i]? = some s → s = .un ∨ ρ[i]? = some s) : En W0 M W σ ρ2 := by
  refine ⟨e.sub, e.le, e.old, e.bags, by rw [e.len, hl], fun i s hs => ?_, fun i j s t u w a n h1 h2 k1 k2 o1 o2 => ?_⟩
  · rcases h i s hs with rfl | h'
    · have hi : i < ρ2.length := (List.getElem?_eq_some_iff.mp hs).1
      exact ⟨_, List.getElem?_eq_getElem (by rw [e.len, ← hl]; exact hi), trivial⟩
    · exact e.ok i s h'
  · have a' : ρ[i]? = some s := (h i s h1).resolve_left fun z => by subst z; exact o1
    have b' : ρ[j]? = some t := (h j t h2).resolve_left fun z => by subst z; exact o2
    exact e.ne i j s t u w a n a' b' k1 k2 o1 o2
theorem g_seq (h : G t ρ { R with nx := fun ρ' => G tu ρ' R }) : G (tSeq t tu) ρ R := fun W0 M W σ D e m => h W0 M W σ _ e ⟨fun W2 σ2 ρ2 e2 q => q W0 M W2 σ2 D e2 m, m.bk, m.ct, m.rt⟩
theorem g_next (h : R.nx ρ) : G tNext ρ R := fun W0 M W σ D e m => m.nx W σ ρ e h
theorem g_asg (h : E ρ te fun s => R.nx (ρ.set i s)) (hi : Nat.blt i ρ.length = true := by rfl) : G (tAsg te (gName i)) ρ R := fun W0 M W σ D e m => h W0 M W σ e _ fun s v W2 g r q => m.nx W2 _ _ (e.set g r (Nat.le_of_ble_eq_true hi)) q
theorem g_asgD (h : D ρ te P) (q : R.nx (ρ.set i (.val P))) (hi : Nat.blt i ρ.length = true := by rfl) : G (tAsg te (gName i)) ρ R := g_asg (E.of h q) hi
theorem g_drop (h : E ρ te fun _ => R.nx ρ) : G (tDrop te) ρ R := fun W0 M W σ D e m => h W0 M W σ e _ fun s v W2 g r q => m.nx W2 _ _ (e.go g) q
theorem g_ret (h : E ρ te R.rt) : G (tRet te) ρ R := fun W0 M W σ D e m => h W0 M W σ e _ fun s v W2 g r q => m.rt s v W2 g.sub (e.go g).le (e.go g).bags (ROk.base e r) q
theorem g_retD (h : D ρ te P) (q : R.rt (.val P)) : G (tRet te) ρ R := g_ret (E.of h q)
theorem g_retN (q : R.rt (.val (sc .non))) : G tRetN ρ R := fun W0 M W σ D e m => m.rt (.val (sc .non)) .non W e.sub e.le e.bags rfl q
theorem g_retOwn (h : ρ[i]? = some (.own Ps)) (q : R.rt (.own Ps)) : G (tRet (tVar i)) ρ R := fun W0 M W σ D e m => by
  obtain ⟨u, h1, p, vs, rfl, h3, h4, h5, h6⟩ := e.ok i _ h
  exact ⟨_, h1, m.rt (.own Ps) _ W e.sub e.le e.bags ⟨p, vs, rfl, h3, h4, h5, h6⟩ q⟩
theorem g_if (h : T ρ tt fun b => if b = true then G tu ρ R else G tw ρ R) : G (tIfS tt tu tw) ρ R := fun W0 M W σ D e m => h W0 M W σ e _ fun b W2 g q => by
  cases b with
  | true => exact q W0 M W2 σ D (e.go g) m
  | false => exact q W0 M W2 σ D (e.go g) m
/-- a test that never holds, always holds -/
theorem g_no (h : T ρ tt fun b => b = false) (q : G tw ρ R) : G (tIfS tt tu tw) ρ R := g_if (h.mono fun b z => by subst z; exact q)
theorem g_yes (h : T ρ tt fun b => b = true) (q : G tu ρ R) : G (tIfS tt tu tw) ρ R := g_if (h.mono fun b z => by subst z; exact q)
theorem g_par {tA : TA} (h : DA ρ tA [P1, P2]) (q : R.nx ((ρ.set i (.val P1)).set j (.val P2))) (hi' : Nat.blt i ρ.length = true := by rfl) (hj' : Nat.blt j ρ.length = true := by rfl) : G (tPar i j tA) ρ R := fun W0 M W σ D e m => h W0 M W σ e _ fun vs W2 g a => by
  obtain ⟨v, w, rfl, p1, p2⟩ := a.inv2
  have hi := Nat.le_of_ble_eq_true hi'
  have hj := Nat.le_of_ble_eq_true hj'
  have e1 := e.set (i := i) (s := .val P1) g p1 hi
  exact ⟨v, w, rfl, m.nx W2 _ _ (e1.set (s := .val P2) e1.id p2 (by rw [List.length_set]; exact hj)) q⟩
/-- what is own is settled -/
theorem En.calm (e : En W0 M W σ ρ) (h : ρ[i]? = some (.own Ps)) (hP : ∀ (R : Hp) (p : Addr) (vs : List V), R p = some (.lst vs) → Al R vs Ps → P.p R (.ref p)) : ∃ W', W'.h = W.h ∧ Ex W.r W'.r ∧ En W0 M W' σ (ρ.set i (.val P)) := by
  obtain ⟨u, h1, p, vs, rfl, h3, h4, h5, h6⟩ := e.ok i _ h
  have ex : Ex W.r (upd W.r p (.lst vs)) := Ex.new h4
  have hi : i < ρ.length := (List.getElem?_eq_some_iff.mp h).1
  have ne' : ∀ {k : Nat} {s : Sl} {u : Option V} {a : Addr}, i ≠ k → ρ[k]? = some s → σ[k]? = some u → ft W.r u s a → a ≠ p := fun {k s u a} c hk hu hf z => e.ne i k _ _ _ _ p c h hk h1 hu rfl (z ▸ hf)
  have dn : ∀ {k : Nat} {s : Sl} {u : Option V} {a : Addr}, ρ[k]? = some s → σ[k]? = some u → ft (upd W.r p (.lst vs)) u s a → ft W.r u s a := fun {k s u a} hs hu hf => by
    cases s with
    | un => exact hf
    | val P => exact hf
    | own Ps => exact hf
    | bag => exact hf
    | mat Pss =>
      obtain ⟨p1, ps, h1, h2, h3⟩ := hf
      obtain ⟨u', hu', p', ps', e1, k1, _⟩ := e.ok k _ hs
      rw [hu] at hu'
      cases hu'
      rw [h1] at e1
      cases e1
      have := ex _ _ k1
      rw [h2] at this
      have := map_ref_inj (HO.lst.inj (Option.some.inj this))
      subst this
      exact ⟨p1, ps, h1, k1, h3⟩
  refine ⟨⟨upd W.r p (.lst vs), W.h⟩, rfl, ex, ⟨fun a o (ha : upd W.r p (.lst vs) a = some o) => ?_, ⟨e.le.r.trans ex, e.le.h, fun q hq => ?_⟩, e.old, e.bags, by rw [List.length_set]; exact e.len, fun k s hk => ?_, fun k l s t u w a hkl hk hl ku lu o1 o2 => ?_⟩⟩
  · by_cases c : a = p
    · subst c
      rw [upd_same] at ha
      cases ha
      exact h3
    · rw [upd_ne c] at ha
      exact e.sub _ _ ha
  · have c : q ≠ p := fun z => by
      obtain ⟨⟨xs, hx, _⟩, _⟩ := hq
      rw [z, h5] at hx
      cases hx
    exact ⟨(e.le.w q hq).1, by show upd W.r p _ q = none; rw [upd_ne c]; exact (e.le.w q hq).2⟩
  · by_cases c : i = k
    · subst c
      rw [List.getElem?_set_self hi] at hk
      cases hk
      exact ⟨_, h1, _, rfl, hP _ _ _ upd_same (h6.mono ex)⟩
    · rw [List.getElem?_set_ne c] at hk
      obtain ⟨u, hu, q⟩ := e.ok k s hk
      refine ⟨u, hu, ?_⟩
      cases s with
      | un => trivial
      | val P =>
        obtain ⟨v, rfl, h⟩ := q
        exact ⟨v, rfl, P.mono ex h⟩
      | own Qs =>
        obtain ⟨p', vs', rfl, q3, q4, q5, q6⟩ := q
        have c' : p' ≠ p := ne' c hk hu rfl
        exact ⟨p', vs', rfl, q3, by show upd W.r p _ p' = none; rw [upd_ne c']; exact q4, q5, q6.mono ex⟩
      | mat Pss =>
        obtain ⟨p', ps, rfl, q3, q4, q5⟩ := q
        refine ⟨p', ps, rfl, ex _ _ q3, q4, q5.mono ex (fun _ _ _ z => z) fun x hx hr => ?_⟩
        have c' : x ≠ p := ne' c hk hu ⟨p', ps, rfl, q3, hx⟩
        show upd W.r p _ x = none
        rw [upd_ne c']
        exact hr
      | bag =>
        obtain ⟨p', rfl, q3, q4, q5⟩ := q
        have c' : p' ≠ p := ne' c hk hu rfl
        exact ⟨p', rfl, q3, by show upd W.r p _ p' = none; rw [upd_ne c']; exact q4, q5⟩
  · have c1 : i ≠ k := fun z => by subst z; rw [List.getElem?_set_self hi] at hk; cases hk; exact o1
    have c2 : i ≠ l := fun z => by subst z; rw [List.getElem?_set_self hi] at hl; cases hl; exact o2
    rw [List.getElem?_set_ne c1] at hk
    rw [List.getElem?_set_ne c2] at hl
    exact e.ne k l s t u w a hkl hk hl ku lu (dn hk ku o1) (dn hl lu o2)
theorem g_set (h : ρ[i]? = some (.own Ps)) (q : G t (ρ.set i (.val (lst K Ps))) R) : G t ρ R := fun W0 M W σ D e m => by
  obtain ⟨W', e1, _, e2⟩ := En.calm (P := lst K Ps) e h fun R p vs h1 h2 => ⟨p, vs, rfl, SqL.of h1, h2⟩
  rw [← e1]
  exact q W0 M W' σ D e2 m
/-- an own list is another list behind -/
theorem En.put (e : En W0 M W σ ρ) (h : ρ[i]? = some (.own Ps)) {p : Addr} (h1 : σ[i]? = some (some (.ref p))) {vs : List V} (a : Al W.r vs Qs) : En W0 M ⟨W.r, upd W.h p (.lst vs)⟩ σ (ρ.set i (.own Qs)) := by
  obtain ⟨u, h1', p', vs', e1, h3, h4, h5, h6⟩ := e.ok i _ h
  rw [h1] at h1'
  cases h1'
  cases e1
  have hi : i < ρ.length := (List.getElem?_eq_some_iff.mp h).1
  have np : ∀ q, M q → q ≠ p := fun q m z => by
    obtain ⟨_, _, x⟩ := e.old q m
    rw [z, h5] at x
    cases x
  refine ⟨fun a o ha => ?_, ⟨e.le.r, fun q o n hq => ?_, fun q hq => ?_⟩, e.old, fun q m => ?_, by rw [List.length_set]; exact e.len, fun k s hk => ?_, fun k l s t u w a hkl hk hl ku lu o1 o2 => ?_⟩
  · have c : a ≠ p := fun z => by subst z; rw [show (⟨W.r, upd W.h a (.lst vs)⟩ : Wd).r a = W.r a from rfl, h4] at ha; cases ha
    show upd W.h p _ a = _
    rw [upd_ne c]
    exact e.sub _ _ ha
  · have c : q ≠ p := fun z => by subst z; rw [h5] at hq; cases hq
    show upd W.h p _ q = _
    rw [upd_ne c]
    exact e.le.h _ _ n hq
  · obtain ⟨⟨xs, hx, hnt⟩, h2⟩ := e.le.w q hq
    by_cases c : q = p
    · exact ⟨⟨_, by show upd W.h p _ q = _; rw [c, upd_same], rfl⟩, h2⟩
    · exact ⟨⟨xs, by show upd W.h p _ q = _; rw [upd_ne c]; exact hx, hnt⟩, h2⟩
  · obtain ⟨x, y, hb⟩ := e.bags q m
    exact ⟨x, y, by show upd W.h p _ q = _; rw [upd_ne (np q m)]; exact hb⟩
  · by_cases c : i = k
    · subst c
      rw [List.getElem?_set_self hi] at hk
      cases hk
      exact ⟨_, h1, p, vs, rfl, upd_same, h4, h5, a⟩
    · rw [List.getElem?_set_ne c] at hk
      obtain ⟨u, hu, q⟩ := e.ok k s hk
      refine ⟨u, hu, ?_⟩
      cases s with
      | un => trivial
      | val P => exact q
      | own Rs =>
        obtain ⟨p', vs', rfl, q3, q4, q5, q6⟩ := q
        have c' : p' ≠ p := fun z => e.ne i k _ _ _ _ p c h hk h1 hu rfl (z ▸ (show ft W.r (some (V.ref p')) (.own Rs) p' from rfl))
        exact ⟨p', vs', rfl, by show upd W.h p _ p' = _; rw [upd_ne c']; exact q3, q4, q5, q6⟩
      | mat Pss =>
        obtain ⟨p', ps, rfl, q3, q4, q5⟩ := q
        refine ⟨p', ps, rfl, q3, q4, Rw.mono (W := W) (W2 := ⟨W.r, upd W.h p (.lst vs)⟩) (Ex.refl _) q5 (fun x hx o ho => ?_) fun _ _ z => z⟩
        have c' : x ≠ p := fun z => e.ne i k _ _ _ _ p c h hk h1 hu rfl (z ▸ (show ft W.r (some (V.ref p')) (.mat Pss) x from ⟨p', ps, rfl, q3, hx⟩))
        show upd W.h p _ x = _
        rw [upd_ne c']
        exact ho
      | bag =>
        obtain ⟨p', rfl, ⟨x, y, q3⟩, q4, q5⟩ := q
        have c' : p' ≠ p := fun z => e.ne i k _ _ _ _ p c h hk h1 hu rfl (z ▸ (show ft W.r (some (V.ref p')) .bag p' from rfl))
        exact ⟨p', rfl, ⟨x, y, by show upd W.h p _ p' = _; rw [upd_ne c']; exact q3⟩, q4, q5⟩
  · have up : ∀ {k : Nat} {s : Sl} {u : Option V} {a : Addr}, (ρ.set i (.own Qs))[k]? = some s → ft W.r u s a → ∃ s', ρ[k]? = some s' ∧ ft W.r u s' a := fun {k s u a} hk o => by
      by_cases c : i = k
      · subst c
        rw [List.getElem?_set_self hi] at hk
        cases hk
        exact ⟨_, h, o⟩
      · rw [List.getElem?_set_ne c] at hk
        exact ⟨s, hk, o⟩
    obtain ⟨s', a1, a2⟩ := up hk o1
    obtain ⟨t', b1, b2⟩ := up hl o2
    exact e.ne k l s' t' u w a hkl a1 b1 ku lu a2 b2
/-- x.append(e) of an own list -/
theorem g_app (h : ρ[i]? = some (.own Ps)) (hl : Ps.length < 100000) (he : E ρ te fun s => ∃ P, Set K s P ∧ R.nx (ρ.set i (.own (Ps ++ [P])))) : G (tDrop (tBM K "list" rAppend (tVar i) (tCons te tNil))) ρ R := fun W0 M W σ D e m => by
  obtain ⟨u, h1, p, vs, rfl, h3, h4, h5, h6⟩ := e.ok i _ h
  refine ⟨_, h1, .inl ⟨rfl, _, SqL.of h3⟩, ?_⟩
  refine he W0 M W σ e _ fun s v W2 g r q => ?_
  obtain ⟨P, hs, q⟩ := q
  obtain ⟨W3, e1, _, g3, p3⟩ := settle e g r hs
  have e3 := e.go g3
  obtain ⟨u, h1', p', vs', e2, k3, k4, k5, k6⟩ := e3.ok i _ h
  rw [h1] at h1'
  cases h1'
  cases e2
  refine ⟨p, vs', v, rfl, rfl, by rw [← e1]; exact k3, sz_lt (by rw [k6.length]; exact hl), ?_⟩
  rw [← e1]
  exact m.nx _ _ _ (e3.put h h1 (k6.app (Al.one p3))) q
theorem g_appD (h : ρ[i]? = some (.own Ps)) (he : D ρ te P) (hl : Ps.length < 100000) (q : R.nx (ρ.set i (.own (Ps ++ [P])))) : G (tDrop (tBM K "list" rAppend (tVar i) (tCons te tNil))) ρ R := g_app h hl (E.of he ⟨P, .val, q⟩)
/-- x[k] = e -/
theorem g_put {n : Nat} (h : ρ[i]? = some (.own Ps)) (he : D ρ te P) (hn : D ρ tb (sc (.int (n : Int)))) (hl : n < Ps.length) (q : R.nx (ρ.set i (.own (Ps.set n P)))) : G (tAsg te (gSub (tVar i) tb rSetL)) ρ R := fun W0 M W σ D e m => he W0 M W σ e _ fun v W2 g2 pv => by
  have e2 := e.go g2
  obtain ⟨u, h1, p, vs, rfl, h3, h4, h5, h6⟩ := e2.ok i _ h
  refine ⟨_, h1, hn W0 M W2 σ e2 _ fun y W3 g3 py => ?_⟩
  cases py
  have e3 := e2.go g3
  obtain ⟨u, h1', p', vs', e1, k3, k4, k5, k6⟩ := e3.ok i _ h
  rw [h1] at h1'
  cases h1'
  cases e1
  refine ⟨p, vs', n, n, rfl, rfl, k3, ixN_nat (by rw [k6.length]; exact hl), ?_⟩
  exact m.nx _ _ _ (e3.put h h1 (k6.set (P.mono g3.le.r pv) n)) q
/-! ### loops -/
theorem g_forR {n : Int} (h : DA ρ tA [sc (.int n)]) (hn : n < 2 ^ 60) (hm : -(2 ^ 60) < n) (I : Nat → List Sl → Prop) (h0 : I 0 ρ) (hj : ∀ i ρ', I i ρ' → j < ρ'.length) (hs : ∀ (i : Nat) ρ', (i : Int) < n → I i ρ' → G t (ρ'.set j (.val (sc (.int (i : Int))))) { R with nx := I (i + 1), ct := I (i + 1), bk := R.nx }) (hd : ∀ ρ', I n.toNat ρ' → R.nx ρ') :
    G (tFor (iRng1 tA) (gName j) t) ρ R := fun W0 M W σ D e m => h W0 M W σ e _ fun vs W2 g a => by
  obtain ⟨v, rfl, pv⟩ := a.inv1
  cases pv
  refine ⟨n, rfl, by omega, by omega, for_range (lo := 0) (n := n.toNat) (fun i σ' H' => ∃ W' ρ', W'.h = H' ∧ En W0 M W' σ' ρ' ∧ I i ρ') ⟨W2, ρ, rfl, e.go g, h0⟩ ?_ ?_⟩
  · rintro i σ' H' hi ⟨W', ρ', rfl, e', q⟩
    have z : (0 : Int) + (i : Int) = (i : Int) := Int.zero_add _
    show t _ (σ'.set j (some (.int (0 + (i : Int))))) W'.h
    rw [z]
    refine hs i ρ' (by omega) q W0 M W' _ _ (e'.set (s := .val (sc (.int (i : Int)))) e'.id rfl (hj i ρ' q)) ⟨fun W σ ρ e q => ⟨W, ρ, rfl, e, q⟩, m.nx, fun W σ ρ e q => ⟨W, ρ, rfl, e, q⟩, m.rt⟩
  · rintro σ' H' ⟨W', ρ', rfl, e', q⟩
    exact m.nx W' σ' ρ' e' (hd ρ' q)
/-- the base may be raised to what is settled by now -/
theorem En.up (e : En W0 M W σ ρ) : En ⟨W.r, W0.h⟩ M W σ ρ := ⟨e.sub, ⟨Ex.refl _, e.le.h, fun p hp => by
  obtain ⟨h1, h2⟩ := hp
  exact ⟨by
    obtain ⟨xs, hx, hnt⟩ := h1
    by_cases m : M p
    · obtain ⟨x, y, hb⟩ := e.bags p m
      exact ⟨_, hb, rfl⟩
    · exact ⟨xs, e.le.h p _ m hx, hnt⟩, h2⟩⟩, e.old, e.bags, e.len, e.ok, e.ne⟩
theorem Le.down {W' : Wd} (e : Le M W0 W) (l : Le M ⟨W.r, W0.h⟩ W') : Le M W0 W' := ⟨e.r.trans l.r, l.h, fun p hp => l.w p ⟨hp.1, (e.w p hp).2⟩⟩
theorem En.down {W' : Wd} {σ' : L2.St} {ρ' : List Sl} (e : Le M W0 W) (e' : En ⟨W.r, W0.h⟩ M W' σ' ρ') : En W0 M W' σ' ρ' := ⟨e'.sub, Le.down e e'.le, e'.old, e'.bags, e'.len, e'.ok, e'.ne⟩
theorem g_forL (h : E ρ tl fun s => ∃ Ps, Set K s (lst K Ps) ∧ ∃ I : Nat → List Sl → Prop, I 0 ρ ∧ (∀ i ρ', I i ρ' → j < ρ'.length) ∧
      (∀ (i : Nat) P ρ', Ps[i]? = some P → I i ρ' → G t (ρ'.set j (.val P)) { R with nx := I (i + 1), ct := I (i + 1), bk := R.nx }) ∧ ∀ ρ', I Ps.length ρ' → R.nx ρ') :
    G (tFor (iList K tl) (gName j) t) ρ R := fun W0 M W σ D e m => h W0 M W σ e _ fun s v W2 g r q => by
  obtain ⟨Ps, hs, I, h0, hj, hs', hd⟩ := q
  obtain ⟨W3, e1, _, g3, p, vs, rfl, hp, al⟩ := settle e g r hs
  have e3 := e.go g3
  rw [← e1]
  refine ⟨p, rfl, ⟨vs, ex_l g3.sub hp⟩, for_list (xs := vs) (fun i σ' H' => ∃ W' ρ', W'.h = H' ∧ En ⟨W3.r, W0.h⟩ M W' σ' ρ' ∧ I i ρ') ⟨W3, ρ, rfl, e3.up, h0⟩ ?_ ?_ ?_⟩
  · rintro i σ' H' _ ⟨W', ρ', rfl, e', q⟩
    exact ex_l (Ex.trans e'.le.r e'.sub) hp
  · rintro i x σ' H' hi ⟨W', ρ', rfl, e', q⟩
    obtain ⟨P, hP, px⟩ := al.getV hi
    refine hs' i P ρ' hP q ⟨W3.r, W0.h⟩ M W' _ _ (e'.set (s := .val P) e'.id (P.mono e'.le.r px) (hj i ρ' q)) ⟨fun W σ ρ e q => ⟨W, ρ, rfl, e, q⟩, fun W σ ρ e q => m.nx W σ ρ (En.down e3.le e) q, fun W σ ρ e q => ⟨W, ρ, rfl, e, q⟩, fun s v W sub le bg r q => m.rt s v W sub (Le.down e3.le le) bg ?_ q⟩
    cases s with
    | val P => exact r
    | own Ps => exact r
    | mat Pss => exact r
    | un => exact r
    | bag => exact r
  · rintro σ' H' ⟨W', ρ', rfl, e', q⟩
    rw [al.length] at q
    exact m.nx W' σ' ρ' (En.down e3.le e') (hd ρ' q)
theorem g_while (I : Nat → List Sl → Prop) (m0 : Nat) (h0 : I m0 ρ) (hs : ∀ k ρ', I k ρ' → T ρ' tt fun b => if b = true then G t ρ' { R with nx := fun ρ2 => ∃ k2, k2 < k ∧ I k2 ρ2, ct := fun ρ2 => ∃ k2, k2 < k ∧ I k2 ρ2, bk := R.nx } else R.nx ρ') : G (tWhile tt t) ρ R := fun W0 M W σ D e m => by
  refine ⟨fun k σ' H' => ∃ W' ρ', W'.h = H' ∧ En W0 M W' σ' ρ' ∧ I k ρ', ⟨m0, W, ρ, rfl, e, h0⟩, ?_⟩
  rintro k σ' H' ⟨W', ρ', rfl, e', q⟩
  refine hs k ρ' q W0 M W' σ' e' _ fun b W2 g z => ?_
  cases b with
  | true => exact ⟨fun σ' H' => ∃ W' ρ', W'.h = H' ∧ En W0 M W' σ' ρ' ∧ ∃ k2, k2 < k ∧ I k2 ρ', fun σ' H' ⟨W', ρ', a, b, k2, c, d⟩ => ⟨k2, c, W', ρ', a, b, d⟩, z W0 M W2 σ' _ (e'.go g) ⟨fun W σ ρ e q => ⟨W, ρ, rfl, e, q⟩, m.nx, fun W σ ρ e q => ⟨W, ρ, rfl, e, q⟩, m.rt⟩⟩
  | false => exact m.nx W2 σ' ρ' (e'.go g) z
end
/-! ### a def -/
section
variable {P : Program} {w : World} {K : PySem.W.Frag} {mg : Str → Option Value} {base : Heap} {f : Addr} {fd : FuncData} {pre : List Sl → (Sl → Prop) → Prop}
def pEnd (Ψ : Sl → Prop) : Post := { nx := fun _ => Ψ (.val (sc .non)), rt := Ψ }
theorem en_start {N : List Str} {W : Wd} {vs : List V} {ss : List Sl} (sub : Ex W.r W.h) (h : POks W vs ss) (ob : oneBag ss = true) (hl : ss.length ≤ N.length) : En W (BagOf vs ss) W (start N vs) (ss ++ List.replicate (N.length - ss.length) .un) := by
  have hm : ∀ p, BagOf vs ss p → Bg W.h p ∧ W.r p = none := fun p ⟨i, h1, h2⟩ => by
    obtain ⟨v, e1, q, e2, h3, h4⟩ := h.get h1
    rw [h2] at e1
    cases e1
    cases e2
    exact ⟨h3, h4⟩
  have hin : ∀ {i : Nat} {s : Sl}, (ss ++ List.replicate (N.length - ss.length) Sl.un)[i]? = some s → s = .un ∨ ss[i]? = some s := fun {i s} hi => by
    by_cases c : i < ss.length
    · rw [List.getElem?_append_left c] at hi
      exact .inr hi
    · rw [List.getElem?_append_right (by omega)] at hi
      exact .inl (List.eq_of_mem_replicate (List.mem_of_getElem? hi))
  have lv := h.length
  have st : ∀ {i : Nat} {v : V}, vs[i]? = some v → (start N vs)[i]? = some (some v) := fun {i v} hi => by
    have hlt : i < vs.length := (List.getElem?_eq_some_iff.mp hi).1
    unfold L2.start
    rw [List.getElem?_append_left (by rw [List.length_map]; exact hlt), List.getElem?_map, hi]
    rfl
  have ln : (start N vs).length = N.length := by
    unfold L2.start
    rw [List.length_append, List.length_map, List.length_replicate]
    omega
  refine ⟨sub, Le.refl W, fun p m => (hm p m).1, fun p m => (hm p m).1, ?_, fun i s hi => ?_, fun i j s t u w a hij h1 h2 k1 k2 o1 o2 => ?_⟩
  · rw [ln, List.length_append, List.length_replicate]
    omega
  · have hlt : i < N.length := by
      have := (List.getElem?_eq_some_iff.mp hi).1
      rw [List.length_append, List.length_replicate] at this
      omega
    rcases hin hi with rfl | h'
    · exact ⟨_, List.getElem?_eq_getElem (by rw [ln]; exact hlt), trivial⟩
    · obtain ⟨v, e1, q⟩ := h.get h'
      refine ⟨_, st e1, ?_⟩
      cases s with
      | un => trivial
      | val P => exact ⟨v, rfl, q⟩
      | own Ps => exact q.elim
      | mat Pss => exact q.elim
      | bag =>
        obtain ⟨p, rfl, h3, h4⟩ := q
        exact ⟨p, rfl, h3, h4, .inr ⟨i, h', e1⟩⟩
  · have bagOf : ∀ {k : Nat} {s : Sl}, (ss ++ List.replicate (N.length - ss.length) Sl.un)[k]? = some s → s.ow = true → ss[k]? = some .bag := fun {k s} hk o => by
      rcases hin hk with rfl | h'
      · cases o
      · obtain ⟨v, e1, q⟩ := h.get h'
        cases s with
        | un => cases o
        | val P => cases o
        | own Ps => exact q.elim
        | mat Pss => exact q.elim
        | bag => exact h'
    exact hij (oneBag_eq ob (bagOf h1 (ft_ow o1)) (bagOf h2 (ft_ow o2)))
theorem fnP {x qual : Str} {st : Stmt} {N ps : List Str} {k : Nat} (F : Fun K x qual st f fd) (S : FnScope N ps (defScope st)) (hN : ps.length ≤ N.length) (len : ∀ ss Ψ, pre ss Ψ → ss.length = ps.length)
    (hb : ∀ (cdv : Value) (A : Around) (outer : List Env) (s : Shared) (H : Hp) (Ex0 : XK), Room k (A.deeper (envOfC qual (defScope st) s.heap.objs.size f cdv)) → ∃ t, PSs (cxOf CX0 P w K mg base N qual (defScope st) f cdv A outer s H Ex0).nox (defBody st) t ∧
      ∀ ss Ψ, pre ss Ψ → G t (ss ++ List.replicate (N.length - ss.length) .un) (pEnd Ψ)) : FnOk P w K mg base CX0 (k + 1) f fd ps (spP pre) := by
  refine F.ok S (fun vs H Q E0 h => ?_) (fun cdv A outer s H vs Q E0 hr h => ?_)
  · obtain ⟨W, ss, Ψ, _, _, h1, _, h2, _⟩ := h
    rw [h1.length]
    exact len ss Ψ h2
  · obtain ⟨W, ss, Ψ, rfl, sub, h1, ob, h2, q⟩ := h
    obtain ⟨t, ht, g⟩ := hb cdv A outer s W.h E0 hr
    refine ⟨t, ht, g ss Ψ h2 W (BagOf vs ss) W _ _ (en_start sub h1 ob (by rw [len ss Ψ h2]; exact hN)) ⟨fun W2 σ ρ e z => q (.val (sc .non)) .non W2 e.sub e.le e.bags rfl z, fun _ _ _ _ z => z.elim, fun _ _ _ _ z => z.elim, fun s v W2 sub le bg r z => q s v W2 sub le bg r z⟩⟩
theorem fnPD {x qual : Str} {params : Arguments} {body : List Stmt} {scope : Scope} {dvs : List V} {N ps : List Str} {k : Nat} (F : FunD K x qual params body scope dvs [] f fd) (S : FnScope N ps scope) (hN : ps.length ≤ N.length) (len : ∀ ss Ψ, pre ss Ψ → ss.length = ps.length)
    (hb : ∀ (cdv : Value) (A : Around) (outer : List Env) (s : Shared) (H : Hp) (Ex0 : XK), Room k (A.deeper (envOfC qual scope s.heap.objs.size f cdv)) → ∃ t, PSs (cxOf CX0 P w K mg base N qual scope f cdv A outer s H Ex0).nox body t ∧
      ∀ ss Ψ, pre ss Ψ → G t (ss ++ List.replicate (N.length - ss.length) .un) (pEnd Ψ)) : FnOk P w K mg base CX0 (k + 1) f fd ps (spP pre) := by
  obtain ⟨oc, od, dV, kV, doc, pm, an, cdv, ct, osl, rfl, lk, hcd, _, _⟩ := F.ex
  refine fn_of lk hcd S (fun vs H Q E0 h => ?_) (fun A outer s H vs Q E0 hr h => ?_)
  · obtain ⟨W, ss, Ψ, _, _, h1, _, h2, _⟩ := h
    rw [h1.length]
    exact len ss Ψ h2
  · obtain ⟨W, ss, Ψ, rfl, sub, h1, ob, h2, q⟩ := h
    obtain ⟨t, ht, g⟩ := hb cdv A outer s W.h E0 hr
    refine ⟨t, ht.nox, g ss Ψ h2 W (BagOf vs ss) W _ _ (en_start sub h1 ob (by rw [len ss Ψ h2]; exact hN)) ⟨fun W2 σ ρ e z => q (.val (sc .non)) .non W2 e.sub e.le e.bags rfl z, fun _ _ _ _ z => z.elim, fun _ _ _ _ z => z.elim, fun s v W2 sub le bg r z => q s v W2 sub le bg r z⟩⟩
end
end WL

namespace WL
open PySem PySem.Spec PyProof.Rows L2 Evl NF
/-! ### what a loop or a comprehension walks -/
structure Grow (W W2 : Wd) : Prop where
  sub : Ex W2.r W2.h
  le : Le (fun _ => False) W W2
abbrev Bd := List (Nat × MP)
def setV : L2.St → Bd → List V → L2.St
  | σ, (j, _) :: L, v :: vs => setV (σ.set j (some v)) L vs
  | σ, _, _ => σ
def setS : List Sl → Bd → List Sl
  | ρ, (j, P) :: L => setS (ρ.set j (.val P)) L
  | ρ, [] => ρ
structure Turns (J : It) (W : Wd) (g : TG) (n : Nat) (B : Nat → Bd → Prop) : Prop where
  stop : ∀ (i : Nat) (W1 : Wd), Ex W.r W1.r → Ex W1.r W1.h → n ≤ i → J.stop i W1.h
  go : ∀ (i : Nat) (W1 : Wd), Ex W.r W1.r → Ex W1.r W1.h → i < n → J.go i W1.h
  yld : ∀ (i : Nat) (W1 : Wd) x H', Ex W.r W1.r → Ex W1.r W1.h → i < n → J.yld i W1.h x H' → ∀ (σ : L2.St) (Q : L2.St → Hp → Prop), (∀ L W2 vs, B i L → Grow W1 W2 → Al W2.r vs (L.map (·.2)) → Q (setV σ L vs) W2.h) → g x σ H' Q
def Wk (ρ : List Sl) (wi : TI) (g : TG) (Φ : Nat → (Nat → Bd → Prop) → Prop) : Prop := ∀ W0 M W σ, En W0 M W σ ρ → ∀ R : It → Hp → Prop, (∀ J W2 n B, Go σ ρ W W2 → Turns J W2 g n B → Φ n B → R J W2.h) → wi σ W.h R
def wipeS (ρ : List Sl) : List Nat → List Sl
  | [] => ρ
  | v :: vs => (wipeS ρ vs).set v .un
section
variable {K : PySem.W.Frag} {W0 W W1 W2 W3 : Wd} {M : Addr → Prop} {σ σ2 : L2.St} {ρ ρ2 : List Sl} {i j k n : Nat} {P P1 P2 P3 : MP} {Ps Qs : List MP} {ta tb tc te tl : TE} {tt t1 t2 : TT} {Ψ : Sl → Prop} {v w u : V} {R : Post} {t tu tw tz : TS} {s : Sl} {tA : TA} {wi : TI} {g : TG} {L : Bd} {Φ : Nat → (Nat → Bd → Prop) → Prop} {vs : List Nat}
theorem Grow.refl (h : Ex W.r W.h) : Grow W W := ⟨h, Le.refl W⟩
theorem Grow.go (e : En W0 M W σ ρ) (g : Grow W W2) : Go σ ρ W W2 := ⟨g.sub, g.le.more fun _ z => z.elim, fun p b => by
  obtain ⟨x, y, h⟩ := (e.bag b).1
  exact ⟨x, y, g.le.h _ _ (fun z => z) h⟩⟩
theorem setS_len : ∀ (L : Bd) (ρ : List Sl), (setS ρ L).length = ρ.length
  | [], _ => rfl
  | (j, P) :: L, ρ => by rw [setS, setS_len L, List.length_set]
theorem En.sets : ∀ {L : Bd} {σ : L2.St} {ρ : List Sl} {vs : List V}, En W0 M W σ ρ → (∀ x ∈ L, x.1 < ρ.length) → Al W.r vs (L.map (·.2)) → En W0 M W (setV σ L vs) (setS ρ L)
  | [], _, _, _, e, _, .nil => e
  | (j, P) :: L, σ, ρ, _, e, h, .cons (v := v) (vs := vs) p t => by
    have e1 : En W0 M W (σ.set j (some v)) (ρ.set j (.val P)) := e.set (s := .val P) e.id p (h (j, P) (List.mem_cons_self ..))
    exact En.sets (L := L) e1 (fun x hx => by rw [List.length_set]; exact h x (List.mem_cons_of_mem _ hx)) t
theorem bags_set (h : s ≠ .bag) {u : Option V} {p : Addr} (b : Bags (σ.set i u) (ρ.set i s) p) : Bags σ ρ p := by
  obtain ⟨k, h1, h2⟩ := b
  by_cases c : i = k
  · subst c
    rw [List.getElem?_set] at h1
    simp only [if_true] at h1
    split at h1
    · exact absurd (Option.some.inj h1) h
    · cases h1
  · rw [List.getElem?_set_ne c] at h1 h2
    exact ⟨k, h1, h2⟩
theorem bags_sets : ∀ {L : Bd} {σ : L2.St} {ρ : List Sl} {vs : List V} {p : Addr}, vs.length = L.length → Bags (setV σ L vs) (setS ρ L) p → Bags σ ρ p
  | [], _, _, [], _, _, b => b
  | [], _, _, _ :: _, _, h, _ => by cases h
  | _ :: _, _, _, [], _, h, _ => by cases h
  | (j, P) :: L, σ, ρ, v :: vs, p, h, b => bags_set (fun z => by cases z) (bags_sets (L := L) (vs := vs) (by simpa using h) b)
theorem En.wipe1 (e : En W0 M W σ ρ) : En W0 M W (σ.set i none) (ρ.set i .un) := by
  refine ⟨e.sub, e.le, e.old, e.bags, by rw [List.length_set, List.length_set]; exact e.len, fun k s hk => ?_, fun k l s t u w a n h1 h2 k1 k2 o1 o2 => ?_⟩
  · by_cases c : i = k
    · subst c
      have hl : i < (ρ.set i Sl.un).length := (List.getElem?_eq_some_iff.mp hk).1
      rw [List.length_set] at hl
      rw [List.getElem?_set_self hl] at hk
      cases hk
      exact ⟨none, List.getElem?_set_self (by rw [e.len]; exact hl), trivial⟩
    · rw [List.getElem?_set_ne c] at hk ⊢
      exact e.ok k s hk
  · have ne : ∀ {k : Nat} {s : Sl} {u : Option V} {a : Addr}, (ρ.set i Sl.un)[k]? = some s → ft W.r u s a → i ≠ k := fun {k s u a} hk o c => by
      subst c
      have hl : i < (ρ.set i Sl.un).length := (List.getElem?_eq_some_iff.mp hk).1
      rw [List.length_set] at hl
      rw [List.getElem?_set_self hl] at hk
      cases hk
      exact o
    have a' := ne h1 o1
    have b' := ne h2 o2
    rw [List.getElem?_set_ne a'] at h1 k1
    rw [List.getElem?_set_ne b'] at h2 k2
    exact e.ne k l s t u w a n h1 h2 k1 k2 o1 o2
theorem En.wipe : ∀ (vs : List Nat), En W0 M W σ ρ → En W0 M W (L2.wipe σ vs) (wipeS ρ vs)
  | [], e => e
  | v :: vs, e => (En.wipe vs e).wipe1
theorem bags_wipe : ∀ {vs : List Nat} {p : Addr}, Bags (L2.wipe σ vs) (wipeS ρ vs) p → Bags σ ρ p
  | [], _, b => b
  | v :: vs, _, b => bags_wipe (vs := vs) (bags_set (fun z => by cases z) b)
theorem wipeS_len : ∀ (vs : List Nat) (ρ : List Sl), (wipeS ρ vs).length = ρ.length
  | [], _ => rfl
  | v :: vs, ρ => by rw [wipeS, List.length_set, wipeS_len vs]
theorem wipe_get : ∀ {vs : List Nat} {σ : L2.St} {i : Nat}, (L2.wipe σ vs)[i]? = if i ∈ vs then (if i < σ.length then some none else none) else σ[i]?
  | [], σ, i => by simp [L2.wipe]
  | v :: vs, σ, i => by
    show ((L2.wipe σ vs).set v none)[i]? = _
    by_cases c : v = i
    · subst c
      rw [List.getElem?_set]
      simp only [if_true, L2.wipe_length, List.mem_cons_self]
    · rw [List.getElem?_set_ne c, wipe_get]
      have : i ∈ v :: vs ↔ i ∈ vs := by simp [Ne.symm c]
      simp only [this]
theorem setV_len : ∀ (L : Bd) (σ : L2.St) (vs : List V), (setV σ L vs).length = σ.length
  | [], _, _ => by cases ‹List V› <;> rfl
  | _ :: _, _, [] => rfl
  | (j, P) :: L, σ, v :: vs => by rw [setV, setV_len L, List.length_set]
theorem setV_get : ∀ {L : Bd} {σ : L2.St} {us : List V} {i : Nat}, (∀ x ∈ L, x.1 ≠ i) → (setV σ L us)[i]? = σ[i]?
  | [], σ, us, i, _ => by cases us <;> rfl
  | _ :: _, _, [], _, _ => rfl
  | (j, P) :: L, σ, v :: vs, i, h => by
    rw [setV, setV_get (fun x hx => h x (List.mem_cons_of_mem _ hx)), List.getElem?_set_ne (h (j, P) (List.mem_cons_self ..))]
theorem wipe_sets {us : List V} (h : ∀ x ∈ L, x.1 ∈ vs) : L2.wipe (setV (L2.wipe σ vs) L us) vs = L2.wipe σ vs := by
  apply List.ext_getElem?
  intro i
  rw [wipe_get, setV_len, L2.wipe_length]
  by_cases c : i ∈ vs
  · rw [if_pos c, wipe_get, if_pos c]
  · rw [if_neg c, setV_get (i := i) fun x hx z => c (by rw [← z]; exact h x hx)]
theorem Go.sub_ (e : En W0 M W σ ρ) (h : ∀ p, Bags σ2 ρ2 p → Bags σ ρ p) (g : Go σ2 ρ2 W W2) : Go σ ρ W W2 := ⟨g.sub, g.le.more h, fun p b => by
  by_cases c : Bags σ2 ρ2 p
  · exact g.bg p c
  · obtain ⟨x, y, hb⟩ := (e.bag b).1
    exact ⟨x, y, g.le.h _ _ c hb⟩⟩
def fitS (L : Bd) (n : Nat) : Bool := L.all fun x => Nat.blt x.1 n
def fitC (L : Bd) (n : Nat) (vs : List Nat) : Bool := L.all fun x => Nat.blt x.1 n && vs.any fun v => Nat.beq x.1 v
theorem fitS_ok (h : fitS L n = true) : ∀ x ∈ L, x.1 < n := fun x hx => Nat.le_of_ble_eq_true (List.all_eq_true.mp h x hx)
theorem fitC_ok (h : fitC L n vs = true) : ∀ x ∈ L, x.1 < n ∧ x.1 ∈ vs := fun x hx => by
  have := List.all_eq_true.mp h x hx
  rw [Bool.and_eq_true] at this
  obtain ⟨a, b⟩ := this
  obtain ⟨v, hv, e⟩ := List.any_eq_true.mp b
  refine ⟨Nat.le_of_ble_eq_true a, ?_⟩
  rw [Nat.eq_of_beq_eq_true e]
  exact hv
/-! ### for -/
theorem g_for (h : Wk ρ wi g fun n B => ∃ I : Nat → List Sl → Prop, I 0 ρ ∧ (∀ i L ρ', i < n → B i L → I i ρ' → fitS L ρ'.length = true ∧ G t (setS ρ' L) { R with nx := I (i + 1), ct := I (i + 1), bk := R.nx }) ∧ ∀ ρ', I n ρ' → R.nx ρ') : G (tFor wi g t) ρ R := fun W0 M W σ D e m => h W0 M W σ e _ fun J W3 n B g3 T q => by
  obtain ⟨I, h0, hs, hd⟩ := q
  have e3 := e.go g3
  refine ⟨fun i m σ' H' => m = n - i ∧ i ≤ n ∧ ∃ W' ρ', W'.h = H' ∧ En ⟨W3.r, W0.h⟩ M W' σ' ρ' ∧ I i ρ', ⟨_, rfl, Nat.zero_le _, W3, ρ, rfl, e3.up, h0⟩, ?_⟩
  rintro i m' σ' H' ⟨rfl, hi, W', ρ', rfl, e', q⟩
  by_cases hlt : i < n
  · refine .inr ⟨T.go i W' e'.le.r e'.sub hlt, fun σ' H' => ∃ W' ρ', W'.h = H' ∧ En ⟨W3.r, W0.h⟩ M W' σ' ρ' ∧ I (i + 1) ρ', fun σ2 H2 z => ⟨n - (i + 1), by omega, rfl, hlt, z⟩, fun x H2 y => ?_⟩
    refine T.yld i W' x H2 e'.le.r e'.sub hlt y σ' _ fun L W4 us hB gr al => ?_
    obtain ⟨hL, body⟩ := hs i L ρ' hlt hB q
    have e4 := (e'.go (gr.go e')).sets (fitS_ok hL) al
    refine body ⟨W3.r, W0.h⟩ M W4 _ _ e4 ⟨fun W σ ρ e q => ⟨W, ρ, rfl, e, q⟩, fun W σ ρ e q => m.nx W σ ρ (En.down e3.le e) q, fun W σ ρ e q => ⟨W, ρ, rfl, e, q⟩, fun s v W sub le bg r q => m.rt s v W sub (Le.down e3.le le) bg ?_ q⟩
    cases s with
    | val P => exact r
    | own Ps => exact r
    | mat Pss => exact r
    | un => exact r
    | bag => exact r
  · have ei : i = n := by omega
    subst ei
    exact .inl ⟨T.stop i W' e'.le.r e'.sub (Nat.le_refl _), m.nx W' σ' ρ' (En.down e3.le e') (hd ρ' q)⟩
/-! ### list comprehensions -/
theorem e_lc (h : Wk ρ wi g fun n B => n ≤ 50000 ∧ ∃ I : Nat → List MP → Prop, I 0 [] ∧ (∀ i L acc, i < n → B i L → I i acc → fitC L ρ.length vs = true ∧ acc.length ≤ i ∧ T (setS (wipeS ρ vs) L) tt fun b => if b = true then E (setS (wipeS ρ vs) L) te (fun s => ∃ P, Set K s P ∧ I (i + 1) (acc ++ [P])) else I (i + 1) acc) ∧ ∀ acc, I n acc → Ψ (.own acc)) :
    E ρ (tLc wi g tt te vs) Ψ := fun W0 M W σ e Q k => h W0 M W σ e _ fun J W2 n B g2 T q => by
  obtain ⟨hn, I, h0, hs, hd⟩ := q
  intro Dl hD
  have e2 := e.go g2
  have nb : ∀ {p}, Bags σ ρ p → p ≠ Dl := fun b z => by
    obtain ⟨_, _, x⟩ := (e2.bag b).1
    rw [z, hD] at x
    cases x
  have rD : W2.r Dl = none := by
    cases c : W2.r Dl with
    | none => rfl
    | some o => rw [g2.sub _ _ c] at hD; cases hD
  refine ⟨fun i m H' => m = n - i ∧ i ≤ n ∧ ∃ W' av ap, W'.h = H' ∧ Go σ ρ W2 W' ∧ H' Dl = some (.lst av) ∧ W'.r Dl = none ∧ Al W'.r av ap ∧ I i ap, ⟨_, rfl, Nat.zero_le _, ?_⟩, ?_⟩
  · obtain ⟨W3, e1, e4, g3, _⟩ := e_new (Ps := []) e2 e2.id hD .nil
    exact ⟨W3, [], [], e1, g3, upd_same, by rw [e4]; exact rD, .nil, h0⟩
  · rintro i m' H' ⟨rfl, hi, W', av, ap, rfl, g', hDl, rD', al, q⟩
    have e' := e2.go g'
    by_cases hlt : i < n
    · refine .inr ⟨T.go i W' g'.le.r g'.sub hlt, fun H' => ∃ W' av ap, W'.h = H' ∧ Go σ ρ W2 W' ∧ H' Dl = some (.lst av) ∧ W'.r Dl = none ∧ Al W'.r av ap ∧ I (i + 1) ap, fun H2 z => ⟨n - (i + 1), by omega, rfl, hlt, z⟩, fun x H2 y => ?_⟩
      refine T.yld i W' x H2 g'.le.r g'.sub hlt y (L2.wipe σ vs) _ fun L W4 us hB gr alu => ?_
      obtain ⟨hL', hlen, body⟩ := hs i L ap hlt hB q
      have hL := fitC_ok hL'
      refine ⟨wipe_sets fun x hx => (hL x hx).2, ?_⟩
      have g4 : Go σ ρ W' W4 := gr.go e'
      have e4 : En W0 M W4 (setV (L2.wipe σ vs) L us) (setS (wipeS ρ vs) L) := ((e'.go g4).wipe vs).sets (fun x hx => by rw [wipeS_len]; exact (hL x hx).1) alu
      have sb : ∀ p, Bags (setV (L2.wipe σ vs) L us) (setS (wipeS ρ vs) L) p → Bags σ ρ p := fun p b => bags_wipe (bags_sets (by rw [alu.length, List.length_map]) b)
      refine body W0 M W4 _ e4 _ fun b W5 g5 z => ?_
      have G5 : Go σ ρ W' W5 := g4.trans (Go.sub_ (e'.go g4) sb g5)
      have e5 := e'.go G5
      have dl : W5.h Dl = some (.lst av) := G5.le.h _ _ (fun b => nb b rfl) hDl
      have rd : W5.r Dl = none := (G5.le.w Dl ⟨⟨_, hDl, rfl⟩, rD'⟩).2
      cases b with
      | false => exact ⟨W5, av, ap, rfl, g'.trans G5, dl, rd, al.mono G5.le.r, z⟩
      | true =>
        refine z W0 M W5 _ (e4.go g5) _ fun s v W6 g6 r q6 => ?_
        obtain ⟨P, hS, hI⟩ := q6
        obtain ⟨W7, e1, _, g7, p7⟩ := settle (e4.go g5) g6 r hS
        have G7 : Go σ ρ W5 W7 := Go.sub_ e5 sb g7
        have dl7 : W7.h Dl = some (.lst av) := G7.le.h _ _ (fun b => nb b rfl) dl
        have rd7 : W7.r Dl = none := (G7.le.w Dl ⟨⟨_, dl, rfl⟩, rd⟩).2
        have al7 := (al.mono G5.le.r).mono G7.le.r
        have GG := (g'.trans G5).trans G7
        refine ⟨av, by rw [← e1]; exact dl7, sz_lt (by rw [al.length]; omega), ?_⟩
        rw [← e1]
        refine ⟨⟨W7.r, upd W7.h Dl (.lst (av ++ [v]))⟩, av ++ [v], ap ++ [P], rfl, ⟨fun a o ha => ?_, ⟨GG.le.r, fun p o n hp => ?_, fun p hp => ?_⟩, fun p b => ?_⟩, upd_same, rd7, al7.app (Al.one p7), hI⟩
        · have c : a ≠ Dl := fun z => by
            have ha' : W7.r a = some o := ha
            rw [z, rd7] at ha'
            cases ha'
          show upd W7.h Dl _ a = _
          rw [upd_ne c]
          exact GG.sub _ _ ha
        · have c : p ≠ Dl := fun z => by rw [z, hD] at hp; cases hp
          show upd W7.h Dl _ p = _
          rw [upd_ne c]
          exact GG.le.h _ _ n hp
        · have c : p ≠ Dl := fun z => by
            obtain ⟨⟨xs, hx, _⟩, _⟩ := hp
            rw [z, hD] at hx
            cases hx
          obtain ⟨⟨xs, hx, hnt⟩, hr⟩ := GG.le.w p hp
          exact ⟨⟨xs, by show upd W7.h Dl _ p = _; rw [upd_ne c]; exact hx, hnt⟩, hr⟩
        · obtain ⟨x, y, hb⟩ := GG.bg p b
          exact ⟨x, y, by show upd W7.h Dl _ p = _; rw [upd_ne (nb b)]; exact hb⟩
    · have ei : i = n := by omega
      subst ei
      refine .inl ⟨T.stop i W' g'.le.r g'.sub (Nat.le_refl _), k (.own ap) _ W' (g2.trans g') (ROk.back e g2 ⟨Dl, av, rfl, hDl, rD', hD, al⟩) (hd ap q)⟩
/-! ### what may be walked -/
theorem wk_range {m : Int} (h : DA ρ tA [sc (.int m)]) (hn : m < 2 ^ 60) (hm : -(2 ^ 60) < m) (q : Φ m.toNat fun i L => L = [(j, sc (.int (i : Int)))]) : Wk ρ (iRng1 tA) (gName j) Φ := fun W0 M W σ e R k => h W0 M W σ e _ fun vs W2 g a => by
  obtain ⟨v, rfl, pv⟩ := a.inv1
  cases pv
  refine ⟨m, rfl, by omega, by omega, k _ W2 _ _ g ⟨fun i W1 _ _ h => h, fun i W1 _ _ h => h, fun i W1 x H' _ sub hi y σ' Q z => ?_⟩ q⟩
  obtain ⟨rfl, rfl⟩ := y
  have := z [(j, sc (.int (i : Int)))] W1 [.int (i : Int)] rfl (Grow.refl sub) (Al.one rfl)
  have z0 : (0 : Int) + (i : Int) = (i : Int) := Int.zero_add _
  show Q (σ'.set j (some (.int (0 + (i : Int))))) W1.h
  rw [z0]
  exact this
theorem wk_list (h : E ρ tl fun s => ∃ Ps, Set K s (lst K Ps) ∧ Φ Ps.length fun i L => ∃ P, Ps[i]? = some P ∧ L = [(j, P)]) : Wk ρ (iList K tl) (gName j) Φ := fun W0 M W σ e R k => h W0 M W σ e _ fun s v W2 g r q => by
  obtain ⟨Ps, hs, q⟩ := q
  obtain ⟨W3, e1, _, g3, p, vs, rfl, hp, al⟩ := settle e g r hs
  rw [← e1]
  have sq : ∀ {W1 : Wd}, Ex W3.r W1.r → Ex W1.r W1.h → SqL K W1.h p vs := fun a b => ex_l (a.trans b) hp
  refine ⟨p, rfl, ⟨vs, ex_l g3.sub hp⟩, k _ W3 _ _ g3 ⟨fun i W1 a b h => ⟨vs, sq a b, by rw [al.length]; exact h⟩, fun i W1 a b h => ⟨vs, _, sq a b, List.getElem?_eq_getElem (by rw [al.length]; exact h)⟩, fun i W1 x H' a b hi y σ' Q z => ?_⟩ q⟩
  obtain ⟨rfl, y⟩ := y
  obtain ⟨P, hP, px⟩ := al.getV (y vs (sq a b))
  exact z [(j, P)] W1 [x] ⟨P, hP, rfl⟩ (Grow.refl b) (Al.one (P.mono a px))
theorem wk_listD (h : D ρ tl (lst K Ps)) (q : Φ Ps.length fun i L => ∃ P, Ps[i]? = some P ∧ L = [(j, P)]) : Wk ρ (iList K tl) (gName j) Φ := wk_list (E.of h ⟨Ps, .val, q⟩)
/-- a new pair in the heap -/
theorem grow_tup {p : Addr} {us : List V} (sub : Ex W.r W.h) (hp : W.h p = none) : Grow W ⟨upd W.r p (.tup us), upd W.h p (.tup us)⟩ := by
  have rp : W.r p = none := by
    cases c : W.r p with
    | none => rfl
    | some o => rw [sub _ _ c] at hp; cases hp
  refine ⟨fun q o hq => ?_, ⟨Ex.new rp, fun q o _ hq => Ex.new hp _ _ hq, fun q hq => ?_⟩⟩
  · by_cases c : q = p
    · subst c
      have hq' : upd W.r q (.tup us) q = some o := hq
      rw [upd_same] at hq'
      cases hq'
      exact upd_same
    · have hq' : upd W.r p (.tup us) q = some o := hq
      rw [upd_ne c] at hq'
      show upd W.h p _ q = _
      rw [upd_ne c]
      exact sub _ _ hq'
  · obtain ⟨⟨xs, h1, hnt⟩, h2⟩ := hq
    have c : q ≠ p := fun z => by rw [z, hp] at h1; cases h1
    exact ⟨⟨xs, by show upd W.h p _ q = _; rw [upd_ne c]; exact h1, hnt⟩, by show upd W.r p _ q = _; rw [upd_ne c]; exact h2⟩
theorem wk_enum (h : D ρ tl (lst K Ps)) (q : Φ Ps.length fun i L => ∃ P, Ps[i]? = some P ∧ L = [(j, sc (.int (i : Int))), (k, P)]) : Wk ρ (iEnum K (tCons tl tNil)) (gTup K 2 (gCons (gName j) (gCons (gName k) gNil))) Φ := fun W0 M W σ e R kk => h W0 M W σ e _ fun v W2 g pv => by
  obtain ⟨p, vs, rfl, hp, al⟩ := pv
  have sq : ∀ {W1 : Wd}, Ex W2.r W1.r → Ex W1.r W1.h → SqL K W1.h p vs := fun a b => ex_l (a.trans b) hp
  refine ⟨p, vs, rfl, ex_l g.sub hp, kk _ W2 _ _ g ⟨fun i W1 a b h => ⟨vs, sq a b, by rw [al.length]; exact h⟩, fun i W1 a b h => ⟨vs, _, sq a b, List.getElem?_eq_getElem (by rw [al.length]; exact h)⟩, fun i W1 x H' a b hi y σ' Q z => ?_⟩ q⟩
  obtain ⟨T, y, rfl, nT, rfl, fy⟩ := y
  obtain ⟨P, hP, px⟩ := al.getV (fy vs (sq a b))
  have gr := grow_tup (us := [.int (i : Int), y]) b nT
  exact ⟨T, _, rfl, SqT.of upd_same, rfl, _, _, rfl, _, _, rfl, rfl, z [(j, sc (.int (i : Int))), (k, P)] _ [.int (i : Int), y] ⟨P, hP, rfl⟩ gr (.cons rfl (Al.one (P.mono gr.le.r (P.mono a px))))⟩
theorem wk_zip {tl2 : TE} (h : D ρ tl (lst K Ps)) (h2 : D ρ tl2 (lst K Qs)) (hl : Ps.length = Qs.length) (q : Φ Ps.length fun i L => ∃ P Q, Ps[i]? = some P ∧ Qs[i]? = some Q ∧ L = [(j, P), (k, Q)]) : Wk ρ (iZip K (tCons tl (tCons tl2 tNil))) (gTup K 2 (gCons (gName j) (gCons (gName k) gNil))) Φ := fun W0 M W σ e R kk => h W0 M W σ e _ fun v W2 g pv => h2 W0 M W2 σ (e.go g) _ fun v3 W3 g3 pv3 => by
  obtain ⟨p, vs, rfl, hp, al⟩ := pv
  obtain ⟨p3, vs3, rfl, hp3, al3⟩ := pv3
  have al := al.mono g3.le.r
  have hp := ex_l g3.le.r hp
  have sq : ∀ {W1 : Wd}, Ex W3.r W1.r → Ex W1.r W1.h → SqL K W1.h p vs := fun a b => ex_l (a.trans b) hp
  have sq3 : ∀ {W1 : Wd}, Ex W3.r W1.r → Ex W1.r W1.h → SqL K W1.h p3 vs3 := fun a b => ex_l (a.trans b) hp3
  refine ⟨p, p3, vs, vs3, rfl, ex_l g3.sub hp, ex_l g3.sub hp3, kk _ W3 _ _ (g.trans g3) ⟨fun i W1 a b h => ⟨vs, vs3, sq a b, sq3 a b, .inl (by rw [al.length]; exact h)⟩, fun i W1 a b h => ⟨vs, vs3, _, _, sq a b, sq3 a b, List.getElem?_eq_getElem (by rw [al.length]; exact h), List.getElem?_eq_getElem (by rw [al3.length, ← hl]; exact h)⟩, fun i W1 x H' a b hi y σ' Q z => ?_⟩ q⟩
  obtain ⟨T, y, y3, rfl, nT, rfl, fy, fy3⟩ := y
  obtain ⟨P, hP, px⟩ := al.getV (fy vs (sq a b))
  obtain ⟨P3, hP3, px3⟩ := al3.getV (fy3 vs3 (sq3 a b))
  have gr := grow_tup (us := [y, y3]) b nT
  exact ⟨T, _, rfl, SqT.of upd_same, rfl, _, _, rfl, _, _, rfl, rfl, z [(j, P), (k, P3)] _ [y, y3] ⟨P, P3, hP, hP3, rfl⟩ gr (.cons (P.mono gr.le.r (P.mono a px)) (Al.one (P3.mono gr.le.r (P3.mono a px3))))⟩
end
end WL

namespace NF
open PySem PySem.Spec PyProof.Rows L2 Evl
theorem call_listK {X : Cx} {K : PySem.W.Frag} (h : X.K = K) : CallR X (.type "list") (rListS K) := h ▸ call_list_of
theorem ix_listK {X : Cx} {K : PySem.W.Frag} (h : X.K = K) : IxR X (rIxL K) := h ▸ ix_list
theorem ix_tupK {X : Cx} {K : PySem.W.Frag} (h : X.K = K) : IxR X (rIxT K) := h ▸ ix_tup
/-! ### a op b op c op d -/
def tChain3 (r1 r2 r3 : R2) (ta tb tc td : TE) : TE := fun σ H Q => ta σ H fun x H1 => tb σ H1 fun y H2 => r1 x y H2 fun z H3 => ∃ k, z = .bl k ∧ (if k = true then tc σ H3 fun u H4 => r2 y u H4 fun z2 H5 => ∃ k2, z2 = .bl k2 ∧ (if k2 = true then td σ H5 fun v H6 => r3 u v H6 Q else Q (.bl false) H5) else Q (.bl false) H3)
theorem pe_chain3 {X : Cx} {a b c d : Expr} {pos : Pos} {ta tb tc td : TE} {o1 o2 o3 : CmpOp} {r1 r2 r3 : R2} (h1 : OpR X (compareOp o1) r1) (h2 : OpR X (compareOp o2) r2) (h3 : OpR X (compareOp o3) r3) (ha : PE X a ta) (hb : PE X b tb) (hc : PE X c tc) (hd : PE X d td)
    (hm : lastMarks [o1, o2, o3] [b, c, d] = false := by with_unfolding_all rfl) : PE X (.Compare a [o1, o2, o3] [b, c, d] pos) (tChain3 r1 r2 r3 ta tb tc td) := by
  constructor
  intro pins s σ H Q I h
  refine Compare_chain (thn (ha.run pins s σ H _ I h) ?_) hm
  rintro va s1 ⟨x, H1, I1, q1, p1⟩
  refine chain_link (thn (hb.run pins s1 σ H1 _ I1 p1) ?_)
  rintro vb s2 ⟨y, H2, I2, q2, p2⟩
  refine thn (h1 pins s2 σ H2 x y va vb _ I2 q1 q2 p2) ?_
  rintro vz s3 ⟨z, H3, I3, q3, k, rfl, p3⟩
  cases q3
  refine wpAny_truthy_bool ?_
  cases k with
  | false => exact ⟨.bl false, H3, I3, rfl, p3⟩
  | true =>
    refine chain_link (thn (hc.run pins s3 σ H3 _ I3 p3) ?_)
    rintro vc s4 ⟨u, H4, I4, q4, p4⟩
    refine thn (h2 pins s4 σ H4 y u vb vc _ I4 q2 q4 p4) ?_
    rintro vy s5 ⟨z2, H5, I5, q5, k2, rfl, p5⟩
    cases q5
    refine wpAny_truthy_bool ?_
    cases k2 with
    | false => exact ⟨.bl false, H5, I5, rfl, p5⟩
    | true => exact chain_last (thn (hd.run pins s5 σ H5 _ I5 p5) fun vd s6 ⟨v, H6, I6, q6, p6⟩ => h3 pins s6 σ H6 u v vc vd Q I6 q4 q6 p6)
section
variable {K : PySem.W.Frag} {H H1 H2 : Hp} {σ : L2.St} {ta tb tc td te tl : TE} {t : TT} {v w x y z u : V} {r1 r2 r3 : R2} {k k2 k3 : Bool}
theorem ev_chain (ha : Ev ta σ H x) (hb : Ev tb σ H y) (hr : RV r1 x y H (.bl k)) (hc : k = true → Ev tc σ H z) (hr2 : k = true → RV r2 y z H (.bl k2)) : Ev (tChain r1 r2 ta tb tc) σ H (.bl (k && k2)) := fun H1 e Q q =>
  ha H1 e _ fun H2 e2 => hb H2 (e.trans e2) _ fun H3 e3 => hr H3 ((e.trans e2).trans e3) _ fun H4 e4 => ⟨k, rfl, by
    have E4 := ((e.trans e2).trans e3).trans e4
    cases k with
    | false => exact q H4 ((e2.trans e3).trans e4)
    | true => exact hc rfl H4 E4 _ fun H5 e5 => hr2 rfl H5 (E4.trans e5) Q fun H6 e6 => q H6 ((((e2.trans e3).trans e4).trans e5).trans e6)⟩
theorem ev_chain3 (ha : Ev ta σ H x) (hb : Ev tb σ H y) (hr : RV r1 x y H (.bl true)) (hc : Ev tc σ H z) (hr2 : RV r2 y z H (.bl true)) (hd : Ev td σ H u) (hr3 : RV r3 z u H (.bl true)) : Ev (tChain3 r1 r2 r3 ta tb tc td) σ H (.bl true) := fun H1 e Q q =>
  ha H1 e _ fun H2 e2 => hb H2 (e.trans e2) _ fun H3 e3 => hr H3 ((e.trans e2).trans e3) _ fun H4 e4 => ⟨true, rfl, by
    have E4 := ((e.trans e2).trans e3).trans e4
    have F4 := (e2.trans e3).trans e4
    exact hc H4 E4 _ fun H5 e5 => hr2 H5 (E4.trans e5) _ fun H6 e6 => ⟨true, rfl, hd H6 ((E4.trans e5).trans e6) _ fun H7 e7 => hr3 H7 (((E4.trans e5).trans e6).trans e7) Q fun H8 e8 => q H8 ((((F4.trans e5).trans e6).trans e7).trans e8)⟩⟩
/-! ### [.. for c in text], all([..]) -/
theorem el_lcS {zs : Str} {j : Nat} {vs : List Nat} (f : Nat → Bool) (g : Nat → V) (h : Ev tl σ H (.str zs)) (hz : zs.cps.size ≤ 40000) (hw : ∀ x, wipe ((wipe σ vs).set j (some x)) vs = wipe σ vs)
    (ht : ∀ (i c : Nat) H1, Ex H H1 → zs.cps[i]? = some c → EvT t ((wipe σ vs).set j (some (.str ⟨#[c]⟩))) H1 (f i)) (he : ∀ (i c : Nat) H1, Ex H H1 → zs.cps[i]? = some c → f i = true → Ev te ((wipe σ vs).set j (some (.str ⟨#[c]⟩))) H1 (g i)) :
    EvL (tLc (iStr tl) (gName j) t te vs) σ H (given zs.cps.size f g) := fun H0 e Q q => h H0 e _ fun H1 e1 => ⟨zs, rfl, fun Dl hD => by
  refine ⟨fun i m G => m = zs.cps.size - i ∧ i ≤ zs.cps.size ∧ Cw H1 f g Dl i G, ⟨_, rfl, Nat.zero_le _, hD, Ex.new hD, upd_same⟩, ?_⟩
  rintro i m G ⟨rfl, hi, p⟩
  by_cases hlt : i < zs.cps.size
  · refine .inr ⟨hlt, Cw H1 f g Dl (i + 1), fun G' p' => ⟨zs.cps.size - (i + 1), by omega, rfl, hlt, p'⟩, ?_⟩
    rintro x G' ⟨rfl, c, hc, rfl⟩
    exact ⟨hw _, cw_turn p (by omega) (ht i c H1 (e.trans e1) hc) fun hf => he i c H1 (e.trans e1) hc hf⟩
  · have ei : i = zs.cps.size := by omega
    subst ei
    exact .inl ⟨Nat.le_refl _, q Dl G (fresh_back e1 p.1) (e1.trans p.2.1) p.2.2⟩⟩
theorem given_all (n : Nat) (g : Nat → V) : given n (fun _ => true) g = (List.range n).map g := by
  unfold given
  rw [List.filter_eq_self.mpr (fun _ _ => rfl)]
theorem given_bl (n : Nat) (b : Nat → Bool) : given n (fun _ => true) (fun i => V.bl (b i)) = ((List.range n).map b).map V.bl := by
  rw [given_all, List.map_map]
  rfl
theorem ev_allN {bs : List Bool} (h : EvL te σ H (bs.map V.bl)) : Ev (tCB (rAll K) (tCons te tNil)) σ H (.bl (bs.all id)) := fun H1 e Q q =>
  h H1 e _ fun p H2 _ e2 hp => ⟨p, bs, rfl, SqL.of hp, q H2 e2⟩
theorem ev_allT {n : Nat} (h : EvL te σ H (given n (fun _ => true) fun _ => V.bl true)) : Ev (tCB (rAll K) (tCons te tNil)) σ H (.bl true) := by
  rw [given_bl n fun _ => true] at h
  have := ev_allN (K := K) h
  have e : (((List.range n).map fun _ => true).all id) = true := by
    rw [List.all_eq_true]
    intro x hx
    obtain ⟨_, _, rfl⟩ := List.mem_map.mp hx
    rfl
  rw [e] at this
  exact this
end
/-! ### marks, shares -/
def Mk (z : Str) : Prop := 1 ≤ z.cps.size ∧ z.cps.size ≤ 4 ∧ ∀ c ∈ z.cps.toList, 97 ≤ c ∧ c ≤ 122
def Shr (x : Rat) : Prop := 0 ≤ x.num ∧ x.num ≤ x.den ∧ x.den ≤ 999
theorem Shr.sz {x : Rat} (h : Shr x) : Sz 10 x := by
  obtain ⟨h1, h2, h3⟩ := h
  constructor <;> omega
def spMark (K : PySem.W.Frag) : Sp := fun vs H Q _ => ∃ z : Str, vs = [.str z] ∧ Mk z ∧ ∀ H', Ex H H' → Q (.bl true) H'
def spShare (K : PySem.W.Frag) : Sp := fun vs H Q _ => ∃ (v : V) (x : Rat), vs = [v] ∧ Rt K H v x ∧ Shr x ∧ ∀ H', Ex H H' → Q (.bl true) H'
/-- the shares of a room: fractions, each a share, together one -/
def Shs (xs : List Rat) (n : Nat) : Prop := xs.length = n ∧ (∀ x ∈ xs, Shr x) ∧ sumF 0 xs = 1
def spRoom (K : PySem.W.Frag) : Sp := fun vs H Q _ => ∃ (a : Addr) (us : List V) (xs : List Rat) (n : Nat), vs = [.int (n : Int), .ref a] ∧ SqL K H a us ∧ RtAll K H us xs ∧ Shs xs n ∧ n ≤ 6 ∧ ∀ H', Ex H H' → Q (.bl true) H'
/-- rows of shares -/
inductive Rows (K : PySem.W.Frag) (H : Hp) : List V → List (List Rat) → Prop
  | nil : Rows K H [] []
  | cons {p : Addr} {us vs : List V} {xs : List Rat} {xss : List (List Rat)} : SqL K H p us → RtAll K H us xs → Rows K H vs xss → Rows K H (.ref p :: vs) (xs :: xss)
theorem Rows.mono {K : PySem.W.Frag} {H H1 : Hp} (e : Ex H H1) : ∀ {vs : List V} {xss : List (List Rat)}, Rows K H vs xss → Rows K H1 vs xss
  | _, _, .nil => .nil
  | _, _, .cons h r t => .cons (ex_l e h) (r.mono e) (Rows.mono e t)
theorem Rows.length {K : PySem.W.Frag} {H : Hp} : ∀ {vs : List V} {xss : List (List Rat)}, Rows K H vs xss → vs.length = xss.length
  | _, _, .nil => rfl
  | _, _, .cons _ _ t => congrArg Nat.succ (Rows.length t)
theorem Rows.get {K : PySem.W.Frag} {H : Hp} : ∀ {vs : List V} {xss : List (List Rat)} {i : Nat} {v : V}, Rows K H vs xss → vs[i]? = some v → ∃ p us xs, v = .ref p ∧ xss[i]? = some xs ∧ SqL K H p us ∧ RtAll K H us xs
  | _, _, _, _, .nil, e => by simp at e
  | _, _, 0, _, .cons h r _, e => by
    have e' := Option.some.inj e
    subst e'
    exact ⟨_, _, _, rfl, rfl, h, r⟩
  | _, _, i + 1, _, .cons _ _ t, e => Rows.get (i := i) t e
def spMarks (K : PySem.W.Frag) : Sp := fun vs H Q _ => ∃ (a : Addr) (zs : List Str), vs = [.ref a] ∧ SqL K H a (zs.map V.str) ∧ 1 ≤ zs.length ∧ zs.length ≤ 6 ∧ (∀ z ∈ zs, Mk z) ∧ ∀ H', Ex H H' → Q .non H'
def spShares (K : PySem.W.Frag) : Sp := fun vs H Q _ => ∃ (a : Addr) (us : List V) (xss : List (List Rat)) (n : Nat), vs = [.int (n : Int), .ref a] ∧ SqL K H a us ∧ Rows K H us xss ∧ xss.length = n ∧ n ≤ 6 ∧ (∀ xs ∈ xss, Shs xs n) ∧ ∀ H', Ex H H' → Q .non H'
end NF

namespace NF
open PySem PySem.Spec PyProof.Rows L2 Evl
/-! ### len(x), x an instance whose class has a __len__ of its own -/
structure LenO (P : Program) (w : World) (K : PySem.W.Frag) (mg : Str → Option Value) (base : Heap) (C : Addr) (k : Nat) (sp : Sp) : Prop where
  ex : ∃ (f : Addr) (fd : FuncData), PySem.W.findIn K (.ref C) "__len__" = some (some (.ref f)) ∧ PySem.W.isFn K (.ref f) = true ∧ FnOk P w K mg base CX0 k f fd ["self"] sp ∧ Binds K fd ["self"] []
def rLenO (C : Addr) (sp : Sp) : List V → Hp → VK → Prop := fun xs H Q => ∃ (a dx : Addr) (fs : List (Str × V)), xs = [.ref a] ∧ H a = some (.ins C dx fs) ∧ sp [.ref a] H (fun v H' => ∃ n : Int, v = .int n ∧ 0 ≤ n ∧ n < 2 ^ 63 ∧ Q (.int n) H') E0
theorem call_lenO {X : Cx} {C : Addr} {k j : Nat} {sp : Sp} (L : LenO X.prog X.w X.K X.mg X.base C k sp) (hr : Room j X.A) (hk : k + 1 ≤ j) : CallR X (.builtin "len") (rLenO C sp) := by
  obtain ⟨f, fd, hl, hf, F, hb⟩ := L.ex
  intro pins s σ H xs us Q I r h
  obtain ⟨a, dx, fs, rfl, ea, hs⟩ := h
  obtain ⟨u, rfl, ru⟩ := vals1 r
  cases (show u = Value.ref a from ru)
  obtain ⟨mA, O, _⟩ := ins_get I.hok ea
  obtain ⟨od, J, _⟩ := O.look
  obtain ⟨m, fr⟩ := I.fr
  have b := hb s [.ref a] I.kIn rfl
  refine PySem.W.len_K fr I.ok.mod.kin J hl hf (wpAny_call (codeAny_mono (F.run X.A.in1 X.stack s H ⟨[.ref a], []⟩ [.ref a] [.ref a] _ E0 (hr.mono hk).in1 I.env0.in1 b (.cons rfl .nil) hs) ?_))
  intro rr s2 z
  match rr, z with
  | .error y, z => exact z.elim
  | .ok (.ret u), z =>
    obtain ⟨v, H', I', rv, n, rfl, h0, h1, q⟩ := I.after z
    obtain ⟨t, rfl⟩ := rv
    exact ⟨⟨h0, h1⟩, .int n, H', I'.tok _, ⟨_, rfl⟩, q⟩
/-! ### o.m(..) -/
structure CalM (P : Program) (w : World) (K : PySem.W.Frag) (mg : Str → Option Value) (base : Heap) (C : Addr) (k : Nat) (m : Str) (ps : List Str) (sp : Sp) : Prop where
  ex : ∃ (f : Addr) (fd : FuncData), Meth K C m f ∧ FnOk P w K mg base CX0 k f fd ps sp ∧ Binds K fd ps []
  cl : Cls K C
section
variable {X : Cx} {C : Addr} {j k : Nat} {m : Str} {ps : List Str} {sp : Sp} {o e : Expr} {es : List Expr} {ta : TE} {t : TA} {pos apos : Pos} {pl : Sem Bool}
theorem pe_calM (M : CalM X.prog X.w X.K X.mg X.base C k m ps sp) (hr : Room j X.A) (hk : k ≤ j) (he : PE X o ta) (ha : PA X (e :: es) t)
    (hst : starEach (e :: es) X.env = (false, eval e X.env) :: starEach es X.env := by rfl) (hpl : (backTo pos (starEach es X.env)).any (·.1) = false := by rfl)
    (ht : eval (.Call (.Attribute o m apos) (e :: es) [] pos) X.env = (do
      let ov ← eval o X.env
      standAt apos.atName
      let (g, first) ← holding [ov] (getMethod ov m pl)
      callWith pos g first (backTo pos (starEach (e :: es) X.env)) (backToKw pos (keywordEach [] X.env))) := by rfl) : PE X (.Call (.Attribute o m apos) (e :: es) [] pos) (tMeth C m sp [] E0 ta t) := by
  obtain ⟨f, fd, hm, F, b⟩ := M.ex
  exact pe_meth he M.cl hm F (hr.mono hk) b .nil pass0 ha hst hpl ht
end
/-! ### a Machine -/
def MaAt (K : PySem.W.Frag) (C : Addr) (H : Hp) (m : Addr) (zs : List Str) (xss : List (List Rat)) : Prop := ∃ (dx am as : Addr) (us : List V), H m = some (.ins C dx [("kept_marks", .ref am), ("kept_shares", .ref as)]) ∧ H am = some (.lst (zs.map V.str)) ∧ H as = some (.lst us) ∧ Rows K H us xss
theorem MaAt.mono {K : PySem.W.Frag} {C m : Addr} {H H1 : Hp} {zs : List Str} {xss : List (List Rat)} (h : MaAt K C H m zs xss) (e : Ex H H1) : MaAt K C H1 m zs xss := by
  obtain ⟨dx, am, as, us, h1, h2, h3, h4⟩ := h
  exact ⟨dx, am, as, us, e _ _ h1, e _ _ h2, e _ _ h3, h4.mono e⟩
/-- a machine as the document has it -/
def Good (zs : List Str) (xss : List (List Rat)) : Prop := 1 ≤ zs.length ∧ zs.length ≤ 6 ∧ (∀ z ∈ zs, NF.Mk z) ∧ xss.length = zs.length ∧ ∀ xs ∈ xss, Shs xs zs.length
theorem RtAll.sq {K : PySem.W.Frag} {H H1 : Hp} (e : ∀ {a xs}, SqT K H a xs → SqT K H1 a xs) : ∀ {vs : List V} {xs : List Rat}, RtAll K H vs xs → RtAll K H1 vs xs
  | _, _, .nil => .nil
  | _, _, .cons ⟨p, e1, h⟩ t => .cons ⟨p, e1, e h⟩ (RtAll.sq e t)
theorem Rows.snoc {K : PySem.W.Frag} {H : Hp} {p : Addr} {us : List V} {xs : List Rat} (h : SqL K H p us) (r : RtAll K H us xs) : ∀ {vs : List V} {xss : List (List Rat)}, Rows K H vs xss → Rows K H (vs ++ [.ref p]) (xss ++ [xs])
  | _, _, .nil => .cons h r .nil
  | _, _, .cons h' r' t => .cons h' r' (Rows.snoc h r t)
section
variable {K : PySem.W.Frag} {H H1 H2 : Hp} {σ : L2.St} {ta tb te tl : TE} {E : XK} {D : Ends} {tz : TS}
/-- rows may stand where an object that is no tuple and no row of theirs changes -/
theorem Rows.exN {st : Addr} {o : HO} (e : Exs st H H1) (hs : H st = some o) (nt : ∀ xs, o ≠ .tup xs) (nf : ∀ ob xs, o ≠ .frz ob (.tup xs)) (nl : ∀ xs, o ≠ .lst xs) (nk : ∀ ob xs, o ≠ .frz ob (.lst xs)) : ∀ {vs : List V} {xss : List (List Rat)}, Rows K H vs xss → Rows K H1 vs xss := by
  have et : ∀ {a xs}, SqT K H a xs → SqT K H1 a xs := fun {a xs} h => by
    rcases h with (h | ⟨ob, h⟩) | h
    · exact .inl (.inl (e _ _ (ne_of h hs fun z => nt _ z.symm) h))
    · exact .inl (.inr ⟨ob, e _ _ (ne_of h hs fun z => nf _ _ z.symm) h⟩)
    · exact .inr h
  have el : ∀ {a xs}, SqL K H a xs → SqL K H1 a xs := fun {a xs} h => by
    rcases h with (h | ⟨ob, h⟩) | h
    · exact .inl (.inl (e _ _ (ne_of h hs fun z => nl _ z.symm) h))
    · exact .inl (.inr ⟨ob, e _ _ (ne_of h hs fun z => nk _ _ z.symm) h⟩)
    · exact .inr h
  have er : ∀ {vs xs}, RtAll K H vs xs → RtAll K H1 vs xs := by
    intro vs xs h
    induction h with
    | nil => exact .nil
    | cons r _ ih =>
      obtain ⟨p, e1, h⟩ := r
      exact .cons ⟨p, e1, et h⟩ ih
  intro vs xss h
  induction h with
  | nil => exact .nil
  | cons h r _ ih => exact .cons (el h) (er r) ih
def EvRows (K : PySem.W.Frag) (te : TE) (σ : L2.St) (H : Hp) (xss : List (List Rat)) : Prop := ∀ H1, Ex H H1 → ∀ Q : VK, (∀ p vs H2, H1 p = none → Ex H1 H2 → H2 p = some (.lst vs) → Rows K H2 vs xss → Q (.ref p) H2) → te σ H1 Q
/-- [list(row) for row in rows] -/
theorem er_copy {a : Addr} {us : List V} {xss : List (List Rat)} {j : Nat} {vs : List Nat} (h : Ev tl σ H (.ref a)) (ha : SqL K H a us) (hr : Rows K H us xss) (hz : us.length ≤ 1000) (hw : ∀ x, wipe ((wipe σ vs).set j (some x)) vs = wipe σ vs) (hj : ∀ x, ((wipe σ vs).set j (some x))[j]? = some (some x)) :
    EvRows K (tLc (iList K tl) (gName j) tYes (tCB (fun xs H Q => ∃ p ys, xs = [V.ref p] ∧ (SqL K H p ys ∨ SqT K H p ys) ∧ ∀ l, H l = none → Q (.ref l) (upd H l (.lst ys))) (tCons (tVar j) tNil)) vs) σ H xss := fun H0 e Q q => h H0 e _ fun H1 e1 => ⟨a, rfl, ⟨us, ex_l (e.trans e1) ha⟩, fun Dl hD => by
  have E1 := e.trans e1
  refine lc_list (xs := us) (fun i G => ∃ ws, H1 Dl = none ∧ Ex H1 G ∧ G Dl = some (.lst ws) ∧ ws.length = i ∧ Rows K (fun b => if b = Dl then none else G b) ws (xss.take i)) ⟨[], hD, Ex.new hD, upd_same, rfl, .nil⟩ (fun i G _ p => p.elim fun ws p => ex_l (E1.trans p.2.1) ha) ?_ ?_
  · rintro i x G hi ⟨ws, n1, x1, hDl, hl, hR⟩
    obtain ⟨p, ys, xs, rfl, hx, hp, hxs⟩ := (hr.mono (E1.trans x1)).get hi
    refine ⟨hw _, ?_⟩
    refine ⟨_, hj _, p, ys, rfl, .inl hp, fun l nl => ?_⟩
    have nlD : l ≠ Dl := fun z => by rw [z, hDl] at nl; cases nl
    have hlt : i < us.length := (List.getElem?_eq_some_iff.mp hi).1
    refine ⟨ws, by rw [upd_ne nlD.symm]; exact hDl, Nat.lt_of_lt_of_le (show ws.length < 1001 by omega) (by decide), ws ++ [.ref l], n1, fun b o hb => ?_, upd_same, by simp [hl], ?_⟩
    · rw [upd_ne (ne_of_none hb n1), upd_ne (fun z => by rw [z] at hb; have := x1 _ _ hb; rw [nl] at this; cases this)]
      exact x1 _ _ hb
    · have ex2 : Ex (fun b => if b = Dl then none else G b) (fun b => if b = Dl then none else (upd (upd G l (.lst ys)) Dl (.lst (ws ++ [.ref l]))) b) := fun b o hb => by
        by_cases c : b = Dl
        · simp [c] at hb
        · simp only [c, if_false] at hb ⊢
          rw [upd_ne c, upd_ne (fun z => by rw [z, nl] at hb; cases hb)]
          exact hb
      have hlx : (fun b => if b = Dl then none else (upd (upd G l (.lst ys)) Dl (.lst (ws ++ [.ref l]))) b) l = some (.lst ys) := by
        simp only [nlD, if_false]
        rw [upd_ne nlD, upd_same]
      have hys : RtAll K (fun b => if b = Dl then none else (upd (upd G l (.lst ys)) Dl (.lst (ws ++ [.ref l]))) b) ys xs := by
        have noD : ∀ {a xs}, SqT K G a xs → SqT K (fun b => if b = Dl then none else (upd (upd G l (.lst ys)) Dl (.lst (ws ++ [.ref l]))) b) a xs := fun {a xs} ht => by
          rcases ht with (ht | ⟨ob, ht⟩) | ht
          · have c1 : a ≠ Dl := ne_of ht hDl (fun z => by cases z)
            have c2 : a ≠ l := fun z => by rw [z, nl] at ht; cases ht
            exact .inl (.inl (by show (if a = Dl then none else _) = _; rw [if_neg c1, upd_ne c1, upd_ne c2]; exact ht))
          · have c1 : a ≠ Dl := ne_of ht hDl (fun z => by cases z)
            have c2 : a ≠ l := fun z => by rw [z, nl] at ht; cases ht
            exact .inl (.inr ⟨ob, by show (if a = Dl then none else _) = _; rw [if_neg c1, upd_ne c1, upd_ne c2]; exact ht⟩)
          · exact .inr ht
        exact hxs.sq noD
      rw [List.take_add_one, hx]
      exact (hR.mono ex2).snoc (SqL.of hlx) hys
  · rintro G ⟨ws, n1, x1, hDl, hl, hR⟩
    rw [hr.length, List.take_length] at hR
    refine q Dl ws G (fresh_back e1 n1) (e1.trans x1) hDl (hR.mono fun b o hb => ?_)
    by_cases c : b = Dl
    · simp [c] at hb
    · simpa [c] using hb⟩
end
end NF

namespace NF
open PySem PySem.Spec PyProof.Rows L2 Evl
theorem pi_listK {X : Cx} {K : PySem.W.Frag} {tg l : Expr} {tl : TE} (h : X.K = K) (hl : PE X l tl) : PI X tg l (iList K tl) := h ▸ pi_list hl
section
variable {K : PySem.W.Frag} {H H1 H2 : Hp} {σ : L2.St} {ta tb te tl : TE} {E : XK} {D : Ends} {tz : TS} {B : Nat}
theorem rt_map {v : Nat → V} {x : Nat → Rat} : ∀ {l : List Nat}, (∀ i ∈ l, Rt K H (v i) (x i)) → RtAll K H (l.map v) (l.map x)
  | [], _ => .nil
  | a :: l, h => .cons (h a (List.mem_cons_self ..)) (rt_map fun i hi => h i (List.mem_cons_of_mem _ hi))
theorem RtAll.exLst {st : Addr} {ys : List V} (e : Exs st H H1) (hs : H st = some (.lst ys)) {vs : List V} {xs : List Rat} (h : RtAll K H vs xs) : RtAll K H1 vs xs := h.sq fun {a xs} ht => by
  rcases ht with (ht | ⟨ob, ht⟩) | ht
  · exact .inl (.inl (e _ _ (ne_of ht hs (fun z => by cases z)) ht))
  · exact .inl (.inr ⟨ob, e _ _ (ne_of ht hs (fun z => by cases z)) ht⟩)
  · exact .inr ht
theorem RtAll.push : ∀ {vs : List V} {xs : List Rat} {v : V} {x : Rat}, RtAll K H vs xs → Rt K H v x → RtAll K H (vs ++ [v]) (xs ++ [x])
  | _, _, _, _, .nil, r => .cons r .nil
  | _, _, _, _, .cons h t, r => .cons h (RtAll.push t r)
/-- [fraction for w in a list] -/
theorem er_lcL {a : Addr} {ws : List V} {xs : List Rat} {j : Nat} {vs : List Nat} (h : Ev tl σ H (.ref a)) (ha : SqL K H a ws) (hl : ws.length = xs.length) (hz : ws.length ≤ 1000) (hw : ∀ x, wipe ((wipe σ vs).set j (some x)) vs = wipe σ vs)
    (he : ∀ (i : Nat) (w : V) (x : Rat) H1, Ex H H1 → ws[i]? = some w → xs[i]? = some x → EvF K te ((wipe σ vs).set j (some w)) H1 x) : EvR K (tLc (iList K tl) (gName j) tYes te vs) σ H xs := fun H0 e Q q => h H0 e _ fun H1 e1 => ⟨a, rfl, ⟨ws, ex_l (e.trans e1) ha⟩, fun Dl hD => by
  have E1 := e.trans e1
  refine lc_list (xs := ws) (fun i G => ∃ us, H1 Dl = none ∧ Ex H1 G ∧ G Dl = some (.lst us) ∧ us.length = i ∧ RtAll K G us (xs.take i)) ⟨[], hD, Ex.new hD, upd_same, rfl, .nil⟩ (fun i G _ p => p.elim fun us p => ex_l (E1.trans p.2.1) ha) ?_ ?_
  · rintro i w G hi ⟨us, n1, x1, hDl, hl1, hR⟩
    have hlt : i < ws.length := (List.getElem?_eq_some_iff.mp hi).1
    have hx : xs[i]? = some xs[i] := List.getElem?_eq_getElem (by omega)
    refine ⟨hw _, ?_⟩
    show te _ G _
    refine he i w xs[i] G (E1.trans x1) hi hx G (Ex.refl G) _ fun u G2 x2 ru => ?_
    have hD2 := x2 _ _ hDl
    refine ⟨us, hD2, Nat.lt_of_lt_of_le (show us.length < 1001 by omega) (by decide), us ++ [u], n1, fun b o hb => ?_, upd_same, by simp [hl1], ?_⟩
    · rw [upd_ne (ne_of_none hb n1)]
      exact (x1.trans x2) _ _ hb
    · rw [List.take_add_one, hx]
      exact ((hR.mono x2).push ru).exLst Exs.upd hD2
  · rintro G ⟨us, n1, x1, hDl, hl1, hR⟩
    rw [hl, List.take_length] at hR
    exact q Dl us G (fresh_back e1 n1) (e1.trans x1) hDl hR⟩
theorem ef_totR {xs : List Rat} (h : EvR K tl σ H xs) (hs : ∀ x ∈ xs, Sz B x) (hB : (xs.length + 2) * (B + 1) ≤ 4000) (h0 : 0 < B) : EvF K (tCall (spTot K) [.non] E (tCons tl tNil)) σ H (sumF 0 xs) := fun H1 e Q q =>
  h H1 e _ fun p us H2 _ e2 hp hx => ⟨p, us, xs, .non, 0, B, rfl, SqL.of hp, hx, .inl ⟨rfl, rfl⟩, ⟨Nat.pow_pos (by decide), by show 1 < 2 ^ B; exact Nat.one_lt_two_pow (by omega)⟩, hs, hB, fun u H' e3 r => q u H' (e2.trans e3) r⟩
/-- an item of a list of fractions, of a row of rows -/
theorem ef_at {a : Addr} {us : List V} {xs : List Rat} {x : Rat} {j : Nat} (h1 : Ev ta σ H (.ref a)) (h2 : Ev tb σ H (.int (j : Int))) (ha : SqL K H a us) (hr : RtAll K H us xs) (hj : xs[j]? = some x) : EvF K (tOp (rIxL K) ta tb) σ H x := fun H1 e Q q =>
  h1 H1 e _ fun H2 e2 => h2 H2 (e.trans e2) _ fun H3 e3 => by
    have E3 := (e.trans e2).trans e3
    have hl : j < us.length := by
      rw [hr.length]
      exact (List.getElem?_eq_some_iff.mp hj).1
    obtain ⟨x', e1, r1⟩ := hr.get (List.getElem?_eq_getElem hl)
    rw [hj] at e1
    cases e1
    exact ⟨a, us, j, us[j], rfl, rfl, ex_l E3 ha, atI_nat (List.getElem?_eq_getElem hl), q _ H3 (e2.trans e3) (r1.mono E3)⟩
theorem ev_row {a : Addr} {us : List V} {xss : List (List Rat)} {xs : List Rat} {j : Nat} (h1 : Ev ta σ H (.ref a)) (h2 : Ev tb σ H (.int (j : Int))) (ha : SqL K H a us) (hr : Rows K H us xss) (hj : xss[j]? = some xs) : ∃ p ws, Ev (tOp (rIxL K) ta tb) σ H (.ref p) ∧ SqL K H p ws ∧ RtAll K H ws xs := by
  have hl : j < us.length := by
    rw [hr.length]
    exact (List.getElem?_eq_some_iff.mp hj).1
  obtain ⟨p, ws, xs', e1, e2, h3, h4⟩ := hr.get (List.getElem?_eq_getElem hl)
  rw [hj] at e2
  cases e2
  exact ⟨p, ws, ev_op h1 h2 (rv_ixL ha (atI_nat (by rw [List.getElem?_eq_getElem hl, e1]))), h3, h4⟩
end
/-! ### a step of a machine -/
def dot (xss : List (List Rat)) (cs : List Rat) (to : Nat) : Rat := sumF 0 ((List.range xss.length).map fun r => cs.getD r 0 * (xss.getD r []).getD to 0)
def step1 (xss : List (List Rat)) (cs : List Rat) : List Rat := (List.range xss.length).map (dot xss cs)
def unit (n r : Nat) : List Rat := (List.range n).map fun i => if i = r then 1 else 0
def walk (xss : List (List Rat)) (r : Nat) : Nat → List Rat
  | 0 => unit xss.length r
  | k + 1 => step1 xss (walk xss r k)
theorem walk_len (xss : List (List Rat)) (r k : Nat) : (walk xss r k).length = xss.length := by
  cases k with
  | zero => simp [walk, unit]
  | succ k => simp [walk, step1]
def spStand (K : PySem.W.Frag) : Sp := fun vs H Q _ => ∃ n r : Nat, vs = [.int (n : Int), .int (r : Int)] ∧ n ≤ 6 ∧ ∀ p us H', H p = none → Ex H H' → H' p = some (.lst us) → RtAll K H' us (unit n r) → Q (.ref p) H'
def spStep (K : PySem.W.Frag) : Sp := fun vs H Q _ => ∃ (a b : Addr) (us ws : List V) (xss : List (List Rat)) (cs : List Rat), vs = [.ref a, .ref b] ∧ SqL K H a us ∧ Rows K H us xss ∧ SqL K H b ws ∧ RtAll K H ws cs ∧ xss.length ≤ 6 ∧ cs.length = xss.length ∧ (∀ xs ∈ xss, Shs xs xss.length) ∧ (∀ c ∈ cs, Sz 245 c) ∧
  ∀ p us' H', H p = none → Ex H H' → H' p = some (.lst us') → RtAll K H' us' (step1 xss cs) → Q (.ref p) H'
end NF

namespace NF
open PySem PySem.Spec PyProof.Rows L2 Evl
/-! ### the other laws' state: a list of two ints -/
def Bg (st : Addr) (H : Hp) : Prop := ∃ g m : Int, H st = some (.lst [.int g, .int m])
theorem Bg.mono {st : Addr} {H H1 : Hp} (e : Ex H H1) (h : Bg st H) : Bg st H1 := by
  obtain ⟨g, m, h⟩ := h
  exact ⟨g, m, e _ _ h⟩
def ExS (st : Addr) (H H' : Hp) : Prop := ∀ b o, b ≠ st → H b = some o → H' b = some o
theorem ExS.refl (st : Addr) (H : Hp) : ExS st H H := fun _ _ _ h => h
theorem ExS.trans {st : Addr} {H H1 H2 : Hp} (a : ExS st H H1) (b : ExS st H1 H2) : ExS st H H2 := fun c o n h => b c o n (a c o n h)
theorem ExS.of {st : Addr} {H H1 : Hp} (e : Ex H H1) : ExS st H H1 := fun c o _ h => e c o h
theorem ExS.upd {st : Addr} {H : Hp} {o : HO} : ExS st H (upd H st o) := fun c u n h => by rw [upd_ne n]; exact h
theorem ExS.ex {st : Addr} {H H1 : Hp} (h : H st = none) (e : ExS st H H1) : Ex H H1 := fun b o hb => e b o (ne_of_none hb h) hb
theorem ExS.tup {K : PySem.W.Frag} {st a : Addr} {H H1 : Hp} {xs : List V} (e : ExS st H H1) (hs : Bg st H) (h : SqT K H a xs) : SqT K H1 a xs := by
  obtain ⟨g, m, hs⟩ := hs
  rcases h with (h | ⟨o, h⟩) | h
  · exact .inl (.inl (e _ _ (ne_of h hs (fun z => by cases z)) h))
  · exact .inl (.inr ⟨o, e _ _ (ne_of h hs (fun z => by cases z)) h⟩)
  · exact .inr h
theorem Rt.exS {K : PySem.W.Frag} {st : Addr} {H H1 : Hp} {v : V} {x : Rat} (r : Rt K H v x) (e : ExS st H H1) (hs : Bg st H) : Rt K H1 v x := by
  obtain ⟨p, e1, h⟩ := r
  exact ⟨p, e1, e.tup hs h⟩
theorem RtAll.exS {K : PySem.W.Frag} {st : Addr} {H H1 : Hp} {vs : List V} {xs : List Rat} (h : RtAll K H vs xs) (e : ExS st H H1) (hs : Bg st H) : RtAll K H1 vs xs := h.sq fun ht => e.tup hs ht
def spBag (K : PySem.W.Frag) : Sp := fun vs H Q _ => ∃ (a : Addr) (ns : List Int) (k : Nat), vs = [.ref a, .int (k : Int)] ∧ SqL K H a (ns.map V.int) ∧ ns.length ≤ 1000 ∧ k ≤ 1000 ∧ ∀ st H', H st = none → Ex H H' → Bg st H' → Q (.ref st) H'
def spOut : Sp := fun vs H Q _ => ∃ (st : Addr) (many : Int), vs = [.ref st, .int many] ∧ Bg st H ∧ 0 < many ∧ many < 2 ^ 60 ∧ ∀ d H', 0 ≤ d → d < many → Bg st H' → ExS st H H' → Q (.int d) H'
def spLow (K : PySem.W.Frag) : Sp := fun vs H Q _ => ∃ (a b : Int) (B : Nat), vs = [.int a, .int b] ∧ 0 < b ∧ a.natAbs < 2 ^ B ∧ b.natAbs < 2 ^ B ∧ 0 < B ∧ B ≤ 9000 ∧ ∀ v H', Ex H H' → Rt K H' v (Rat.divInt a b) → Q v H'
section
variable {K : PySem.W.Frag} {H H1 H2 : Hp} {σ : L2.St} {ta tb te tl : TE} {E : XK} {D : Ends} {tz : TS} {B : Nat} {st : Addr}
theorem ef_low {a b : Int} (ha : Ev ta σ H (.int a)) (hb : Ev tb σ H (.int b)) (hn : 0 < b) (ba : a.natAbs < 2 ^ B) (bb : b.natAbs < 2 ^ B) (h0 : 0 < B) (h4 : B ≤ 9000) : EvF K (tCall (spLow K) [] E (tCons ta (tCons tb tNil))) σ H (Rat.divInt a b) := fun H1 e Q q =>
  ha H1 e _ fun H2 e2 => hb H2 (e.trans e2) _ fun H3 e3 => ⟨a, b, B, rfl, hn, ba, bb, h0, h4, fun u H' e4 ru => q u H' ((e2.trans e3).trans e4) ru⟩
theorem out_ev {i : Nat} {Q : VK} (many : Int) (h1 : σ[i]? = some (some (.ref st))) (hb : Ev tb σ H (.int many)) (hs : Bg st H) (h0 : 0 < many) (hm : many < 2 ^ 60) (q : ∀ d H', 0 ≤ d → d < many → Bg st H' → ExS st H H' → Q (.int d) H') : tCall spOut [] E (tCons (tVar i) (tCons tb tNil)) σ H Q :=
  ⟨_, h1, hb H (Ex.refl H) _ fun H1 e => ⟨st, many, rfl, hs.mono e, h0, hm, fun d H' a b c x => q d H' a b c ((ExS.of e).trans x)⟩⟩
end
end NF

namespace NF
/-! ### whole numbers of Nths -/
def Ml (N : Nat) (x : Rat) : Prop := ∃ t : Int, x * (N : Rat) = (t : Rat)
theorem Ml.add {N : Nat} {x y : Rat} (h : Ml N x) (g : Ml N y) : Ml N (x + y) := by
  obtain ⟨s, hs⟩ := h
  obtain ⟨t, ht⟩ := g
  exact ⟨s + t, by rw [Rat.add_mul, hs, ht, Rat.intCast_add]⟩
theorem Ml.mul {M N : Nat} {x y : Rat} (h : Ml M x) (g : Ml N y) : Ml (M * N) (x * y) := by
  obtain ⟨s, hs⟩ := h
  obtain ⟨t, ht⟩ := g
  refine ⟨s * t, ?_⟩
  rw [Rat.intCast_mul, ← hs, ← ht, Rat.natCast_mul]
  grind
theorem Ml.zero {N : Nat} : Ml N 0 := ⟨0, by simp⟩
theorem Ml.one {N : Nat} : Ml N 1 := ⟨(N : Int), by rw [Rat.one_mul]; rfl⟩
theorem Ml.up {M N : Nat} {x : Rat} (h : Ml M x) (d : M ∣ N) : Ml N x := by
  obtain ⟨s, hs⟩ := h
  obtain ⟨k, rfl⟩ := d
  refine ⟨s * k, ?_⟩
  rw [Rat.intCast_mul, ← hs, Rat.natCast_mul]
  have e : ((k : Int) : Rat) = (k : Rat) := rfl
  grind
theorem div_eq (t : Int) {b : Nat} (hb : 0 < b) : Rat.divInt t b * (b : Rat) = (t : Rat) := by
  have hb' : (b : Rat) ≠ 0 := by
    intro z
    have : b = 0 := by exact_mod_cast z
    omega
  rw [Rat.divInt_eq_div]
  have e : ((b : Int) : Rat) = (b : Rat) := rfl
  rw [e]
  grind
theorem ml_div (t : Int) {b : Nat} (hb : 0 < b) : Ml b (Rat.divInt t b) := ⟨t, div_eq t hb⟩
theorem Ml.eq {N : Nat} {x : Rat} (h : Ml N x) (hN : 0 < N) : ∃ t : Int, x = Rat.divInt t N := by
  obtain ⟨t, ht⟩ := h
  refine ⟨t, ?_⟩
  have h2 := div_eq t hN
  have hb' : (N : Rat) ≠ 0 := by
    intro z
    have : N = 0 := by exact_mod_cast z
    omega
  grind
theorem den_le {t : Int} {N : Nat} (hN : 0 < N) : (Rat.divInt t N).den ≤ N := by
  rw [Rat.den_divInt, if_neg (by omega)]
  exact Nat.le_trans (Nat.div_le_self ..) (by omega)
theorem num01 {x : Rat} (h0 : 0 ≤ x) (h1 : x ≤ 1) : 0 ≤ x.num ∧ x.num ≤ x.den := by
  constructor
  · exact Rat.num_nonneg.mpr h0
  · have h := (not_congr (lt_rt 1 x)).mp (by grind)
    have e1 : (1 : Rat).num = 1 := rfl
    have e2 : (1 : Rat).den = 1 := rfl
    rw [e1, e2] at h
    omega
theorem of01 {x : Rat} (h0 : 0 ≤ x.num) (h1 : x.num ≤ x.den) : 0 ≤ x ∧ x ≤ 1 := by
  constructor
  · exact Rat.num_nonneg.mp h0
  · have h := (not_congr (lt_rt 1 x)).mpr (by
      have e1 : (1 : Rat).num = 1 := rfl
      have e2 : (1 : Rat).den = 1 := rfl
      rw [e1, e2]
      omega)
    grind
theorem Ml.sz {N B : Nat} {x : Rat} (h : Ml N x) (hN : 0 < N) (h0 : 0 ≤ x) (h1 : x ≤ 1) (hb : N < 2 ^ B) : Sz B x := by
  obtain ⟨t, rfl⟩ := h.eq hN
  have hd := den_le (t := t) hN
  obtain ⟨a, b⟩ := num01 h0 h1
  constructor <;> omega
/-! ### sums -/
theorem sumF_snoc (x0 : Rat) (xs : List Rat) (x : Rat) : sumF x0 (xs ++ [x]) = sumF x0 xs + x := by simp [sumF]
theorem sumF_shift (f : Rat) : ∀ (x0 : Rat) (xs : List Rat), sumF (x0 + f) xs = sumF x0 xs + f
  | _, [] => rfl
  | x0, x :: xs => by
    show sumF (x0 + f + x) xs = sumF (x0 + x) xs + f
    rw [show x0 + f + x = x0 + x + f by grind]
    exact sumF_shift f (x0 + x) xs
theorem sumF_first (f : Rat) (xs : List Rat) : sumF f xs = sumF 0 xs + f := by
  rw [← sumF_shift, show (0 : Rat) + f = f by grind]
theorem sumF_cons (x : Rat) (xs : List Rat) : sumF 0 (x :: xs) = x + sumF 0 xs := by
  show sumF (0 + x) xs = _
  rw [sumF_first]
  grind
theorem sumF_app : ∀ (xs ys : List Rat), sumF 0 (xs ++ ys) = sumF 0 xs + sumF 0 ys
  | [], ys => by show sumF 0 ys = 0 + _; grind
  | x :: xs, ys => by
    rw [List.cons_append, sumF_cons, sumF_cons, sumF_app xs ys]
    grind
theorem sumF_rot (xs : List Rat) (k : Nat) : sumF 0 (xs.drop k ++ xs.take k) = sumF 0 xs := by
  rw [sumF_app]
  have h := sumF_app (xs.take k) (xs.drop k)
  rw [List.take_append_drop] at h
  grind
theorem ml_sum {N : Nat} : ∀ {xs : List Rat}, (∀ x ∈ xs, Ml N x) → Ml N (sumF 0 xs)
  | [], _ => Ml.zero
  | x :: xs, h => by
    rw [sumF_cons]
    exact (h x (List.mem_cons_self ..)).add (ml_sum fun y hy => h y (List.mem_cons_of_mem _ hy))
theorem sum_nn : ∀ {xs : List Rat}, (∀ x ∈ xs, 0 ≤ x) → 0 ≤ sumF 0 xs
  | [], _ => by decide
  | x :: xs, h => by
    rw [sumF_cons]
    have h1 := h x (List.mem_cons_self ..)
    have h2 := sum_nn fun y hy => h y (List.mem_cons_of_mem x hy)
    grind
theorem le_sum : ∀ {xs : List Rat}, (∀ x ∈ xs, 0 ≤ x) → ∀ x ∈ xs, x ≤ sumF 0 xs
  | [], _, _, hx => by cases hx
  | y :: ys, h, x, hx => by
    rw [sumF_cons]
    have h1 := h y (List.mem_cons_self ..)
    have h2 := sum_nn fun z hz => h z (List.mem_cons_of_mem y hz)
    rcases List.mem_cons.mp hx with rfl | hx
    · grind
    · have h3 := le_sum (fun z hz => h z (List.mem_cons_of_mem y hz)) x hx
      grind
/-- the sum of f 0 .. f (n - 1) -/
def Su (n : Nat) (f : Nat → Rat) : Rat := sumF 0 ((List.range n).map f)
theorem su_succ (n : Nat) (f : Nat → Rat) : Su (n + 1) f = Su n f + f n := by
  unfold Su
  rw [List.range_succ, List.map_append]
  exact sumF_snoc ..
theorem su_zero (f : Nat → Rat) : Su 0 f = 0 := rfl
theorem su_add (f g : Nat → Rat) : ∀ n, Su n (fun i => f i + g i) = Su n f + Su n g
  | 0 => by simp [su_zero]; grind
  | n + 1 => by
    rw [su_succ, su_succ, su_succ, su_add f g n]
    grind
theorem su_mul (c : Rat) (f : Nat → Rat) : ∀ n, Su n (fun i => c * f i) = c * Su n f
  | 0 => by simp [su_zero]
  | n + 1 => by
    rw [su_succ, su_succ, su_mul c f n]
    grind
theorem su_swap (f : Nat → Nat → Rat) (n : Nat) : ∀ m, Su n (fun j => Su m fun i => f i j) = Su m fun i => Su n fun j => f i j
  | 0 => by
    simp only [su_zero]
    have : ∀ n, Su n (fun _ => (0 : Rat)) = 0 := fun n => by
      induction n with
      | zero => rfl
      | succ n ih => rw [su_succ, ih]; grind
    exact this n
  | m + 1 => by
    simp only [su_succ]
    rw [su_add (fun j => Su m fun i => f i j) (fun j => f m j) n, su_swap f n m]
theorem su_congr {f g : Nat → Rat} : ∀ {n : Nat}, (∀ i, i < n → f i = g i) → Su n f = Su n g
  | 0, _ => rfl
  | n + 1, h => by
    rw [su_succ, su_succ, h n (by omega), su_congr fun i hi => h i (by omega)]
theorem su_list (xs : List Rat) : sumF 0 xs = Su xs.length fun i => xs.getD i 0 := by
  unfold Su
  congr 1
  apply List.ext_getElem?
  intro i
  by_cases h : i < xs.length
  · simp [h]
  · simp [h]
/-! ### the chances of a walk -/
theorem Shr.le {x : Rat} (h : Shr x) : 0 ≤ x ∧ x ≤ 1 := of01 h.1 h.2.1
theorem step_sum {xss : List (List Rat)} {cs : List Rat} (hl : cs.length = xss.length) (hs : ∀ xs ∈ xss, Shs xs xss.length) : sumF 0 (step1 xss cs) = sumF 0 cs := by
  show Su xss.length (fun to => Su xss.length fun r => cs.getD r 0 * (xss.getD r []).getD to 0) = _
  rw [su_swap (fun r to => cs.getD r 0 * (xss.getD r []).getD to 0), su_list cs, hl]
  refine su_congr fun r hr => ?_
  rw [su_mul]
  have hx : xss.getD r [] ∈ xss := by
    rw [List.getD_eq_getElem?_getD, List.getElem?_eq_getElem hr]
    exact List.getElem_mem hr
  obtain ⟨h1, _, h3⟩ := hs _ hx
  rw [su_list, h1] at h3
  rw [h3]
  grind
theorem getD_ok {P : Rat → Prop} {xs : List Rat} (h0 : P 0) (h : ∀ x ∈ xs, P x) (i : Nat) : P (xs.getD i 0) := by
  rw [List.getD_eq_getElem?_getD]
  by_cases hi : i < xs.length
  · rw [List.getElem?_eq_getElem hi]
    exact h _ (List.getElem_mem hi)
  · rw [List.getElem?_eq_none (by omega)]
    exact h0
theorem getD_row {P : Rat → Prop} {xss : List (List Rat)} (h0 : P 0) (h : ∀ xs ∈ xss, ∀ x ∈ xs, P x) (r i : Nat) : P ((xss.getD r []).getD i 0) := by
  rw [List.getD_eq_getElem?_getD (l := xss)]
  by_cases hi : r < xss.length
  · rw [List.getElem?_eq_getElem hi]
    exact getD_ok h0 (h _ (List.getElem_mem hi)) i
  · rw [List.getElem?_eq_none (by omega)]
    simpa using h0
theorem walk_ok {xss : List (List Rat)} {N r : Nat} (hs : ∀ xs ∈ xss, Shs xs xss.length) (hm : ∀ xs ∈ xss, ∀ x ∈ xs, Ml N x) (hr : r < xss.length) : ∀ k, sumF 0 (walk xss r k) = 1 ∧ ∀ c ∈ walk xss r k, 0 ≤ c ∧ c ≤ 1 ∧ Ml (N ^ k) c
  | 0 => by
    have e : sumF 0 (walk xss r 0) = 1 := by
      show Su xss.length (fun i => if i = r then 1 else 0) = 1
      have : ∀ n, Su n (fun i => if i = r then (1 : Rat) else 0) = if r < n then 1 else 0 := fun n => by
        induction n with
        | zero => rfl
        | succ n ih =>
          rw [su_succ, ih]
          by_cases h1 : r < n
          · rw [if_pos h1, if_neg (show n ≠ r by omega), if_pos (by omega)]
            grind
          · rw [if_neg h1]
            by_cases h2 : n = r
            · rw [if_pos h2, if_pos (by omega)]
              grind
            · rw [if_neg h2, if_neg (by omega)]
              grind
      rw [this, if_pos hr]
    refine ⟨e, fun c hc => ?_⟩
    obtain ⟨i, _, rfl⟩ := List.mem_map.mp hc
    split
    · exact ⟨by decide, by decide, Ml.one⟩
    · exact ⟨by decide, by decide, Ml.zero⟩
  | k + 1 => by
    obtain ⟨e, h⟩ := walk_ok hs hm hr k
    have e1 : sumF 0 (walk xss r (k + 1)) = 1 := by
      show sumF 0 (step1 xss (walk xss r k)) = 1
      rw [step_sum (walk_len xss r k) hs, e]
    have c0 : ∀ i, 0 ≤ (walk xss r k).getD i 0 := getD_ok (P := fun c => 0 ≤ c) (by decide) fun c hc => (h c hc).1
    have cm : ∀ i, Ml (N ^ k) ((walk xss r k).getD i 0) := getD_ok Ml.zero fun c hc => (h c hc).2.2
    have s0 : ∀ i j, 0 ≤ (xss.getD i []).getD j 0 := getD_row (P := fun c => 0 ≤ c) (by decide) fun xs hx x h => ((hs xs hx).2.1 x h).le.1
    have sm : ∀ i j, Ml N ((xss.getD i []).getD j 0) := getD_row Ml.zero hm
    have nn : ∀ c ∈ walk xss r (k + 1), 0 ≤ c := by
      intro c hc
      obtain ⟨to, _, rfl⟩ := List.mem_map.mp hc
      refine sum_nn fun x hx => ?_
      obtain ⟨i, _, rfl⟩ := List.mem_map.mp hx
      exact Rat.mul_nonneg (c0 i) (s0 i to)
    refine ⟨e1, fun c hc => ⟨nn c hc, ?_, ?_⟩⟩
    · have := le_sum nn c hc
      rw [e1] at this
      exact this
    · obtain ⟨to, _, rfl⟩ := List.mem_map.mp hc
      refine ml_sum fun x hx => ?_
      obtain ⟨i, _, rfl⟩ := List.mem_map.mp hx
      rw [Nat.pow_succ]
      exact (cm i).mul (sm i to)
/-- a bottom for all rows: those of rows multiplied -/
theorem rows_ml {b : Nat} : ∀ {xss : List (List Rat)}, (∀ xs ∈ xss, ∃ d : Nat, 0 < d ∧ d ≤ b ∧ ∀ x ∈ xs, Ml d x) → ∃ N : Nat, 0 < N ∧ N ≤ b ^ xss.length ∧ ∀ xs ∈ xss, ∀ x ∈ xs, Ml N x
  | [], _ => ⟨1, by decide, Nat.le_refl _, nofun⟩
  | xs :: xss, h => by
    obtain ⟨d, d0, db, hd⟩ := h xs (List.mem_cons_self ..)
    obtain ⟨N, n0, nb, hN⟩ := rows_ml fun ys hy => h ys (List.mem_cons_of_mem _ hy)
    refine ⟨d * N, Nat.mul_pos d0 n0, ?_, fun ys hy => ?_⟩
    · rw [List.length_cons, Nat.pow_succ, Nat.mul_comm]
      exact Nat.mul_le_mul nb db
    · rcases List.mem_cons.mp hy with rfl | hy
      · exact fun x hx => (hd x hx).up ⟨N, rfl⟩
      · exact fun x hx => (hN ys hy x hx).up ⟨d, Nat.mul_comm ..⟩
theorem small_ml {x : Rat} {d : Nat} (h0 : 0 < d) (h : d ≤ 12) (hx : Ml d x) : Ml 27720 x := by
  refine hx.up ?_
  have : d = 1 ∨ d = 2 ∨ d = 3 ∨ d = 4 ∨ d = 5 ∨ d = 6 ∨ d = 7 ∨ d = 8 ∨ d = 9 ∨ d = 10 ∨ d = 11 ∨ d = 12 := by omega
  rcases this with rfl | rfl | rfl | rfl | rfl | rfl | rfl | rfl | rfl | rfl | rfl | rfl <;> decide
/-- the machines that the laws draw: their bottoms are small, or there are few steps -/
def Bot (b : Nat) (xss : List (List Rat)) : Prop := ∀ xs ∈ xss, ∃ d : Nat, 0 < d ∧ d ≤ b ∧ ∀ x ∈ xs, Ml d x
theorem walk_small {xss : List (List Rat)} {r k : Nat} (hs : ∀ xs ∈ xss, Shs xs xss.length) (hb : Bot 12 xss) (hr : r < xss.length) (hk : k ≤ 12) : ∀ c ∈ walk xss r k, Sz 245 c := by
  have hm : ∀ xs ∈ xss, ∀ x ∈ xs, Ml 27720 x := fun xs hx x h => by
    obtain ⟨d, d0, db, hd⟩ := hb xs hx
    exact small_ml d0 db (hd x h)
  intro c hc
  obtain ⟨h0, h1, h2⟩ := (walk_ok hs hm hr k).2 c hc
  refine h2.sz (Nat.pow_pos (by decide)) h0 h1 ?_
  exact Nat.lt_of_le_of_lt (Nat.pow_le_pow_right (by decide) hk) (by decide)
theorem walk_great {xss : List (List Rat)} {r k : Nat} (hs : ∀ xs ∈ xss, Shs xs xss.length) (hb : Bot 999 xss) (h6 : xss.length ≤ 6) (hr : r < xss.length) (hk : k ≤ 4) : ∀ c ∈ walk xss r k, Sz 245 c := by
  obtain ⟨N, n0, nb, hN⟩ := rows_ml hb
  intro c hc
  obtain ⟨h0, h1, h2⟩ := (walk_ok hs hN hr k).2 c hc
  refine h2.sz (Nat.pow_pos n0) h0 h1 ?_
  have a1 : N ≤ 999 ^ 6 := Nat.le_trans nb (Nat.pow_le_pow_right (by decide) h6)
  exact Nat.lt_of_le_of_lt (Nat.le_trans (Nat.pow_le_pow_left a1 k) (Nat.pow_le_pow_right (by decide) hk)) (by decide)
/-- behind one step: the room's shares -/
theorem walk_one {xss : List (List Rat)} {r : Nat} {xs : List Rat} (hx : xss[r]? = some xs) (hs : ∀ xs ∈ xss, Shs xs xss.length) : walk xss r 1 = xs := by
  obtain ⟨hr, e⟩ := List.getElem?_eq_some_iff.mp hx
  have hl : xs.length = xss.length := (hs xs (e ▸ List.getElem_mem hr)).1
  show (List.range xss.length).map (dot xss (unit xss.length r)) = xs
  have hd : ∀ to, dot xss (unit xss.length r) to = xs.getD to 0 := fun to => by
    show Su xss.length (fun i => (unit xss.length r).getD i 0 * (xss.getD i []).getD to 0) = _
    have e1 : Su xss.length (fun i => (unit xss.length r).getD i 0 * (xss.getD i []).getD to 0) = Su xss.length (fun i => if i = r then xs.getD to 0 else 0) := su_congr fun i hi => by
      have : (unit xss.length r).getD i 0 = if i = r then 1 else 0 := by
        unfold unit
        simp [List.getD_eq_getElem?_getD, hi]
      rw [this]
      by_cases c : i = r
      · subst c
        rw [if_pos rfl, if_pos rfl, List.getD_eq_getElem?_getD (l := xss), hx]
        grind
      · rw [if_neg c, if_neg c]
        grind
    rw [e1]
    have : ∀ n, Su n (fun i => if i = r then xs.getD to 0 else 0) = if r < n then xs.getD to 0 else 0 := fun n => by
      induction n with
      | zero => rfl
      | succ n ih =>
        rw [su_succ, ih]
        by_cases h1 : r < n
        · rw [if_pos h1, if_neg (show n ≠ r by omega), if_pos (by omega)]
          grind
        · rw [if_neg h1]
          by_cases h2 : n = r
          · rw [if_pos h2, if_pos (by omega)]
            grind
          · rw [if_neg h2, if_neg (by omega)]
            grind
    rw [this, if_pos hr]
  rw [← hl]
  apply List.ext_getElem?
  intro i
  by_cases h : i < xs.length
  · rw [List.getElem?_map, List.getElem?_range h, Option.map_some, hl, hd, List.getD_eq_getElem?_getD, List.getElem?_eq_getElem h]
    rfl
  · rw [List.getElem?_eq_none (by simpa using h), List.getElem?_eq_none (by omega)]
end NF

namespace NF
open PySem PySem.Spec PyProof.Rows L2 Evl
/-! ### "".join of signs -/
theorem foldl_cps : ∀ (cs : List Nat) (acc : Array Nat), ((cs.map fun c => (⟨#[c]⟩ : Str)).foldl (fun (acc : Array Nat) p => acc ++ (Str.ofString "").cps ++ p.cps) acc).toList = acc.toList ++ cs
  | [], acc => by simp
  | c :: cs, acc => by
    rw [List.map_cons, List.foldl_cons, foldl_cps cs]
    have : (Str.ofString "").cps = #[] := by decide +kernel
    simp [this]
theorem glue_cps (cs : List Nat) : (Txt.join (Str.ofString "") (cs.map fun c => ⟨#[c]⟩)).cps.toList = cs := by
  cases cs with
  | nil => rfl
  | cons c cs =>
    show ((cs.map fun c => (⟨#[c]⟩ : Str)).foldl (fun (acc : Array Nat) p => acc ++ (Str.ofString "").cps ++ p.cps) #[c]).toList = _
    rw [foldl_cps]
    rfl
theorem mk_glue {cs : List Nat} (h1 : 1 ≤ cs.length) (h4 : cs.length ≤ 4) (hc : ∀ c ∈ cs, 97 ≤ c ∧ c ≤ 122) : NF.Mk (Txt.join (Str.ofString "") (cs.map fun c => ⟨#[c]⟩)) := by
  have e := glue_cps cs
  have el : (Txt.join (Str.ofString "") (cs.map fun c => ⟨#[c]⟩)).cps.size = cs.length := by
    rw [← Array.length_toList, e]
  exact ⟨by omega, by omega, by rw [e]; exact hc⟩
/-! ### raw steps -/
section
variable {K : PySem.W.Frag} {H H1 H2 : Hp} {σ : L2.St} {ta tb te tl : TE} {v w u : V} {x y : Rat} {E : XK} {D : Ends} {tz t1 t2 : TS} {tc : TT} {tA : TA} {Q : VK} {l st : Addr} {xs ys : List V}
theorem q_raw {i : Nat} (h : te σ H fun x H1 => tz D (σ.set i (some x)) H1) : tSeq (tAsg te (gName i)) tz D σ H := h
theorem s_raw (h : te σ H D.rt) : tRet te D σ H := h
theorem a_raw {i : Nat} (h : te σ H fun x H1 => D.nx (σ.set i (some x)) H1) : tAsg te (gName i) D σ H := h
theorem op_raw {r : R2} (h : ta σ H fun x H1 => tb σ H1 fun y H2 => r x y H2 Q) : tOp r ta tb σ H Q := h
theorem call_raw {sp : Sp} {dvs : List V} (h : tA σ H fun vs H1 => sp (vs ++ dvs) H1 Q E) : tCall sp dvs E tA σ H Q := h
theorem cons_raw {Q : List V → Hp → Prop} (h : ta σ H fun x H1 => tA σ H1 fun xs H2 => Q (x :: xs) H2) : tCons ta tA σ H Q := h
theorem nil_raw {Q : List V → Hp → Prop} (h : Q [] H) : tNil σ H Q := h
theorem c_raw (h : Q v H) : tC v σ H Q := h
theorem v_raw {i : Nat} (e : σ[i]? = some (some v)) (h : Q v H) : tVar i σ H Q := ⟨v, e, h⟩
theorem cb_raw {r : List V → Hp → VK → Prop} (h : tA σ H fun vs H1 => r vs H1 Q) : tCB r tA σ H Q := h
theorem lst_raw (h : tA σ H fun xs H1 => xs.length ≤ sizeLine ∧ ∀ p, H1 p = none → Q (.ref p) (upd H1 p (.lst xs))) : tLst tA σ H Q := h
theorem if_raw (h : tc σ H fun b H1 => if b = true then t1 { D with nx := tz D } σ H1 else t2 { D with nx := tz D } σ H1) : tSeq (tIfS tc t1 t2) tz D σ H := h
theorem test_raw {Q : Bool → Hp → Prop} (h : te σ H fun x H' => ∃ k, x = .bl k ∧ Q k H') : tTest te σ H Q := h
theorem not_raw {Q : Bool → Hp → Prop} (h : tc σ H fun b H1 => Q (!b) H1) : tNot tc σ H Q := h
theorem app_eq {Q : Hp → Prop} : (fun (y : V) (H2 : Hp) => rAppend (.ref l) [y] H2 fun _ H3 => Q H3) = fun y H2 => ∃ xs, H2 l = some (.lst xs) ∧ xs.length < sizeLine ∧ Q (upd H2 l (.lst (xs ++ [y]))) := by
  funext y H2
  apply propext
  constructor
  · rintro ⟨l', xs, y', e1, e2, h1, h2, h3⟩
    cases e1
    cases e2
    exact ⟨xs, h1, h2, h3⟩
  · rintro ⟨xs, h1, h2, h3⟩
    exact ⟨l, xs, y, rfl, rfl, h1, h2, h3⟩
theorem qapp_raw {i : Nat} (e : σ[i]? = some (some (.ref l))) (hl : H l = some (.lst xs)) (h : te σ H fun y H2 => ∃ xs, H2 l = some (.lst xs) ∧ xs.length < sizeLine ∧ tz D σ (upd H2 l (.lst (xs ++ [y])))) : tSeq (tDrop (tBM K "list" rAppend (tVar i) (tCons te tNil))) tz D σ H := by
  refine ⟨_, e, .inl ⟨rfl, xs, SqL.of hl⟩, ?_⟩
  show te σ H fun y H2 => rAppend (.ref l) [y] H2 fun _ H3 => tz D σ H3
  rw [app_eq]
  exact h
theorem sapp_raw {i : Nat} (e : σ[i]? = some (some (.ref l))) (hl : H l = some (.lst xs)) (h : te σ H fun y H2 => ∃ xs, H2 l = some (.lst xs) ∧ xs.length < sizeLine ∧ D.nx σ (upd H2 l (.lst (xs ++ [y])))) : tDrop (tBM K "list" rAppend (tVar i) (tCons te tNil)) D σ H :=
  qapp_raw (K := K) (tz := fun D => D.nx) (D := D) e hl h
theorem sz_lt' {n : Nat} (h : n < 100000) : n < sizeLine := Nat.lt_of_lt_of_le h (by decide)
theorem q_appF {i : Nat} (e : σ[i]? = some (some (.ref l))) (hl : H l = some (.lst xs)) (h : EvF K te σ H x) (hx : xs.length < 100000) (k : ∀ u H1, Ex H H1 → Rt K H1 u x → tz D σ (upd H1 l (.lst (xs ++ [u])))) : tSeq (tDrop (tBM K "list" rAppend (tVar i) (tCons te tNil))) tz D σ H :=
  qapp_raw e hl (h H (Ex.refl H) _ fun u H1 e1 r => ⟨xs, e1 _ _ hl, sz_lt' hx, k u H1 e1 r⟩)
theorem s_appF {i : Nat} (e : σ[i]? = some (some (.ref l))) (hl : H l = some (.lst xs)) (h : EvF K te σ H x) (hx : xs.length < 100000) (k : ∀ u H1, Ex H H1 → Rt K H1 u x → D.nx σ (upd H1 l (.lst (xs ++ [u])))) : tDrop (tBM K "list" rAppend (tVar i) (tCons te tNil)) D σ H :=
  sapp_raw e hl (h H (Ex.refl H) _ fun u H1 e1 r => ⟨xs, e1 _ _ hl, sz_lt' hx, k u H1 e1 r⟩)
theorem el_cat (ha : EvL ta σ H xs) (hb : EvL tb σ H ys) (hl : xs.length + ys.length ≤ 100000) : EvL (tOp rCat ta tb) σ H (xs ++ ys) := fun H1 e Q q =>
  ha H1 e _ fun p H2 np e2 hp => hb H2 (e.trans e2) _ fun p' H3 np' e3 hp' => ⟨p, p', xs, ys, rfl, rfl, e3 _ _ hp, hp', Nat.le_trans hl (by decide), fun r nr => q r _ (fresh_back (e2.trans e3) nr) ((e2.trans e3).trans (Ex.new nr)) upd_same⟩
/-! ### fractions in lists -/
theorem RtAll.append : ∀ {vs ws : List V} {xs ys : List Rat}, RtAll K H vs xs → RtAll K H ws ys → RtAll K H (vs ++ ws) (xs ++ ys)
  | _, _, _, _, .nil, h => h
  | _, _, _, _, .cons r t, h => .cons r (RtAll.append t h)
theorem RtAll.drop : ∀ {vs : List V} {xs : List Rat} (k : Nat), RtAll K H vs xs → RtAll K H (vs.drop k) (xs.drop k)
  | _, _, 0, h => h
  | _, _, k + 1, .nil => .nil
  | _, _, k + 1, .cons _ t => RtAll.drop k t
theorem RtAll.take : ∀ {vs : List V} {xs : List Rat} (k : Nat), RtAll K H vs xs → RtAll K H (vs.take k) (xs.take k)
  | _, _, 0, _ => .nil
  | _, _, k + 1, .nil => .nil
  | _, _, k + 1, .cons r t => .cons r (RtAll.take k t)
theorem cut_rot {α : Type} {k : Nat} : True := trivial
theorem cutV_hi {vs : List V} {k : Nat} (h : k ≤ vs.length) : cutV vs (some (k : Int)) none = vs.drop k := by
  unfold cutV HT.sIx
  simp only
  rw [if_neg (by omega), Int.toNat_natCast, Nat.min_eq_left h, ← List.length_drop, List.take_length]
theorem cutV_lo {vs : List V} {k : Nat} (h : k ≤ vs.length) : cutV vs none (some (k : Int)) = vs.take k := by
  unfold cutV HT.sIx
  simp only
  rw [if_neg (by omega), Int.toNat_natCast, Nat.min_eq_left h]
  simp
/-! ### a heap without some of its objects -/
def Off (S : List Addr) (H : Hp) : Hp := fun b => if b ∈ S then none else H b
theorem Off.ex {S : List Addr} (h : ∀ b o, b ∉ S → H b = some o → H1 b = some o) : Ex (Off S H) (Off S H1) := fun b o e => by
  unfold Off at e ⊢
  by_cases c : b ∈ S
  · rw [if_pos c] at e
    cases e
  · rw [if_neg c] at e ⊢
    exact h b o c e
theorem Off.le {S : List Addr} : Ex (Off S H) H := fun b o e => by
  unfold Off at e
  by_cases c : b ∈ S
  · rw [if_pos c] at e
    cases e
  · rw [if_neg c] at e
    exact e
theorem Off.lst {S : List Addr} {a : Addr} {us : List V} (n : a ∉ S) (h : SqL K H a us) : SqL K (Off S H) a us := by
  have e : ∀ {o}, H a = some o → Off S H a = some o := fun h => by
    unfold Off
    rw [if_neg n]
    exact h
  rcases h with (h | ⟨ob, h⟩) | h
  · exact .inl (.inl (e h))
  · exact .inl (.inr ⟨ob, e h⟩)
  · exact .inr h
theorem Off.rt {S : List Addr} (hS : ∀ b ∈ S, ∃ xs, H b = some (.lst xs)) {vs : List V} {xs : List Rat} (h : RtAll K H vs xs) : RtAll K (Off S H) vs xs := h.sq fun {a zs} ht => by
  have e : ∀ {o}, (∀ xs, o ≠ .lst xs) → H a = some o → Off S H a = some o := fun hn h => by
    unfold Off
    rw [if_neg fun c => ?_]
    · exact h
    · obtain ⟨xs, hx⟩ := hS a c
      rw [hx] at h
      cases h
      exact hn _ rfl
  rcases ht with (h | ⟨ob, h⟩) | h
  · exact .inl (.inl (e (fun _ z => by cases z) h))
  · exact .inl (.inr ⟨ob, e (fun _ z => by cases z) h⟩)
  · exact .inr h
/-! ### what stays where the state changes -/
theorem SqL.exS {a : Addr} {us : List V} (e : ExS st H H1) (hs : Bg st H) (hn : ∀ g m : Int, us ≠ [.int g, .int m]) (h : SqL K H a us) : SqL K H1 a us := by
  obtain ⟨g, m, hs⟩ := hs
  rcases h with (h | ⟨ob, h⟩) | h
  · exact .inl (.inl (e _ _ (fun z => by rw [z, hs] at h; cases h; exact hn _ _ rfl) h))
  · exact .inl (.inr ⟨ob, e _ _ (ne_of h hs (fun z => by cases z)) h⟩)
  · exact .inr h
theorem RtAll.noInt {us : List V} {xs : List Rat} {g m : Int} (h : RtAll K H us xs) : us ≠ [.int g, .int m] := by
  rintro rfl
  cases h with
  | cons r _ =>
    obtain ⟨p, e, _⟩ := r
    cases e
theorem Rows.exS (e : ExS st H H1) (hs : Bg st H) : ∀ {vs : List V} {xss : List (List Rat)}, Rows K H vs xss → Rows K H1 vs xss
  | _, _, .nil => .nil
  | _, _, .cons h r t => .cons (SqL.exS e hs (fun _ _ => r.noInt) h) (r.exS e hs) (Rows.exS e hs t)
theorem Rows.noInt {us : List V} {xss : List (List Rat)} {g m : Int} (h : Rows K H us xss) : us ≠ [.int g, .int m] := by
  rintro rfl
  cases h
theorem strs_noInt {zs : List Str} {g m : Int} : zs.map V.str ≠ [.int g, .int m] := by
  intro h
  cases zs with
  | nil => cases h
  | cons z zs => cases h
theorem MaAt.exS {C m : Addr} {zs : List Str} {xss : List (List Rat)} (h : MaAt K C H m zs xss) (e : ExS st H H1) (hs : Bg st H) : MaAt K C H1 m zs xss := by
  obtain ⟨dx, am, as, us, h1, h2, h3, h4⟩ := h
  obtain ⟨g, n, hst⟩ := id hs
  refine ⟨dx, am, as, us, e _ _ (ne_of h1 hst (fun z => by cases z)) h1, e _ _ (fun z => ?_) h2, e _ _ (fun z => ?_) h3, h4.exS e hs⟩
  · rw [z, hst] at h2
    have h2' := HO.lst.inj (Option.some.inj h2)
    exact strs_noInt h2'.symm
  · rw [z, hst] at h3
    have h3' := HO.lst.inj (Option.some.inj h3)
    exact h4.noInt h3'.symm
theorem Bg.new {p : Addr} {o : HO} (h : Bg st H) (np : H p = none) : Bg st (upd H p o) := h.mono (Ex.new np)
theorem Bg.upd {p : Addr} {o : HO} (h : Bg st H) (n : p ≠ st) : Bg st (upd H p o) := by
  obtain ⟨g, m, h⟩ := h
  exact ⟨g, m, by rw [upd_ne n.symm]; exact h⟩
/-! ### what the laws draw -/
def spWord : Sp := fun vs H Q _ => ∃ st : Addr, vs = [.ref st] ∧ Bg st H ∧ ∀ z H', NF.Mk z → Bg st H' → ExS st H H' → Q (.str z) H'
def spGoes (K : PySem.W.Frag) : Sp := fun vs H Q _ => ∃ (st : Addr) (n wide : Nat), vs = [.ref st, .int (n : Int), .int (wide : Int)] ∧ Bg st H ∧ 1 ≤ n ∧ n ≤ 6 ∧ 6 ≤ wide ∧ wide ≤ 999 ∧
  ∀ p us xs H', H p = none → Bg st H' → ExS st H H' → H' p = some (.lst us) → RtAll K H' us xs → Shs xs n → (∃ d : Nat, 0 < d ∧ d ≤ wide ∧ ∀ x ∈ xs, Ml d x) → Q (.ref p) H'
/-- names and rows of a machine in the heap -/
def KitAt (K : PySem.W.Frag) (H : Hp) (a b : Addr) (zs : List Str) (us : List V) (xss : List (List Rat)) : Prop := H a = some (.lst (zs.map V.str)) ∧ H b = some (.lst us) ∧ Rows K H us xss ∧ Good zs xss
theorem KitAt.mono {a b : Addr} {zs : List Str} {us : List V} {xss : List (List Rat)} (h : KitAt K H a b zs us xss) (e : Ex H H1) : KitAt K H1 a b zs us xss := ⟨e _ _ h.1, e _ _ h.2.1, h.2.2.1.mono e, h.2.2.2⟩
theorem KitAt.exS {a b : Addr} {zs : List Str} {us : List V} {xss : List (List Rat)} (h : KitAt K H a b zs us xss) (e : ExS st H H1) (hs : Bg st H) : KitAt K H1 a b zs us xss := by
  obtain ⟨h1, h2, h3, h4⟩ := h
  obtain ⟨g, n, hst⟩ := id hs
  refine ⟨e _ _ (fun z => ?_) h1, e _ _ (fun z => ?_) h2, h3.exS e hs, h4⟩
  · rw [z, hst] at h1
    exact strs_noInt (HO.lst.inj (Option.some.inj h1)).symm
  · rw [z, hst] at h2
    exact h3.noInt (HO.lst.inj (Option.some.inj h2)).symm
def spKit (K : PySem.W.Frag) : Sp := fun vs H Q _ => ∃ (st : Addr) (wide : Nat), vs = [.ref st, .int 6, .int (wide : Int)] ∧ Bg st H ∧ 6 ≤ wide ∧ wide ≤ 999 ∧
  ∀ p a b zs us xss H', H p = none → H a = none → H b = none → Bg st H' → ExS st H H' → H' p = some (.tup [.ref a, .ref b]) → KitAt K H' a b zs us xss → Bot wide xss → Q (.ref p) H'
theorem word_ev {i : Nat} (h1 : σ[i]? = some (some (.ref st))) (hs : Bg st H) (q : ∀ z H', NF.Mk z → Bg st H' → ExS st H H' → Q (.str z) H') : tCall spWord [] E (tCons (tVar i) tNil) σ H Q := ⟨_, h1, st, rfl, hs, q⟩
theorem goes_ev {i j k n wide : Nat} (h1 : σ[i]? = some (some (.ref st))) (h2 : σ[j]? = some (some (.int (n : Int)))) (h3 : σ[k]? = some (some (.int (wide : Int)))) (hs : Bg st H) (n1 : 1 ≤ n) (n6 : n ≤ 6) (w6 : 6 ≤ wide) (w9 : wide ≤ 999)
    (q : ∀ p us xs H', H p = none → Bg st H' → ExS st H H' → H' p = some (.lst us) → RtAll K H' us xs → Shs xs n → (∃ d : Nat, 0 < d ∧ d ≤ wide ∧ ∀ x ∈ xs, Ml d x) → Q (.ref p) H') : tCall (spGoes K) [] E (tCons (tVar i) (tCons (tVar j) (tCons (tVar k) tNil))) σ H Q :=
  ⟨_, h1, _, h2, _, h3, st, n, wide, rfl, hs, n1, n6, w6, w9, q⟩
end
/-! ### the mathematics of a row -/
theorem shr_div {p : Int} {b : Nat} (h0 : 0 ≤ p) (h1 : p ≤ b) (hb : 0 < b) (h9 : b ≤ 999) : Shr (Rat.divInt p b) := by
  have h := div_eq p hb
  have hb' : (0 : Rat) < (b : Rat) := by exact_mod_cast hb
  have p0 : (0 : Rat) ≤ (p : Rat) := by exact_mod_cast h0
  have p1 : (p : Rat) ≤ (b : Rat) := by
    have : (p : Rat) ≤ ((b : Int) : Rat) := by exact_mod_cast h1
    exact this
  have x0 : 0 ≤ Rat.divInt p b := by
    rw [← Rat.num_nonneg, Rat.num_divInt]
    apply Int.ediv_nonneg
    · rw [Int.sign_eq_one_of_pos (by omega)]
      omega
    · omega
  have x1 : Rat.divInt p b ≤ 1 := by
    apply Rat.not_lt.mp
    intro c
    have : (1 : Rat) * b < Rat.divInt p b * b := Rat.mul_lt_mul_of_pos_right c hb'
    grind
  obtain ⟨a, c⟩ := num01 x0 x1
  exact ⟨a, c, by have := den_le (t := p) hb; omega⟩
end NF

namespace NF
open PySem PySem.Spec PyProof.Rows L2 Evl
/-! ### lists of fractions compared -/
theorem eqv_rts : ∀ (xs : List Rat), PyData.eqvAll (xs.map fd) (xs.map fd) = true
  | [] => by simp [PyData.eqvAll]
  | x :: xs => by
    have := eqv_rts xs
    have e : PyData.eqv (fd x) (fd x) = true := by
      unfold fd
      rw [eqv_rt]
      simp
    simp [PyData.eqvAll, this, e]
theorem eqv_rtL (xs : List Rat) : PyData.eqv (.list (xs.map fd)) (.list (xs.map fd)) = true := by
  simp [PyData.eqv, eqv_rts]
theorem shaped_rts (xs : List Rat) : SeqAt.shaped (.list (xs.map fd)) = true := by
  have h1 : PyData.canLayAll0 (xs.map fd) = true := by
    induction xs with
    | nil => rfl
    | cons x xs ih =>
      rw [List.map_cons]
      simp only [PyData.canLayAll0, ih, Bool.and_true]
      rfl
  have h2 : (PyData.list (xs.map fd)).depth ≤ 2 := by
    induction xs with
    | nil => show 1 ≤ 2; decide
    | cons x xs ih =>
      have := ih (by simp only [List.map_cons, PyData.canLayAll0, Bool.and_eq_true] at h1; exact h1.2)
      have hx : (fd x).depth ≤ 1 := by show 1 ≤ 1; decide
      simp only [PyData.depth, List.map_cons, PyData.depthAll] at *
      omega
  unfold SeqAt.shaped
  simp [PyData.canLay0, h1]
  omega
section
variable {K : PySem.W.Frag} {H H1 H2 : Hp} {σ : L2.St} {ta tb te tl : TE} {v w u : V} {x y : Rat} {E : XK} {D : Ends} {tz t1 t2 : TS} {tc : TT} {tA : TA} {Q : VK} {l st C m : Addr} {xs ys : List Rat} {zs : List Str} {xss : List (List Rat)}
/-- a list of fractions, old or new -/
def EvLs (K : PySem.W.Frag) (te : TE) (σ : L2.St) (H : Hp) (xs : List Rat) : Prop := ∀ H1, Ex H H1 → ∀ Q : VK, (∀ p us H2, Ex H1 H2 → SqL K H2 p us → RtAll K H2 us xs → Q (.ref p) H2) → te σ H1 Q
theorem EvR.ls (h : EvR K te σ H xs) : EvLs K te σ H xs := fun H1 e Q q => h H1 e _ fun p us H2 _ e2 hp hr => q p us H2 e2 (SqL.of hp) hr
theorem els_of {a : Addr} {us : List V} (h : Ev te σ H (.ref a)) (ha : SqL K H a us) (hr : RtAll K H us xs) : EvLs K te σ H xs := fun H1 e Q q =>
  h H1 e _ fun H2 e2 => q a us H2 e2 (ex_l (e.trans e2) ha) (hr.mono (e.trans e2))
theorem els_row {a : Addr} {us : List V} {j : Nat} (h1 : Ev ta σ H (.ref a)) (h2 : Ev tb σ H (.int (j : Int))) (ha : SqL K H a us) (hr : Rows K H us xss) (hj : xss[j]? = some xs) : EvLs K (tOp (rIxL K) ta tb) σ H xs := by
  obtain ⟨p, ws, h3, h4, h5⟩ := ev_row h1 h2 ha hr hj
  exact els_of h3 h4 h5
theorem ev_neLs (ha : EvLs K ta σ H xs) (hb : EvLs K tb σ H xs) : Ev (tOp (rNeD K) ta tb) σ H (.bl false) := fun H1 e Q q =>
  ha H1 e _ fun p us H2 e2 hp hr => hb H2 (e.trans e2) _ fun p' us' H3 e3 hp' hr' => ⟨_, _, .lst (ex_l e3 hp) (dp_rts (hr.mono e3)), .lst hp' (dp_rts hr'), shaped_rts _, shaped_rts _, by
    rw [eqv_rtL]
    exact q H3 (e2.trans e3)⟩
/-- [fraction for i in range(n)] -/
theorem er_lcR {n j : Nat} {vs : List Nat} (h : EvA tA σ H [.int (n : Int)]) (hl : xs.length = n) (hn : n ≤ 1000) (hw : ∀ x, wipe ((wipe σ vs).set j (some x)) vs = wipe σ vs)
    (he : ∀ (i : Nat) (x : Rat) H1, Ex H H1 → xs[i]? = some x → EvF K te ((wipe σ vs).set j (some (.int (i : Int)))) H1 x) : EvR K (tLc (iRng1 tA) (gName j) tYes te vs) σ H xs := fun H0 e Q q => h H0 e _ fun H1 e1 => ⟨(n : Int), rfl, by omega, by omega, fun Dl hD => by
  have E1 := e.trans e1
  refine lc_range (lo := 0) (n := (n : Int).toNat) (fun i G => ∃ us, H1 Dl = none ∧ Ex H1 G ∧ G Dl = some (.lst us) ∧ us.length = i ∧ RtAll K G us (xs.take i)) ⟨[], hD, Ex.new hD, upd_same, rfl, .nil⟩ ?_ ?_
  · rintro i G hi ⟨us, n1, x1, hDl, hl1, hR⟩
    rw [Int.toNat_natCast] at hi
    have hx : xs[i]? = some xs[i] := List.getElem?_eq_getElem (by omega)
    refine ⟨hw _, ?_⟩
    show te _ G _
    have hz : (0 : Int) + (i : Int) = (i : Int) := Int.zero_add _
    rw [hz]
    refine he i xs[i] G (E1.trans x1) hx G (Ex.refl G) _ fun u G2 x2 ru => ?_
    have hD2 := x2 _ _ hDl
    refine ⟨us, hD2, Nat.lt_of_lt_of_le (show us.length < 1001 by omega) (by decide), us ++ [u], n1, fun b o hb => ?_, upd_same, by simp [hl1], ?_⟩
    · rw [upd_ne (ne_of_none hb n1)]
      exact (x1.trans x2) _ _ hb
    · rw [List.take_add_one, hx]
      exact ((hR.mono x2).push ru).exLst Exs.upd hD2
  · rintro G ⟨us, n1, x1, hDl, hl1, hR⟩
    rw [Int.toNat_natCast, ← hl, List.take_length] at hR
    exact q Dl us G (fresh_back e1 n1) (e1.trans x1) hDl hR⟩
theorem asg_raw {g : TG} (h : te σ H fun x H1 => g x σ H1 fun σ2 H2 => tz D σ2 H2) : tSeq (tAsg te g) tz D σ H := h
theorem drop_raw (h : te σ H fun _ H1 => tz D σ H1) : tSeq (tDrop te) tz D σ H := h
theorem bag_ev {i j : Nat} {a : Addr} {ns : List Int} {k : Nat} (h1 : σ[i]? = some (some (.ref a))) (h2 : σ[j]? = some (some (.int (k : Int)))) (ha : SqL K H a (ns.map V.int)) (hl : ns.length ≤ 1000) (hk : k ≤ 1000) (q : ∀ st H', H st = none → Ex H H' → Bg st H' → Q (.ref st) H') :
    tCall (spBag K) [] E (tCons (tVar i) (tCons (tVar j) tNil)) σ H Q := ⟨_, h1, _, h2, a, ns, k, rfl, ha, hl, hk, q⟩
theorem kit_ev {i wide : Nat} (h1 : σ[i]? = some (some (.ref st))) (hb : Ev tb σ H (.int (wide : Int))) (hs : Bg st H) (w6 : 6 ≤ wide) (w9 : wide ≤ 999)
    (q : ∀ p a b zs us xss H', H p = none → H a = none → H b = none → Bg st H' → ExS st H H' → H' p = some (.tup [.ref a, .ref b]) → KitAt K H' a b zs us xss → Bot wide xss → Q (.ref p) H') : tCall (spKit K) [] E (tCons (tVar i) (tCons (tC (.int 6)) (tCons tb tNil))) σ H Q :=
  ⟨_, h1, hb H (Ex.refl H) _ fun H1 e1 => ⟨st, wide, rfl, hs.mono e1, w6, w9, fun p a b zs us xss H' np na nb hs' x' hp hk hB => q p a b zs us xss H' (fresh_back e1 np) (fresh_back e1 na) (fresh_back e1 nb) hs' ((ExS.of e1).trans x') hp hk hB⟩⟩
theorem ev_min2 {i j : Int} (ha : Ev ta σ H (.int i)) (hb : Ev tb σ H (.int j)) : Ev (tCB (fun xs H Q => ∃ i j, xs = [V.int i, V.int j] ∧ Q (.int (if j < i then j else i)) H) (tCons ta (tCons tb tNil))) σ H (.int (if j < i then j else i)) := fun H1 e Q q =>
  ha H1 e _ fun H2 e2 => hb H2 (e.trans e2) _ fun H3 e3 => ⟨i, j, rfl, q H3 (e2.trans e3)⟩
theorem ev_intB {b : Bool} (h : Ev ta σ H (.bl b)) : Ev (tCB (fun xs H Q => (∃ i, xs = [V.int i] ∧ Q (.int i) H) ∨ ∃ k, xs = [V.bl k] ∧ Q (.int (if k = true then 1 else 0)) H) (tCons ta tNil)) σ H (.int (if b = true then 1 else 0)) := fun H1 e Q q =>
  h H1 e _ fun H2 e2 => .inr ⟨b, rfl, q H2 e2⟩
theorem Ex.updN {p : Addr} {o : HO} (e : Ex H H1) (n : H p = none) : Ex H (upd H1 p o) := fun b ob hb => by
  rw [upd_ne (ne_of_none hb n)]
  exact e _ _ hb
end
/-! ### C(..), f(a, k = v) -/
structure CalK (P : Program) (w : World) (K : PySem.W.Frag) (mg : Str → Option Value) (base : Heap) (k : Nat) (x : Str) (C : Addr) (ps : List Str) (sp : Sp) : Prop where
  ex : ∃ (f : Addr) (fd : FuncData), L2.Mk K C f ∧ FnOk P w K mg base CX0 k f fd ps sp ∧ Binds K fd ps []
  nm : mg x = some (.ref C)
theorem pe_calK {X : Cx} {j k : Nat} {x : Str} {C : Addr} {ps : List Str} {sp : Sp} {e : Expr} {es : List Expr} {t : TA} {p pos : Pos} (M : CalK X.prog X.w X.K X.mg X.base k x C ps sp) (hr : Room j X.A) (hk : k + 1 ≤ j) (hg : Gl X x)
    (ha : PA X (e :: es) t) (hdb : (x == ("__debug__" : Str)) = false := by decide) (he : starEach (e :: es) X.env = (false, eval e X.env) :: starEach es X.env := by rfl) (hpl : (backTo pos (starEach es X.env)).any (·.1) = false := by rfl) :
    PE X (.Call (.Name x p) (e :: es) [] pos) (tMake C sp [] E0 t) := by
  obtain ⟨f, fd, m, F, b⟩ := M.ex
  exact pe_make m F (hr.mono hk) hg M.nm b .nil pass0 ha hdb he hpl
structure CaN (P : Program) (w : World) (K : PySem.W.Frag) (mg : Str → Option Value) (base : Heap) (k : Nat) (x : Str) (ps : List Str) (n : Nat) (ks : List Str) (gV : List V → List V → List V) (sp : Sp) : Prop where
  ex : ∃ (f : Addr) (fd : FuncData) (g : List Value → List Value → List Value), FnOk P w K mg base CX0 k f fd ps sp ∧ mg x = some (.ref f) ∧ PySem.W.keepIn K (.ref f) = true ∧ KBn K fd ps n ks g gV
theorem pe_caN {X : Cx} {j k n : Nat} {x : Str} {ps ks : List Str} {gV : List V → List V → List V} {sp : Sp} {e : Expr} {es : List Expr} {kws : List Keyword} {t tk : TA} {p pos : Pos} (C : CaN X.prog X.w X.K X.mg X.base k x ps n ks gV sp) (hr : Room j X.A) (hk : k ≤ j) (hg : Gl X x)
    (ha : PA X (e :: es) t) (hkw : PK X kws tk) (hall : ((backToKw pos (keywordEach kws X.env)).all (·.1.isSome)) = true := by rfl) (hks : (backToKw pos (keywordEach kws X.env)).filterMap (·.1) = ks := by rfl) (hdb : (x == ("__debug__" : Str)) = false := by decide)
    (he : starEach (e :: es) X.env = (false, eval e X.env) :: starEach es X.env := by rfl) (hpl : ((backTo pos (starEach (e :: es) X.env)).any (·.1) || (backToKw pos (keywordEach kws X.env)).any (·.1.isNone)) = false := by rfl) :
    PE X (.Call (.Name x p) (e :: es) kws pos) (tCallN n ks.length sp gV E0 t tk) := by
  obtain ⟨f, fd, g, F, hm, kp, b⟩ := C.ex
  exact pe_callN F (hr.mono hk) hg hm kp b pass0 ha hkw hall hks hdb he hpl
end NF

namespace WL
open PySem PySem.Spec PyProof.Rows L2 Evl NF
section
variable {K : PySem.W.Frag} {W0 W W1 W2 W3 : Wd} {M : Addr → Prop} {σ σ2 : L2.St} {ρ ρ2 : List Sl} {i j k n : Nat} {P P1 P2 P3 : MP} {Ps Qs : List MP} {ta tb tc td te tl : TE} {tt t1 t2 : TT} {Ψ : Sl → Prop} {v w u : V} {R : Post} {t tu tw tz : TS} {s : Sl} {tA tr : TA} {b b1 b2 b3 : Bool} {r r1 r2 r3 : R2}
/-! ### kinds -/
abbrev int (i : Int) : MP := sc (.int i)
abbrev str (z : Str) : MP := sc (.str z)
abbrev tru (b : Bool) : MP := sc (.bl b)
abbrev rats (K : PySem.W.Frag) (xs : List Rat) : MP := lst K (xs.map (rat K))
abbrev rows (K : PySem.W.Frag) (xss : List (List Rat)) : MP := lst K (xss.map (rats K))
abbrev txts (K : PySem.W.Frag) (zs : List Str) : MP := lst K (zs.map str)
abbrev nums (K : PySem.W.Frag) (ns : List Int) : MP := lst K (ns.map int)
theorem al_int {H : Hp} : ∀ {ns : List Int} {vs : List V}, Al H vs (ns.map int) → vs = ns.map V.int
  | [], _, .nil => rfl
  | _ :: _, _, .cons h t => by
    rw [h, al_int t]
    rfl
theorem al_str {H : Hp} : ∀ {ns : List Str} {vs : List V}, Al H vs (ns.map str) → vs = ns.map V.str
  | [], _, .nil => rfl
  | _ :: _, _, .cons h t => by
    rw [h, al_str t]
    rfl
theorem al_bl {H : Hp} : ∀ {ns : List Bool} {vs : List V}, Al H vs (ns.map tru) → vs = ns.map V.bl
  | [], _, .nil => rfl
  | _ :: _, _, .cons h t => by
    rw [h, al_bl t]
    rfl
theorem al_of_int {H : Hp} : ∀ (ns : List Int), Al H (ns.map V.int) (ns.map int)
  | [] => .nil
  | _ :: ns => .cons rfl (al_of_int ns)
theorem al_of_str {H : Hp} : ∀ (ns : List Str), Al H (ns.map V.str) (ns.map str)
  | [] => .nil
  | _ :: ns => .cons rfl (al_of_str ns)
theorem al_rat {H : Hp} : ∀ {xs : List Rat} {vs : List V}, Al H vs (xs.map (rat K)) → RtAll K H vs xs
  | [], _, .nil => .nil
  | _ :: _, _, .cons h t => .cons h (al_rat t)
theorem al_of_rat {H : Hp} : ∀ {xs : List Rat} {vs : List V}, RtAll K H vs xs → Al H vs (xs.map (rat K))
  | [], _, .nil => .nil
  | _ :: _, _, .cons h t => .cons h (al_of_rat t)
theorem al_rows {H : Hp} : ∀ {xss : List (List Rat)} {vs : List V}, Al H vs (xss.map (rats K)) → Rows K H vs xss
  | [], _, .nil => .nil
  | _ :: _, _, .cons h t => by
    obtain ⟨p, us, rfl, h1, h2⟩ := h
    exact .cons h1 (al_rat h2) (al_rows t)
theorem map_at {α : Type} {f : α → MP} {xs : List α} {i : Nat} {P : MP} (h : (xs.map f)[i]? = some P) : ∃ x, xs[i]? = some x ∧ P = f x := by
  rw [List.getElem?_map] at h
  cases c : xs[i]? with
  | none => rw [c] at h; cases h
  | some x => rw [c] at h; cases h; exact ⟨x, rfl, rfl⟩
theorem at_map {α : Type} {f : α → MP} {xs : List α} {i : Nat} {x : α} (h : xs[i]? = some x) : (xs.map f)[i]? = some (f x) := by rw [List.getElem?_map, h]; rfl
/-! ### more tests -/
theorem d_chain3 (ha : D ρ ta P) (hb : D ρ tb P1) (h1 : OpV r1 P P1 (tru b1)) (hc : b1 = true → D ρ tc P2) (h2 : b1 = true → OpV r2 P1 P2 (tru b2)) (hd : b1 = true → b2 = true → D ρ td P3) (h3 : b1 = true → b2 = true → OpV r3 P2 P3 (tru b3)) : D ρ (tChain3 r1 r2 r3 ta tb tc td) (tru (b1 && (b2 && b3))) := fun W0 M W σ e Q k =>
  ha W0 M W σ e _ fun x W1 g1 px => hb W0 M W1 σ (e.go g1) _ fun y W2 g2 py => h1 W2.r W2.h x y g2.sub (P.mono g2.le.r px) py _ fun v pv => by
    cases pv
    refine ⟨b1, rfl, ?_⟩
    have e2 := (e.go g1).go g2
    cases b1 with
    | false => exact k _ W2 (g1.trans g2) rfl
    | true =>
      refine hc rfl W0 M W2 σ e2 _ fun z W3 g3 pz => h2 rfl W3.r W3.h y z g3.sub (P1.mono g3.le.r py) pz _ fun v pv => ?_
      cases pv
      refine ⟨b2, rfl, ?_⟩
      cases b2 with
      | false => exact k _ W3 ((g1.trans g2).trans g3) rfl
      | true => exact hd rfl rfl W0 M W3 σ (e2.go g3) _ fun u W4 g4 pu => h3 rfl rfl W4.r W4.h z u g4.sub (P2.mono g4.le.r pz) pu _ fun v pv => k v W4 (((g1.trans g2).trans g3).trans g4) pv
theorem T.is (h : D ρ te (tru b)) : T ρ (tTest te) fun c => c = b := T.of h rfl
theorem T.isB (h : D ρ te (tru b)) : T ρ (tB te) fun c => c = b := T.of h rfl
/-- two tests by what they come to -/
theorem t_or2 (h1 : T ρ t1 fun c => c = b1) (h2 : b1 = false → T ρ t2 fun c => c = b2) : T ρ (tOr t1 t2) fun c => c = (b1 || b2) := t_or (h1.mono fun c z => by
  subst z
  cases c with
  | true => rfl
  | false => exact (h2 rfl).mono fun c z => by subst z; rfl)
theorem t_and2 (h1 : T ρ t1 fun c => c = b1) (h2 : b1 = true → T ρ t2 fun c => c = b2) : T ρ (tAnd t1 t2) fun c => c = (b1 && b2) := t_and (h1.mono fun c z => by
  subst z
  cases c with
  | false => rfl
  | true => exact (h2 rfl).mono fun c z => by subst z; rfl)
theorem t_not1 (h1 : T ρ t1 fun c => c = b1) : T ρ (tNot t1) fun c => c = !b1 := t_not (h1.mono fun c z => by subst z; rfl)
theorem T.eq (h : T ρ tt fun c => c = b1) (e : b1 = b) : T ρ tt fun c => c = b := e ▸ h
/-- an if by what its test comes to -/
theorem g_ifb (h : T ρ tt fun c => c = b) (h1 : b = true → G tu ρ R) (h2 : b = false → G tw ρ R) : G (tIfS tt tu tw) ρ R := g_if (h.mono fun c z => by
  subst z
  cases c with
  | true => exact h1 rfl
  | false => exact h2 rfl)
theorem g_when (h : T ρ tt fun c => c = b) (h1 : b = true → G tu ρ R) (h2 : b = false → R.nx ρ) : G (tIfS tt tu tNext) ρ R := g_ifb h h1 fun z => g_next (h2 z)
/-! ### lists that are read and made -/
theorem cl_sorted {ns : List Int} {ms : List Int} (hl : ns.length < 64) (hp : ms.Perm ns) (hs : ms.Pairwise (· ≤ ·)) : CbL (rSorted K) [nums K ns] (ms.map int) := fun R H vs s a C k => by
  obtain ⟨v, rfl, p, ws, rfl, h1, h2⟩ := a.inv1
  rw [al_int h2] at h1
  refine ⟨p, ns, rfl, ex_l s h1, hl, fun ns' q hp' hs' hq => ?_⟩
  have : ns' = ms := List.Perm.eq_of_pairwise (le := (· ≤ ·)) (fun a b _ _ h1 h2 => Int.le_antisymm h1 h2) hs' hs (hp'.trans hp.symm)
  subst this
  exact k q _ hq (al_of_int _)
theorem own_sorted {ns : List Int} {ms : List Int} (h : ρ[i]? = some (.own (ns.map int))) (hl : ns.length < 64) (hp : ms.Perm ns) (hs : ms.Pairwise (· ≤ ·)) (q : Ψ (.own (ms.map int))) : E ρ (tCB (rSorted K) (tCons (tVar i) tNil)) Ψ := fun W0 M W σ e Q kk => by
  obtain ⟨u, h1, p, vs, rfl, h3, h4, h5, h6⟩ := e.ok i _ h
  rw [al_int h6] at h3
  refine ⟨_, h1, p, ns, rfl, SqL.of h3, hl, fun ns' q' hp' hs' hq => ?_⟩
  have : ns' = ms := List.Perm.eq_of_pairwise (le := (· ≤ ·)) (fun a b _ _ h1 h2 => Int.le_antisymm h1 h2) hs' hs (hp'.trans hp.symm)
  subst this
  obtain ⟨W3, e1, _, g3, r3⟩ := e_new e e.id hq (al_of_int ns')
  rw [← e1]
  exact kk _ _ W3 g3 r3 q
theorem inV_int {a : Int} : ∀ {ns : List Int}, inV (.int a) (ns.map V.int) = decide (a ∈ ns)
  | [] => by simp [inV]
  | n :: ns => by
    have ih := inV_int (a := a) (ns := ns)
    unfold inV at *
    rw [List.map_cons, List.any_cons, ih]
    have e : eqV (.int n) (.int a) = decide (a = n) := by
      show (n == a) = decide (a = n)
      by_cases c : a = n
      · subst c; simp
      · simp [c, Ne.symm c]
    simp only [e, List.mem_cons, Bool.decide_or]
theorem flat_ints : ∀ (ns : List Int), (ns.map V.int).all flatV = true
  | [] => rfl
  | _ :: ns => by
    rw [List.map_cons, List.all_cons, flat_ints ns]
    rfl
theorem own_in {a : Int} {ns : List Int} {neg : Bool} (ha : D ρ ta (int a)) (h : ρ[i]? = some (.own (ns.map int))) : D ρ (tOp (rIn K neg) ta (tVar i)) (tru (if neg then !decide (a ∈ ns) else decide (a ∈ ns))) := fun W0 M W σ e Q kk => ha W0 M W σ e _ fun x W2 g2 px => by
  cases px
  obtain ⟨u, h1, p, vs, rfl, h3, h4, h5, h6⟩ := (e.go g2).ok i _ h
  rw [al_int h6] at h3
  exact ⟨_, h1, p, _, rfl, .inl (SqL.of h3), rfl, flat_ints _, by rw [inV_int]; exact kk _ W2 g2 rfl⟩
theorem ov_in {a : Int} {ns : List Int} {neg : Bool} : OpV (rIn K neg) (int a) (nums K ns) (tru (if neg then !decide (a ∈ ns) else decide (a ∈ ns))) := fun R H x y s px py C k => by
  cases px
  obtain ⟨p, vs, rfl, h1, h2⟩ := py
  rw [al_int h2] at h1
  exact ⟨p, _, rfl, .inl (ex_l s h1), rfl, flat_ints _, by rw [inV_int]; exact k _ rfl⟩
theorem e_cat (h : E ρ ta fun s => ∃ Ps, s = .own Ps ∧ E ρ tb fun s => ∃ Qs, s = .own Qs ∧ Ps.length + Qs.length ≤ 100000 ∧ Ψ (.own (Ps ++ Qs))) : E ρ (tOp rCat ta tb) Ψ := fun W0 M W σ e Q kk => h W0 M W σ e _ fun s v W1 g1 r1 q => by
  obtain ⟨Ps, rfl, q⟩ := q
  obtain ⟨p, vs, rfl, h2, h3, h4, h5⟩ := r1
  have e1 := e.go g1
  refine q W0 M W1 σ e1 _ fun s v W2 g2 r2 q => ?_
  obtain ⟨Qs, rfl, hl, q⟩ := q
  obtain ⟨p2, vs2, rfl, k2, k3, k4, k5⟩ := r2
  have np : ¬ Bags σ ρ p := fun b => by
    obtain ⟨_, _, z⟩ := (e.bag b).1
    rw [h4] at z
    cases z
  have a2 := (h5.mono g2.le.r).app k5
  refine ⟨p, p2, vs, vs2, rfl, rfl, g2.le.h _ _ np h2, k2, sz_of (by rw [h5.length, k5.length]; exact hl), fun l hl => ?_⟩
  obtain ⟨W3, e3, _, g3, r3⟩ := e_new e (g1.trans g2) hl a2
  rw [← e3]
  exact kk _ _ W3 g3 r3 q
def DO (ρ : List Sl) (to : TO) (o : Option Int) : Prop := ∀ W0 M W σ, En W0 M W σ ρ → ∀ Q : Option Int → Hp → Prop, (∀ W2, Go σ ρ W W2 → Q o W2.h) → to σ W.h Q
theorem do_none : DO ρ tNoPart none := fun W0 M W σ e Q k => k W e.id
theorem do_some {a : Int} (h : D ρ te (int a)) : DO ρ (tPart te) (some a) := fun W0 M W σ e Q k => h W0 M W σ e _ fun v W2 g p => by
  cases p
  exact ⟨a, rfl, k W2 g⟩
def cut {α : Type} (xs : List α) (lo hi : Option Int) : List α := (xs.drop (HT.sIx xs.length 0 lo)).take (HT.sIx xs.length xs.length hi - HT.sIx xs.length 0 lo)
theorem al_cut {H : Hp} {vs : List V} {lo hi : Option Int} (h : Al H vs Ps) : Al H (cutV vs lo hi) (cut Ps lo hi) := by
  unfold cutV cut
  rw [h.length]
  exact (h.drop _).take _
theorem own_sl {to th : TO} {lo hi : Option Int} (h : ρ[i]? = some (.own Ps)) (h1 : DO ρ to lo) (h2 : DO ρ th hi) (q : Ψ (.own (cut Ps lo hi))) : E ρ (tSl (rSlL K) (tVar i) to th) Ψ := fun W0 M W σ e Q kk => by
  obtain ⟨u, a1, p, vs, rfl, a3, a4, a5, a6⟩ := e.ok i _ h
  refine ⟨_, a1, h1 W0 M W σ e _ fun W2 g2 => h2 W0 M W2 σ (e.go g2) _ fun W3 g3 => ?_⟩
  have G := g2.trans g3
  obtain ⟨u, a1', p', vs', e1, b3, b4, b5, b6⟩ := (e.go G).ok i _ h
  rw [a1] at a1'
  cases a1'
  cases e1
  refine ⟨p, vs', rfl, SqL.of b3, fun l hl => ?_⟩
  obtain ⟨W4, e4, _, g4, r4⟩ := e_new e G hl (al_cut b6)
  rw [← e4]
  exact kk _ _ W4 g4 r4 q
theorem e_sl {to th : TO} {lo hi : Option Int} (h : D ρ te (lst K Ps)) (h1 : DO ρ to lo) (h2 : DO ρ th hi) (q : Ψ (.own (cut Ps lo hi))) : E ρ (tSl (rSlL K) te to th) Ψ := fun W0 M W σ e Q kk => h W0 M W σ e _ fun v W1 g1 pv => by
  obtain ⟨p, vs, rfl, hp, al⟩ := pv
  refine h1 W0 M W1 σ (e.go g1) _ fun W2 g2 => h2 W0 M W2 σ ((e.go g1).go g2) _ fun W3 g3 => ?_
  have G := (g1.trans g2).trans g3
  have ex := g2.le.r.trans g3.le.r
  refine ⟨p, vs, rfl, ex_l (ex.trans g3.sub) hp, fun l hl => ?_⟩
  obtain ⟨W4, e4, _, g4, r4⟩ := e_new e G hl (al_cut (al.mono ex))
  rw [← e4]
  exact kk _ _ W4 g4 r4 q
theorem cut_hi {α : Type} {xs : List α} {k : Nat} (h : k ≤ xs.length) : cut xs (some (k : Int)) none = xs.drop k := by
  have e1 : HT.sIx xs.length 0 (some (k : Int)) = k := by
    unfold HT.sIx
    simp only []
    rw [if_neg (by omega)]
    simp
    omega
  have e2 : HT.sIx xs.length xs.length none = xs.length := rfl
  unfold cut
  rw [e1, e2, List.take_of_length_le (by rw [List.length_drop]; omega)]
theorem cut_lo {α : Type} {xs : List α} {k : Nat} (h : k ≤ xs.length) : cut xs none (some (k : Int)) = xs.take k := by
  have e1 : HT.sIx xs.length xs.length (some (k : Int)) = k := by
    unfold HT.sIx
    simp only []
    rw [if_neg (by omega)]
    simp
    omega
  have e2 : HT.sIx xs.length 0 none = 0 := rfl
  unfold cut
  rw [e1, e2]
  simp
/-! ### lists compared, shown -/
def IsD (K : PySem.W.Frag) (P : MP) (d : PyData) : Prop := ∀ H v, P.p H v → Dp K H v d
theorem isd_int (a : Int) : IsD K (int a) (.int a) := fun H v h => by cases h; exact .int a
theorem isd_str (a : Str) : IsD K (str a) (.str a) := fun H v h => by cases h; exact .str a
theorem isd_bl (a : Bool) : IsD K (tru a) (.bool a) := fun H v h => by cases h; exact .bl a
theorem isd_non : IsD K (sc .non) .none := fun H v h => by cases h; exact .non
theorem isd_rat (x : Rat) : IsD K (rat K x) (fd x) := fun H v h => dp_rt h
theorem isd_map {α : Type} {f : α → MP} {d : α → PyData} (h : ∀ x, IsD K (f x) (d x)) {H : Hp} : ∀ {xs : List α} {vs : List V}, Al H vs (xs.map f) → DpAll K H vs (xs.map d)
  | [], _, .nil => .nil
  | _ :: _, _, .cons p t => .cons (h _ _ _ p) (isd_map h t)
theorem isd_lst {α : Type} {f : α → MP} {d : α → PyData} (h : ∀ x, IsD K (f x) (d x)) (xs : List α) : IsD K (lst K (xs.map f)) (.list (xs.map d)) := fun H v q => by
  obtain ⟨p, vs, rfl, h1, h2⟩ := q
  exact .lst h1 (isd_map h h2)
theorem ov_eq {d e : PyData} (h1 : IsD K P d) (h2 : IsD K P2 e) (s1 : SeqAt.shaped d = true) (s2 : SeqAt.shaped e = true) : OpV (rEqD K) P P2 (tru (PyData.eqv d e)) := fun R H x y s px py C k => ⟨d, e, h1 _ _ (P.mono s px), h2 _ _ (P2.mono s py), s1, s2, k _ rfl⟩
theorem ov_ne {d e : PyData} (h1 : IsD K P d) (h2 : IsD K P2 e) (s1 : SeqAt.shaped d = true) (s2 : SeqAt.shaped e = true) : OpV (rNeD K) P P2 (tru (!PyData.eqv d e)) := fun R H x y s px py C k => ⟨d, e, h1 _ _ (P.mono s px), h2 _ _ (P2.mono s py), s1, s2, k _ rfl⟩
theorem cb_rep {d : PyData} (h1 : IsD K P d) (f : Fine d) : CbV (NF.rRep K) [P] (str d.shown) := fun R H vs s a C k => by
  obtain ⟨v, rfl, p⟩ := a.inv1
  exact ⟨v, d, rfl, h1 _ _ (P.mono s p), f, k _ rfl⟩
/-! ### a name takes its parts -/
theorem g_unpack (h : E ρ te fun s => ∃ P1 P2, s = .val (tup K [P1, P2]) ∧ R.nx ((ρ.set i (.val P1)).set j (.val P2))) (hi' : Nat.blt i ρ.length = true := by rfl) (hj' : Nat.blt j ρ.length = true := by rfl) : G (tAsg te (gTup K 2 (gCons (gName i) (gCons (gName j) gNil)))) ρ R := fun W0 M W σ D e m => h W0 M W σ e _ fun s v W2 g r q => by
  obtain ⟨P1, P2, rfl, q⟩ := q
  obtain ⟨p, vs, rfl, hp, al⟩ := r
  obtain ⟨x, y, rfl, px, py⟩ := al.inv2
  have hi := Nat.le_of_ble_eq_true hi'
  have hj := Nat.le_of_ble_eq_true hj'
  have e1 := e.set (i := i) (s := .val P1) g px hi
  exact ⟨p, _, rfl, ex_t g.sub hp, rfl, _, _, rfl, _, _, rfl, rfl, m.nx W2 _ _ (e1.set (s := .val P2) e1.id py (by rw [List.length_set]; exact hj)) q⟩
/-- an own list becomes a bag -/
theorem En.bagged (e : En W0 M W σ ρ) (h : ρ[i]? = some (.own Ps)) (hb : ∀ R vs, Al R vs Ps → Bk vs) : En W0 M W σ (ρ.set i .bag) := by
  obtain ⟨u, h1, p, vs, rfl, h3, h4, h5, h6⟩ := e.ok i _ h
  have hi : i < ρ.length := (List.getElem?_eq_some_iff.mp h).1
  refine ⟨e.sub, e.le, e.old, e.bags, by rw [List.length_set]; exact e.len, fun k s hk => ?_, fun k l s t u w a hkl hk hl ku lu o1 o2 => ?_⟩
  · by_cases c : i = k
    · subst c
      rw [List.getElem?_set_self hi] at hk
      cases hk
      exact ⟨_, h1, p, rfl, ⟨_, hb _ _ h6, h3⟩, h4, .inl h5⟩
    · rw [List.getElem?_set_ne c] at hk
      exact e.ok k s hk
  · have up : ∀ {k : Nat} {s : Sl} {u : Option V} {a : Addr}, (ρ.set i .bag)[k]? = some s → ft W.r u s a → ∃ s', ρ[k]? = some s' ∧ ft W.r u s' a := fun {k s u a} hk o => by
      by_cases c : i = k
      · subst c
        rw [List.getElem?_set_self hi] at hk
        cases hk
        exact ⟨_, h, o⟩
      · rw [List.getElem?_set_ne c] at hk
        exact ⟨s, hk, o⟩
    obtain ⟨s', a1, a2⟩ := up hk o1
    obtain ⟨t', b1, b2⟩ := up hl o2
    exact e.ne k l s' t' u w a hkl a1 b1 ku lu a2 b2
theorem g_bagOf (h : ρ[i]? = some (.own Ps)) (hb : ∀ R vs, Al R vs Ps → Bk vs) (q : G t (ρ.set i .bag) R) : G t ρ R := fun W0 M W σ D e m => q W0 M W σ D (e.bagged h hb) m
end
/-! ### promises of the old form -/
def Rplus (R H : Hp) : Hp := fun q => match R q with
  | some o => some o
  | none => match H q with
    | some (.tup xs) => some (.tup xs)
    | some (.frz o (.tup xs)) => some (.frz o (.tup xs))
    | _ => none
section
variable {K : PySem.W.Frag} {W : Wd} {R H H' : Hp} {v : V} {x : Rat} {vs : List V} {ss : List Sl} {M : Addr → Prop}
theorem rplus_ex : Ex R (Rplus R H) := fun q o h => by
  unfold Rplus
  rw [h]
theorem rplus_sub (e : Ex R H) : Ex (Rplus R H) H := fun q o h => by
  unfold Rplus at h
  cases c : R q with
  | some o' =>
    rw [c] at h
    cases h
    exact e _ _ c
  | none =>
    rw [c] at h
    cases d : H q with
    | none => rw [d] at h; cases h
    | some o' =>
      rw [d] at h
      cases o' with
      | tup xs => exact h
      | frz a b =>
        cases b with
        | tup xs => exact h
        | _ => cases h
      | _ => cases h
theorem rplus_t {a : Addr} {xs : List V} (e : Ex R H) (h : SqT K H a xs) : SqT K (Rplus R H) a xs := by
  have up : ∀ {o}, H a = some o → (o = .tup xs ∨ ∃ ob, o = .frz ob (.tup xs)) → Rplus R H a = some o := fun {o} ha ho => by
    unfold Rplus
    cases c : R a with
    | some o' =>
      have := e _ _ c
      rw [ha] at this
      cases this
      rfl
    | none =>
      rw [ha]
      rcases ho with rfl | ⟨ob, rfl⟩ <;> rfl
  rcases h with (h | ⟨ob, h⟩) | h
  · exact .inl (.inl (up h (.inl rfl)))
  · exact .inl (.inr ⟨ob, up h (.inr ⟨ob, rfl⟩)⟩)
  · exact .inr h
theorem rplus_le (sub : Ex W.r W.h) (e : Ex W.h H') : Le M W ⟨Rplus W.r H', H'⟩ := ⟨rplus_ex, fun p o _ h => e _ _ h, fun p hp => by
  obtain ⟨⟨xs, h1, hnt⟩, h2⟩ := hp
  refine ⟨⟨xs, e _ _ h1, hnt⟩, ?_⟩
  show Rplus W.r H' p = none
  unfold Rplus
  rw [h2, e _ _ h1]
  cases xs with
  | tup xs => cases hnt
  | frz a b =>
    cases b with
    | tup xs => cases hnt
    | _ => rfl
  | _ => rfl⟩
theorem rplus_rt (e : Ex R H) (h : Rt K H v x) : Rt K (Rplus R H) v x := by
  obtain ⟨p, e1, h⟩ := h
  exact ⟨p, e1, rplus_t e h⟩
theorem rplus_rts (e : Ex R H) : ∀ {us : List V} {xs : List Rat}, RtAll K H us xs → RtAll K (Rplus R H) us xs
  | _, _, .nil => .nil
  | _, _, .cons h t => .cons (rplus_rt e h) (rplus_rts e t)
/-- an old promise of a value that is scalar, a fraction, a new list of fractions -/
theorem old_v (sub : Ex W.r W.h) (pk : POks W vs ss) {Ψ : Sl → Prop} {Q : VK} (q : ∀ s v W2, Ex W2.r W2.h → Le (BagOf vs ss) W W2 → (∀ p, BagOf vs ss p → Bg W2.h p) → ROk W W2 v s → Ψ s → Q v W2.h) (e : Ex W.h H') (z : Ψ (.val (sc v))) : Q v H' :=
  q (.val (sc v)) v ⟨Rplus W.r H', H'⟩ (rplus_sub (sub.trans e)) (rplus_le sub e) (fun p ⟨i, h1, h2⟩ => by
    obtain ⟨v, e1, q, e2, ⟨a, b, h3⟩, _⟩ := pk.get h1
    rw [h2] at e1
    cases e1
    cases e2
    exact ⟨a, b, e _ _ h3⟩) rfl z
theorem old_r (sub : Ex W.r W.h) (pk : POks W vs ss) {Ψ : Sl → Prop} {Q : VK} (q : ∀ s v W2, Ex W2.r W2.h → Le (BagOf vs ss) W W2 → (∀ p, BagOf vs ss p → Bg W2.h p) → ROk W W2 v s → Ψ s → Q v W2.h) (e : Ex W.h H') (r : Rt K H' v x) (z : Ψ (.val (rat K x))) : Q v H' :=
  q (.val (rat K x)) v ⟨Rplus W.r H', H'⟩ (rplus_sub (sub.trans e)) (rplus_le sub e) (fun p ⟨i, h1, h2⟩ => by
    obtain ⟨v, e1, q, e2, ⟨a, b, h3⟩, _⟩ := pk.get h1
    rw [h2] at e1
    cases e1
    cases e2
    exact ⟨a, b, e _ _ h3⟩) (rplus_rt (sub.trans e) r) z
theorem old_l {p : Addr} {us : List V} {xs : List Rat} (sub : Ex W.r W.h) (pk : POks W vs ss) {Ψ : Sl → Prop} {Q : VK} (q : ∀ s v W2, Ex W2.r W2.h → Le (BagOf vs ss) W W2 → (∀ p, BagOf vs ss p → Bg W2.h p) → ROk W W2 v s → Ψ s → Q v W2.h) (np : W.h p = none) (e : Ex W.h H') (hp : H' p = some (.lst us)) (r : RtAll K H' us xs) (z : Ψ (.own (xs.map (rat K)))) : Q (.ref p) H' :=
  q (.own (xs.map (rat K))) (.ref p) ⟨Rplus W.r H', H'⟩ (rplus_sub (sub.trans e)) (rplus_le sub e) (fun p ⟨i, h1, h2⟩ => by
    obtain ⟨v, e1, q, e2, ⟨a, b, h3⟩, _⟩ := pk.get h1
    rw [h2] at e1
    cases e1
    cases e2
    exact ⟨a, b, e _ _ h3⟩) ⟨p, us, rfl, hp, by
      show Rplus W.r H' p = none
      unfold Rplus
      have rp : W.r p = none := by
        cases c : W.r p with
        | none => rfl
        | some o => rw [sub _ _ c] at np; cases np
      rw [rp, hp], np, al_of_rat (rplus_rts (sub.trans e) r)⟩ z
end
end WL

namespace PL
open PySem PySem.Spec PyProof.Rows L2 Evl NF WL
/-! ### values in full: what a thing is, wherever it lies -/
inductive PV where
  | non
  | bl (b : Bool)
  | int (i : Int)
  | str (z : Str)
  | lst (as : List PV)
  | tup (as : List PV)
  | dic0
  | ins (c : Addr) (ns : List Str) (as : List PV)
  | scr (ns : List Int)
def insP (c : Addr) (ns : List Str) (Ps : List MP) : MP := ⟨fun H v => ∃ p dx vs, v = .ref p ∧ H p = some (.ins c dx (ns.zip vs)) ∧ vs.length = ns.length ∧ Al H vs Ps, fun e h => by
  obtain ⟨p, dx, vs, h1, h2, h3, h4⟩ := h
  exact ⟨p, dx, vs, h1, e _ _ h2, h3, h4.mono e⟩⟩
def dicP : MP := ⟨fun H v => ∃ p, v = .ref p ∧ H p = some (.dK []), fun e h => by
  obtain ⟨p, h1, h2⟩ := h
  exact ⟨p, h1, e _ _ h2⟩⟩
/-- a list that is tracked -/
def trk (Ps : List MP) : MP := ⟨fun H v => ∃ p vs, v = .ref p ∧ H p = some (.lst vs) ∧ Al H vs Ps, fun e h => by
  obtain ⟨p, vs, h1, h2, h3⟩ := h
  exact ⟨p, vs, h1, e _ _ h2, h3.mono e⟩⟩
/-- the script -/
def scrP (K : PySem.W.Frag) (ns : List Int) : MP := ⟨fun H v => ∃ p, v = .ref p ∧ SqL K H p (ns.map V.int), fun e h => by
  obtain ⟨p, h1, h2⟩ := h
  exact ⟨p, h1, ex_l e h2⟩⟩
mutual
def mp (K : PySem.W.Frag) : PV → MP
  | .non => sc .non
  | .bl b => sc (.bl b)
  | .int i => sc (.int i)
  | .str z => sc (.str z)
  | .lst as => trk (mps K as)
  | .tup as => WL.tup K (mps K as)
  | .dic0 => dicP
  | .ins c ns as => insP c ns (mps K as)
  | .scr ns => scrP K ns
def mps (K : PySem.W.Frag) : List PV → List MP
  | [] => []
  | a :: as => mp K a :: mps K as
end
theorem mps_map (K : PySem.W.Frag) : ∀ as : List PV, mps K as = as.map (mp K)
  | [] => rfl
  | a :: as => by rw [mps, mps_map K as]; rfl
theorem mps_len (K : PySem.W.Frag) (as : List PV) : (mps K as).length = as.length := by rw [mps_map, List.length_map]
theorem mps_get {K : PySem.W.Frag} {as : List PV} {i : Nat} {a : PV} (h : as[i]? = some a) : (mps K as)[i]? = some (mp K a) := by rw [mps_map, List.getElem?_map, h]; rfl
theorem mps_app (K : PySem.W.Frag) (as bs : List PV) : mps K (as ++ bs) = mps K as ++ mps K bs := by rw [mps_map, mps_map, mps_map, List.map_append]
/-! ### what comes of a piece of code: a wish of answers and a wish of refusals -/
structure XV where
  c : Addr
  as : List (Str × PV)
abbrev W (α : Type) := (α → Prop) → (XV → Prop) → Prop
def ret {α : Type} (a : α) : W α := fun Ψ _ => Ψ a
def bind {α β : Type} (m : W α) (k : α → W β) : W β := fun Ψ Ξ => m (fun a => k a Ψ Ξ) Ξ
def fail {α : Type} : W α := fun _ _ => False
def lift {α : Type} (o : Option α) : W α := fun Ψ _ => ∃ a, o = some a ∧ Ψ a
def any {α : Type} (p : α → Prop) : W α := fun Ψ _ => ∀ a, p a → Ψ a
def refuse {α : Type} (x : XV) : W α := fun _ Ξ => Ξ x
theorem bind_ret {α β : Type} (a : α) (k : α → W β) : bind (ret a) k = k a := rfl
theorem ret_bind {α : Type} (m : W α) : bind m ret = m := rfl
theorem bind_bind {α β γ : Type} (m : W α) (k : α → W β) (l : β → W γ) : bind (bind m k) l = bind m fun a => bind (k a) l := rfl
theorem lift_some {α : Type} (a : α) : lift (some a) = ret a := by
  funext Ψ Ξ
  exact propext ⟨fun ⟨b, e, h⟩ => by cases e; exact h, fun h => ⟨a, rfl, h⟩⟩
theorem bind_lift_some {α β : Type} (a : α) (k : α → W β) : bind (lift (some a)) k = k a := by rw [lift_some]; rfl
def XOk (K : PySem.W.Frag) (H : Hp) (cls : Value) (d : Option Addr) (x : XV) : Prop := cls = .ref x.c ∧ ((d = none ∧ x.as = []) ∨ ∃ dx vs, d = some dx ∧ H dx = some (.xd ((x.as.map (·.1)).zip vs)) ∧ vs.length = x.as.length ∧ Al H vs (x.as.map fun y => mp K y.2))
theorem grow_tupA {W : Wd} {p : Addr} {us : List V} (sub : Ex W.r W.h) (hp : W.h p = none) : Ex (upd W.r p (.tup us)) (upd W.h p (.tup us)) ∧ Le (fun _ => False) W ⟨upd W.r p (.tup us), upd W.h p (.tup us)⟩ := by
  have g := grow_tup (us := us) sub hp
  exact ⟨g.sub, g.le⟩
/-! ### judgements of expressions, tests, arguments -/
section
variable (K : PySem.W.Frag) (Z : WX) (ρ : List Sl)
def EP (te : TE) (m : W PV) : Prop := ∀ W0 M W σ, En W0 M W σ ρ → ∀ (Q : VK) Ψ Ξ, m Ψ Ξ → (∀ a v W2, Go σ ρ W W2 → (mp K a).p W2.r v → Ψ a → Q v W2.h) → (∀ x cls d W2, Go σ ρ W W2 → XOk K W2.r cls d x → Ξ x → Z cls d σ W2.h) → te σ W.h Q
def EO (te : TE) (m : W (List PV)) : Prop := ∀ W0 M W σ, En W0 M W σ ρ → ∀ (Q : VK) Ψ Ξ, m Ψ Ξ → (∀ as v W2, Go σ ρ W W2 → ROk W W2 v (.own (mps K as)) → Ψ as → Q v W2.h) → (∀ x cls d W2, Go σ ρ W W2 → XOk K W2.r cls d x → Ξ x → Z cls d σ W2.h) → te σ W.h Q
def TP (tt : TT) (m : W Bool) : Prop := ∀ W0 M W σ, En W0 M W σ ρ → ∀ (Q : Bool → Hp → Prop) Ψ Ξ, m Ψ Ξ → (∀ b W2, Go σ ρ W W2 → Ψ b → Q b W2.h) → (∀ x cls d W2, Go σ ρ W W2 → XOk K W2.r cls d x → Ξ x → Z cls d σ W2.h) → tt σ W.h Q
/-- arguments: a bag, or a value -/
inductive Ar where
  | bag
  | v (a : PV)
def Ar.sl (K : PySem.W.Frag) : Ar → Sl
  | .bag => .bag
  | .v a => .val (mp K a)
def AP (tA : TA) (m : W (List Ar)) : Prop := ∀ W0 M W σ, En W0 M W σ ρ → ∀ (Q : List V → Hp → Prop) Ψ Ξ, m Ψ Ξ → (∀ as vs W2, Go σ ρ W W2 → AOks σ ρ W2 vs (as.map (Ar.sl K)) → Ψ as → Q vs W2.h) → (∀ x cls d W2, Go σ ρ W W2 → XOk K W2.r cls d x → Ξ x → Z cls d σ W2.h) → tA σ W.h Q
/-- values alone -/
def VP (tA : TA) (m : W (List PV)) : Prop := ∀ W0 M W σ, En W0 M W σ ρ → ∀ (Q : List V → Hp → Prop) Ψ Ξ, m Ψ Ξ → (∀ as vs W2, Go σ ρ W W2 → Al W2.r vs (mps K as) → Ψ as → Q vs W2.h) → (∀ x cls d W2, Go σ ρ W W2 → XOk K W2.r cls d x → Ξ x → Z cls d σ W2.h) → tA σ W.h Q
end
section
variable {K : PySem.W.Frag} {Z : WX} {W0 W1 W2 W3 : Wd} {M : Addr → Prop} {σ : L2.St} {ρ : List Sl} {i j : Nat} {ta tb tc te : TE} {tt t1 t2 : TT} {tA tr : TA} {ma mb mc m : W PV} {r r1 r2 : R2}
theorem ep_var {a : PV} (h : ρ[i]? = some (.val (mp K a))) : EP K Z ρ (tVar i) (ret a) := fun W0 M W σ e Q Ψ Ξ hm k _ => by
  obtain ⟨u, h1, v, rfl, h2⟩ := e.ok i _ h
  exact ⟨v, h1, k a v W e.id h2 hm⟩
theorem ep_c {a : PV} {v : V} (h : ∀ H, (mp K a).p H v) : EP K Z ρ (tC v) (ret a) := fun W0 M W σ e Q Ψ Ξ hm k _ => k a v W e.id (h _) hm
theorem ep_int {n : Int} : EP K Z ρ (tC (.int n)) (ret (.int n)) := ep_c fun _ => rfl
theorem ep_bl {b : Bool} : EP K Z ρ (tC (.bl b)) (ret (.bl b)) := ep_c fun _ => rfl
theorem ep_str {z : Str} : EP K Z ρ (tC (.str z)) (ret (.str z)) := ep_c fun _ => rfl
theorem ep_non : EP K Z ρ (tC .non) (ret .non) := ep_c fun _ => rfl
/-- an operation that reads, by values -/
def OpW (K : PySem.W.Frag) (r : R2) (f : PV → PV → Option PV) : Prop := ∀ a b c, f a b = some c → OpV r (mp K a) (mp K b) (mp K c)
theorem ep_op {f : PV → PV → Option PV} (hf : OpW K r f) (ha : EP K Z ρ ta ma) (hb : EP K Z ρ tb mb) : EP K Z ρ (tOp r ta tb) (bind ma fun a => bind mb fun b => lift (f a b)) := fun W0 M W σ e Q Ψ Ξ hm k kx =>
  ha W0 M W σ e _ _ _ hm (fun a x W1 g1 px h2 => hb W0 M W1 σ (e.go g1) _ _ _ h2 (fun b y W2 g2 py ⟨c, ec, hc⟩ => hf a b c ec W2.r W2.h x y g2.sub (MP.mono _ g2.le.r px) py _ fun v pv => k c v W2 (g1.trans g2) pv hc)
    fun x cls d W2 g2 => kx x cls d W2 (g1.trans g2)) kx
def UnW (K : PySem.W.Frag) (r : V → Hp → VK → Prop) (f : PV → Option PV) : Prop := ∀ a c, f a = some c → ∀ (R H : Hp) x, Ex R H → (mp K a).p R x → ∀ C : VK, (∀ v, (mp K c).p R v → C v H) → r x H C
theorem ep_un {r : V → Hp → VK → Prop} {f : PV → Option PV} (hf : UnW K r f) (ha : EP K Z ρ ta ma) : EP K Z ρ (tUn r ta) (bind ma fun a => lift (f a)) := fun W0 M W σ e Q Ψ Ξ hm k kx =>
  ha W0 M W σ e _ _ _ hm (fun a x W1 g1 px ⟨c, ec, hc⟩ => hf a c ec W1.r W1.h x g1.sub px _ fun v pv => k c v W1 g1 pv hc) kx
/-! tests -/
def isB : PV → Option Bool
  | .bl b => some b
  | _ => none
theorem isB_p {a : PV} {b : Bool} {H : Hp} {v : V} (h : isB a = some b) (p : (mp K a).p H v) : v = .bl b := by
  cases a <;> try cases h
  exact p
theorem tp_test (h : EP K Z ρ te m) : TP K Z ρ (tTest te) (bind m fun a => lift (isB a)) := fun W0 M W σ e Q Ψ Ξ hm k kx => h W0 M W σ e _ _ _ hm (fun a v W1 g p ⟨b, eb, hb⟩ => ⟨b, isB_p eb p, k b W1 g hb⟩) kx
theorem tp_B (h : EP K Z ρ te m) : TP K Z ρ (tB te) (bind m fun a => lift (isB a)) := tp_test h
variable {m1 m2 : W Bool}
theorem tp_and (h1 : TP K Z ρ t1 m1) (h2 : TP K Z ρ t2 m2) : TP K Z ρ (tAnd t1 t2) (bind m1 fun b => if b = true then m2 else ret false) := fun W0 M W σ e Q Ψ Ξ hm k kx => h1 W0 M W σ e _ _ _ hm (fun b W1 g q => by
  cases b with
  | true => exact h2 W0 M W1 σ (e.go g) _ _ _ q (fun c W2 g2 z => k c W2 (g.trans g2) z) fun x cls d W2 g2 => kx x cls d W2 (g.trans g2)
  | false => exact k false W1 g q) kx
theorem tp_or (h1 : TP K Z ρ t1 m1) (h2 : TP K Z ρ t2 m2) : TP K Z ρ (tOr t1 t2) (bind m1 fun b => if b = true then ret true else m2) := fun W0 M W σ e Q Ψ Ξ hm k kx => h1 W0 M W σ e _ _ _ hm (fun b W1 g q => by
  cases b with
  | true => exact k true W1 g q
  | false => exact h2 W0 M W1 σ (e.go g) _ _ _ q (fun c W2 g2 z => k c W2 (g.trans g2) z) fun x cls d W2 g2 => kx x cls d W2 (g.trans g2)) kx
theorem tp_not (h1 : TP K Z ρ t1 m1) : TP K Z ρ (tNot t1) (bind m1 fun b => ret !b) := fun W0 M W σ e Q Ψ Ξ hm k kx => h1 W0 M W σ e _ _ _ hm (fun b W1 g q => k (!b) W1 g q) kx
theorem tp_yes : TP K Z ρ tYes (ret true) := fun W0 M W σ e Q Ψ Ξ hm k kx => k true W e.id hm
theorem ep_and (ha : EP K Z ρ ta ma) (hb : EP K Z ρ tb mb) : EP K Z ρ (tAndV ta tb) (bind ma fun a => bind (lift (isB a)) fun b => if b = true then mb else ret (.bl false)) := fun W0 M W σ e Q Ψ Ξ hm k kx => ha W0 M W σ e _ _ _ hm (fun a v W1 g p q => by
  obtain ⟨b, eb, q⟩ := q
  refine ⟨b, isB_p eb p, ?_⟩
  cases b with
  | true => exact hb W0 M W1 σ (e.go g) _ _ _ q (fun c v W2 g2 z => k c v W2 (g.trans g2) z) fun x cls d W2 g2 => kx x cls d W2 (g.trans g2)
  | false => exact k (.bl false) _ W1 g rfl q) kx
theorem ep_or (ha : EP K Z ρ ta ma) (hb : EP K Z ρ tb mb) : EP K Z ρ (tOrV ta tb) (bind ma fun a => bind (lift (isB a)) fun b => if b = true then ret (.bl true) else mb) := fun W0 M W σ e Q Ψ Ξ hm k kx => ha W0 M W σ e _ _ _ hm (fun a v W1 g p q => by
  obtain ⟨b, eb, q⟩ := q
  refine ⟨b, isB_p eb p, ?_⟩
  cases b with
  | false => exact hb W0 M W1 σ (e.go g) _ _ _ q (fun c v W2 g2 z => k c v W2 (g.trans g2) z) fun x cls d W2 g2 => kx x cls d W2 (g.trans g2)
  | true => exact k (.bl true) _ W1 g rfl q) kx
theorem ep_not (ha : EP K Z ρ ta ma) : EP K Z ρ (tNotV ta) (bind ma fun a => bind (lift (isB a)) fun b => ret (.bl !b)) := fun W0 M W σ e Q Ψ Ξ hm k kx => ha W0 M W σ e _ _ _ hm (fun a v W1 g p q => by
  obtain ⟨b, eb, q⟩ := q
  exact ⟨b, isB_p eb p, k (.bl !b) _ W1 g rfl q⟩) kx
theorem ep_if (h : TP K Z ρ tt m1) (ha : EP K Z ρ ta ma) (hb : EP K Z ρ tb mb) : EP K Z ρ (tIf tt ta tb) (bind m1 fun b => if b = true then ma else mb) := fun W0 M W σ e Q Ψ Ξ hm k kx => h W0 M W σ e _ _ _ hm (fun b W1 g q => by
  cases b with
  | true => exact ha W0 M W1 σ (e.go g) _ _ _ q (fun c v W2 g2 z => k c v W2 (g.trans g2) z) fun x cls d W2 g2 => kx x cls d W2 (g.trans g2)
  | false => exact hb W0 M W1 σ (e.go g) _ _ _ q (fun c v W2 g2 z => k c v W2 (g.trans g2) z) fun x cls d W2 g2 => kx x cls d W2 (g.trans g2)) kx
theorem ep_chain {f1 f2 : PV → PV → Option PV} (hf1 : OpW K r1 f1) (hf2 : OpW K r2 f2) (ha : EP K Z ρ ta ma) (hb : EP K Z ρ tb mb) (hc : EP K Z ρ tc mc) : EP K Z ρ (tChain r1 r2 ta tb tc) (bind ma fun a => bind mb fun b => bind (lift (f1 a b)) fun u => bind (lift (isB u)) fun t => if t = true then bind mc fun c => lift (f2 b c) else ret (.bl false)) := fun W0 M W σ e Q Ψ Ξ hm k kx =>
  ha W0 M W σ e _ _ _ hm (fun a x W1 g1 px h2 => hb W0 M W1 σ (e.go g1) _ _ _ h2 (fun b y W2 g2 py ⟨u, eu, t, et, h3⟩ => hf1 a b u eu W2.r W2.h x y g2.sub (MP.mono _ g2.le.r px) py _ fun v pv => by
    refine ⟨t, isB_p et pv, ?_⟩
    have e2 := (e.go g1).go g2
    cases t with
    | true => exact hc W0 M W2 σ e2 _ _ _ h3 (fun c z W3 g3 pz ⟨q, eq, hq⟩ => hf2 b c q eq W3.r W3.h y z g3.sub (MP.mono _ g3.le.r py) pz _ fun v pv => k q v W3 ((g1.trans g2).trans g3) pv hq) fun x cls d W3 g3 => kx x cls d W3 ((g1.trans g2).trans g3)
    | false => exact k (.bl false) _ W2 (g1.trans g2) rfl h3)
    fun x cls d W2 g2 => kx x cls d W2 (g1.trans g2)) kx
theorem ep_chain3 {r3 : R2} {td : TE} {md : W PV} {f1 f2 f3 : PV → PV → Option PV} (hf1 : OpW K r1 f1) (hf2 : OpW K r2 f2) (hf3 : OpW K r3 f3) (ha : EP K Z ρ ta ma) (hb : EP K Z ρ tb mb) (hc : EP K Z ρ tc mc) (hd : EP K Z ρ td md) : EP K Z ρ (tChain3 r1 r2 r3 ta tb tc td)
    (bind ma fun a => bind mb fun b => bind (lift (f1 a b)) fun u => bind (lift (isB u)) fun t => if t = true then bind mc fun c => bind (lift (f2 b c)) fun u2 => bind (lift (isB u2)) fun t2 => if t2 = true then bind md fun d => lift (f3 c d) else ret (.bl false) else ret (.bl false)) := fun W0 M W σ e Q Ψ Ξ hm k kx =>
  ha W0 M W σ e _ _ _ hm (fun a x W1 g1 px h2 => hb W0 M W1 σ (e.go g1) _ _ _ h2 (fun b y W2 g2 py ⟨u, eu, t, et, h3⟩ => hf1 a b u eu W2.r W2.h x y g2.sub (MP.mono _ g2.le.r px) py _ fun v pv => by
    refine ⟨t, isB_p et pv, ?_⟩
    have e2 := (e.go g1).go g2
    cases t with
    | true => exact hc W0 M W2 σ e2 _ _ _ h3 (fun c z W3 g3 pz ⟨q, eq, t2, et2, hq⟩ => hf2 b c q eq W3.r W3.h y z g3.sub (MP.mono _ g3.le.r py) pz _ fun v pv => by
        refine ⟨t2, isB_p et2 pv, ?_⟩
        cases t2 with
        | true => exact hd W0 M W3 σ (e2.go g3) _ _ _ hq (fun d u W4 g4 pu ⟨q, eq, hq⟩ => hf3 c d q eq W4.r W4.h z u g4.sub (MP.mono _ g4.le.r pz) pu _ fun v pv => k q v W4 (((g1.trans g2).trans g3).trans g4) pv hq) fun x cls d W4 g4 => kx x cls d W4 (((g1.trans g2).trans g3).trans g4)
        | false => exact k (.bl false) _ W3 ((g1.trans g2).trans g3) rfl hq) fun x cls d W3 g3 => kx x cls d W3 ((g1.trans g2).trans g3)
    | false => exact k (.bl false) _ W2 (g1.trans g2) rfl h3)
    fun x cls d W2 g2 => kx x cls d W2 (g1.trans g2)) kx
/-! arguments -/
theorem vp_nil : VP K Z ρ tNil (ret []) := fun W0 M W σ e Q Ψ Ξ hm k kx => k [] [] W e.id .nil hm
theorem vp_cons {ms : W (List PV)} (h : EP K Z ρ ta ma) (t : VP K Z ρ tr ms) : VP K Z ρ (tCons ta tr) (bind ma fun a => bind ms fun as => ret (a :: as)) := fun W0 M W σ e Q Ψ Ξ hm k kx =>
  h W0 M W σ e _ _ _ hm (fun a v W1 g1 p h2 => t W0 M W1 σ (e.go g1) _ _ _ h2 (fun as vs W2 g2 ps h3 => k (a :: as) _ W2 (g1.trans g2) (.cons (MP.mono _ g2.le.r p) ps) h3) fun x cls d W2 g2 => kx x cls d W2 (g1.trans g2)) kx
theorem ap_nil : AP K Z ρ tNil (ret []) := fun W0 M W σ e Q Ψ Ξ hm k kx => k [] [] W e.id .nil hm
theorem ap_cons {ms : W (List Ar)} (h : EP K Z ρ ta ma) (t : AP K Z ρ tr ms) : AP K Z ρ (tCons ta tr) (bind ma fun a => bind ms fun as => ret (.v a :: as)) := fun W0 M W σ e Q Ψ Ξ hm k kx =>
  h W0 M W σ e _ _ _ hm (fun a v W1 g1 p h2 => t W0 M W1 σ (e.go g1) _ _ _ h2 (fun as vs W2 g2 ps h3 => k (.v a :: as) _ W2 (g1.trans g2) (.cons (s := .val (mp K a)) (MP.mono _ g2.le.r p) ps) h3) fun x cls d W2 g2 => kx x cls d W2 (g1.trans g2)) kx
theorem ap_bag {ms : W (List Ar)} (h : ρ[i]? = some .bag) (t : AP K Z ρ tr ms) : AP K Z ρ (tCons (tVar i) tr) (bind ms fun as => ret (.bag :: as)) := fun W0 M W σ e Q Ψ Ξ hm k kx => by
  obtain ⟨u, h1, p, rfl, _⟩ := e.ok i _ h
  exact ⟨_, h1, t W0 M W σ e _ _ _ hm (fun as vs W2 g2 ps h3 => k (.bag :: as) _ W2 g2 (.cons (s := .bag) ⟨i, h, h1⟩ ps) h3) kx⟩
/-! builtin calls, tuples, lists -/
def CbW (K : PySem.W.Frag) (r : List V → Hp → VK → Prop) (f : List PV → Option PV) : Prop := ∀ as c, f as = some c → CbV r (mps K as) (mp K c)
theorem ep_cb {r : List V → Hp → VK → Prop} {f : List PV → Option PV} {ms : W (List PV)} (hf : CbW K r f) (ha : VP K Z ρ tA ms) : EP K Z ρ (tCB r tA) (bind ms fun as => lift (f as)) := fun W0 M W σ e Q Ψ Ξ hm k kx =>
  ha W0 M W σ e _ _ _ hm (fun as vs W1 g1 p ⟨c, ec, hc⟩ => hf as c ec W1.r W1.h vs g1.sub p _ fun v pv => k c v W1 g1 pv hc) kx
/-- a builtin call that makes a list -/
def CbM (K : PySem.W.Frag) (r : List V → Hp → VK → Prop) (f : List PV → Option (List PV)) : Prop := ∀ as cs, f as = some cs → CbL r (mps K as) (mps K cs)
theorem eo_cb {r : List V → Hp → VK → Prop} {f : List PV → Option (List PV)} {ms : W (List PV)} (hf : CbM K r f) (ha : VP K Z ρ tA ms) : EO K Z ρ (tCB r tA) (bind ms fun as => lift (f as)) := fun W0 M W σ e Q Ψ Ξ hm k kx =>
  ha W0 M W σ e _ _ _ hm (fun as vs W1 g1 p ⟨cs, ec, hc⟩ => hf as cs ec W1.r W1.h vs g1.sub p _ fun q ws hq al => by
    obtain ⟨W3, e1, _, g3, r3⟩ := e_new e g1 hq al
    rw [← e1]
    exact k cs _ W3 g3 r3 hc) kx
theorem eo_lst {ms : W (List PV)} (ha : VP K Z ρ tA ms) : EO K Z ρ (tLst tA) (bind ms fun as => lift (if as.length ≤ 100000 then some as else none)) := fun W0 M W σ e Q Ψ Ξ hm k kx =>
  ha W0 M W σ e _ _ _ hm (fun as vs W1 g1 al ⟨cs, ec, hc⟩ => by
    split at ec
    · rename_i hl
      cases ec
      refine ⟨sz_of (by rw [al.length, mps_len]; exact hl), fun p hp => ?_⟩
      obtain ⟨W3, e1, _, g3, r3⟩ := e_new e g1 hp al
      rw [← e1]
      exact k as _ W3 g3 r3 hc
    · cases ec) kx
/-- what is made is settled at once -/
theorem settleO {W : Wd} {Ps : List MP} {v : V} (e : En W0 M W σ ρ) (g : Go σ ρ W W2) (h : ROk W W2 v (.own Ps)) : ∃ W3, W3.h = W2.h ∧ Ex W2.r W3.r ∧ Go σ ρ W W3 ∧ (trk Ps).p W3.r v := by
  obtain ⟨p, vs, rfl, h1, h2, h3, h4⟩ := h
  have ex : Ex W2.r (upd W2.r p (.lst vs)) := Ex.new h2
  refine ⟨⟨upd W2.r p (.lst vs), W2.h⟩, rfl, ex, ⟨fun a o (ha : upd W2.r p (.lst vs) a = some o) => ?_, ⟨g.le.r.trans ex, g.le.h, fun q hq => ?_⟩, g.bg⟩, p, vs, rfl, upd_same, h4.mono ex⟩
  · by_cases c : a = p
    · subst c
      rw [upd_same] at ha
      cases ha
      exact h1
    · rw [upd_ne c] at ha
      exact g.sub _ _ ha
  · have c : q ≠ p := fun z => by
      obtain ⟨⟨xs, hx, _⟩, _⟩ := hq
      rw [z, h3] at hx
      cases hx
    exact ⟨(g.le.w q hq).1, by show upd W2.r p _ q = none; rw [upd_ne c]; exact (g.le.w q hq).2⟩
theorem EO.ep {ms : W (List PV)} (h : EO K Z ρ te ms) : EP K Z ρ te (bind ms fun as => ret (.lst as)) := fun W0 M W σ e Q Ψ Ξ hm k kx =>
  h W0 M W σ e _ _ _ hm (fun as v W1 g1 r h2 => by
    obtain ⟨W3, e1, _, g3, p3⟩ := settleO e g1 r
    rw [← e1]
    exact k (.lst as) v W3 g3 p3 h2) kx
theorem ep_tup {ms : W (List PV)} (ha : VP K Z ρ tA ms) : EP K Z ρ (tTup tA) (bind ms fun as => lift (if as.length ≤ 100000 then some (.tup as) else none)) := fun W0 M W σ e Q Ψ Ξ hm k kx =>
  ha W0 M W σ e _ _ _ hm (fun as vs W1 g1 al ⟨c, ec, hc⟩ => by
    split at ec
    · rename_i hl
      cases ec
      refine ⟨sz_of (by rw [al.length, mps_len]; exact hl), fun p hp => ?_⟩
      have gr := grow_tupA (us := vs) g1.sub hp
      have G2 : Go σ ρ W1 ⟨upd W1.r p (.tup vs), upd W1.h p (.tup vs)⟩ := ⟨gr.1, gr.2.more fun _ z => z.elim, fun q b => by
        obtain ⟨x, y, h⟩ := g1.bg q b
        exact ⟨x, y, gr.2.h _ _ (fun z => z) h⟩⟩
      exact k (.tup as) _ ⟨upd W1.r p (.tup vs), upd W1.h p (.tup vs)⟩ (g1.trans G2) ⟨p, vs, rfl, SqT.of upd_same, al.mono gr.2.r⟩ hc
    · cases ec) kx
end
end PL

namespace PL
open PySem PySem.Spec PyProof.Rows L2 Evl NF WL
/-! ### answers and ways on -/
inductive RV where
  | v (a : PV)
  | o (as : List PV)
def RV.sl (K : PySem.W.Frag) : RV → Sl
  | .v a => .val (mp K a)
  | .o as => .own (mps K as)
def RV.pv : RV → PV
  | .v a => a
  | .o as => .lst as
inductive Fl (S : Type) where
  | nx (s : S)
  | rt (r : RV)
def bindF {S T : Type} (m : W (Fl S)) (k : S → W (Fl T)) : W (Fl T) := bind m fun f => match f with
  | .nx s => k s
  | .rt r => ret (.rt r)
theorem bindF_nx {S T : Type} (s : S) (k : S → W (Fl T)) : bindF (ret (.nx s)) k = k s := rfl
theorem bindF_rt {S T : Type} (r : RV) (k : S → W (Fl T)) : bindF (ret (.rt r)) k = ret (.rt r) := rfl
structure MeetsP (K : PySem.W.Frag) (Z : WX) (W0 : Wd) (M : Addr → Prop) (D : Ends) {S : Type} (pat : S → List Sl) (Φ : Fl S → Prop) (Ξ : XV → Prop) : Prop where
  nx : ∀ W σ s, En W0 M W σ (pat s) → Φ (.nx s) → D.nx σ W.h
  rt : ∀ r v W, Ex W.r W.h → Le M W0 W → (∀ p, M p → Bg W.h p) → ROk W0 W v (RV.sl K r) → Φ (.rt r) → D.rt v W.h
  xc : ∀ x cls d σ W, Ex W.r W.h → Le M W0 W → (∀ p, M p → Bg W.h p) → XOk K W.r cls d x → Ξ x → Z cls d σ W.h
def GP (K : PySem.W.Frag) (Z : WX) (ρ : List Sl) (ts : TS) {S : Type} (pat : S → List Sl) (m : W (Fl S)) : Prop := ∀ W0 M W σ D, En W0 M W σ ρ → ∀ Φ Ξ, m Φ Ξ → MeetsP K Z W0 M D pat Φ Ξ → ts D σ W.h
section
variable {K : PySem.W.Frag} {Z : WX} {W0 W1 W2 W3 : Wd} {M : Addr → Prop} {σ : L2.St} {ρ ρ2 : List Sl} {i j : Nat} {ta tb tc te : TE} {tt : TT} {tA : TA} {ma mb mc me : W PV} {mt : W Bool} {t tu tw : TS} {S S2 : Type} {pat : S → List Sl} {pat2 : S2 → List Sl} {m : W (Fl S)}
/-- refusals that leave from within an expression -/
theorem MeetsP.x {W : Wd} {D : Ends} {Φ : Fl S → Prop} {Ξ : XV → Prop} (q : MeetsP K Z W0 M D pat Φ Ξ) (e : En W0 M W σ ρ) : ∀ x cls d W2, Go σ ρ W W2 → XOk K W2.r cls d x → Ξ x → Z cls d σ W2.h := fun x cls d W2 g h z => q.xc x cls d σ W2 g.sub (e.go g).le (e.go g).bags h z
theorem gp_seq {k : S → W (Fl S2)} (h : GP K Z ρ t pat m) (h2 : ∀ s, GP K Z (pat s) tu pat2 (k s)) : GP K Z ρ (tSeq t tu) pat2 (bindF m k) := fun W0 M W σ D e Φ Ξ hm q =>
  h W0 M W σ _ e _ _ hm ⟨fun W2 σ2 s e2 z => h2 s W0 M W2 σ2 D e2 _ _ z q, fun r v W2 a b c d z => q.rt r v W2 a b c d z, q.xc⟩
theorem gp_next {s : S} (h : pat s = ρ) : GP K Z ρ tNext pat (ret (.nx s)) := fun W0 M W σ D e Φ Ξ hm q => q.nx W σ s (h ▸ e) hm
/-- x = e, what follows -/
theorem gp_asg {k : PV → W (Fl S)} (he : EP K Z ρ te me) (h : ∀ a, GP K Z (ρ.set i (.val (mp K a))) t pat (k a)) (hi : Nat.blt i ρ.length = true := by rfl) : GP K Z ρ (tSeq (tAsg te (gName i)) t) pat (bind me k) := fun W0 M W σ D e Φ Ξ hm q =>
  he W0 M W σ e _ _ _ hm (fun a v W2 g p z => h a W0 M W2 _ D (e.set (s := .val (mp K a)) g p (Nat.le_of_ble_eq_true hi)) _ _ z q) (q.x e)
theorem gp_asg1 (he : EP K Z ρ te me) {f : PV → S} (h : ∀ a, pat (f a) = ρ.set i (.val (mp K a))) (hi : Nat.blt i ρ.length = true := by rfl) : GP K Z ρ (tAsg te (gName i)) pat (bind me fun a => ret (.nx (f a))) := fun W0 M W σ D e Φ Ξ hm q =>
  he W0 M W σ e _ _ _ hm (fun a v W2 g p z => q.nx W2 _ (f a) (h a ▸ e.set (s := .val (mp K a)) g p (Nat.le_of_ble_eq_true hi)) z) (q.x e)
/-- x = a new list that will change -/
theorem gp_own {k : List PV → W (Fl S)} {me : W (List PV)} (he : EO K Z ρ te me) (h : ∀ as, GP K Z (ρ.set i (.own (mps K as))) t pat (k as)) (hi : Nat.blt i ρ.length = true := by rfl) : GP K Z ρ (tSeq (tAsg te (gName i)) t) pat (bind me k) := fun W0 M W σ D e Φ Ξ hm q =>
  he W0 M W σ e _ _ _ hm (fun as v W2 g r z => h as W0 M W2 _ D (e.set (s := .own (mps K as)) g r (Nat.le_of_ble_eq_true hi)) _ _ z q) (q.x e)
/-- what has changed is settled -/
theorem gp_set {as : List PV} (hs : ρ[i]? = some (.own (mps K as))) (h : GP K Z (ρ.set i (.val (mp K (.lst as)))) t pat m) : GP K Z ρ t pat m := fun W0 M W σ D e Φ Ξ hm q =>
by
  obtain ⟨W', e1, _, e2⟩ := En.calm (P := mp K (.lst as)) e hs fun R p vs h1 h2 => ⟨p, vs, rfl, h1, h2⟩
  rw [← e1]
  exact h W0 M W' σ D e2 Φ Ξ hm q
/-- less is said -/
def lessS : List Sl → List Sl → Prop
  | [], [] => True
  | a :: as, b :: bs => (b = .un ∨ a = b) ∧ lessS as bs
  | _, _ => False
theorem lessS_len : ∀ {as bs : List Sl}, lessS as bs → bs.length = as.length
  | [], [], _ => rfl
  | _ :: _, _ :: _, h => congrArg Nat.succ (lessS_len h.2)
  | [], _ :: _, h => h.elim
  | _ :: _, [], h => h.elim
theorem lessS_get : ∀ {as bs : List Sl} {i : Nat} {s : Sl}, lessS as bs → bs[i]? = some s → s = .un ∨ as[i]? = some s
  | [], [], _, _, _, e => by simp at e
  | a :: as, b :: bs, 0, s, h, e => by
    have e' := Option.some.inj e
    subst e'
    rcases h.1 with h | h
    · exact .inl h
    · exact .inr (by rw [h]; rfl)
  | a :: as, b :: bs, i + 1, s, h, e => lessS_get (i := i) h.2 (by simpa using e)
  | [], _ :: _, _, _, h, _ => h.elim
  | _ :: _, [], _, _, h, _ => h.elim
theorem gp_less (hl : lessS ρ ρ2) (h : GP K Z ρ2 t pat m) : GP K Z ρ t pat m := fun W0 M W σ D e Φ Ξ hm q => h W0 M W σ D (e.less (lessS_len hl) fun i s hs => lessS_get hl hs) Φ Ξ hm q
theorem gp_to {pat1 : S → List Sl} (hl : ∀ s, lessS (pat1 s) (pat s)) (h : GP K Z ρ t pat1 m) : GP K Z ρ t pat m := fun W0 M W σ D e Φ Ξ hm q => h W0 M W σ D e Φ Ξ hm ⟨fun W σ s e z => q.nx W σ s (e.less (lessS_len (hl s)) fun i s' hs => lessS_get (hl s) hs) z, q.rt, q.xc⟩
theorem gp_drop {k : W (Fl S)} (he : EP K Z ρ te me) (h : GP K Z ρ t pat k) : GP K Z ρ (tSeq (tDrop te) t) pat (bind me fun _ => k) := fun W0 M W σ D e Φ Ξ hm q =>
  he W0 M W σ e _ _ _ hm (fun a v W2 g p z => h W0 M W2 σ D (e.go g) _ _ z q) (q.x e)
theorem gp_drop1 {s : S} (he : EP K Z ρ te me) (h : pat s = ρ) : GP K Z ρ (tDrop te) pat (bind me fun _ => ret (.nx s)) := fun W0 M W σ D e Φ Ξ hm q =>
  he W0 M W σ e _ _ _ hm (fun a v W2 g p z => q.nx W2 σ s (h ▸ e.go g) z) (q.x e)
theorem gp_ret (he : EP K Z ρ te me) : GP K Z ρ (tRet te) pat (bind me fun a => ret (.rt (.v a))) := fun W0 M W σ D e Φ Ξ hm q =>
  he W0 M W σ e _ _ _ hm (fun a v W2 g p z => q.rt (.v a) v W2 g.sub (e.go g).le (e.go g).bags p z) (q.x e)
theorem gp_retO {me : W (List PV)} (he : EO K Z ρ te me) : GP K Z ρ (tRet te) pat (bind me fun as => ret (.rt (.o as))) := fun W0 M W σ D e Φ Ξ hm q =>
  he W0 M W σ e _ _ _ hm (fun as v W2 g r z => q.rt (.o as) v W2 g.sub (e.go g).le (e.go g).bags (ROk.base (s := .own (mps K as)) e r) z) (q.x e)
theorem gp_retV {as : List PV} (h : ρ[i]? = some (.own (mps K as))) : GP K Z ρ (tRet (tVar i)) pat (ret (.rt (.o as))) := fun W0 M W σ D e Φ Ξ hm q => by
  obtain ⟨u, h1, p, vs, rfl, h3, h4, h5, h6⟩ := e.ok i _ h
  exact ⟨_, h1, q.rt (.o as) _ W e.sub e.le e.bags ⟨p, vs, rfl, h3, h4, h5, h6⟩ hm⟩
theorem gp_retN : GP K Z ρ tRetN pat (ret (.rt (.v .non))) := fun W0 M W σ D e Φ Ξ hm q => q.rt (.v .non) .non W e.sub e.le e.bags rfl hm
theorem gp_if {m1 m2 : W (Fl S)} (ht : TP K Z ρ tt mt) (h1 : GP K Z ρ tu pat m1) (h2 : GP K Z ρ tw pat m2) : GP K Z ρ (tIfS tt tu tw) pat (bind mt fun b => if b = true then m1 else m2) := fun W0 M W σ D e Φ Ξ hm q =>
  ht W0 M W σ e _ _ _ hm (fun b W2 g z => by
    cases b with
    | true => exact h1 W0 M W2 σ D (e.go g) _ _ z q
    | false => exact h2 W0 M W2 σ D (e.go g) _ _ z q) (q.x e)
/-- if t: (what never goes on), what follows -/
theorem gp_when {m1 : W (Fl Empty)} {m2 : W (Fl S)} {pe : Empty → List Sl} (ht : TP K Z ρ tt mt) (h1 : GP K Z ρ tu pe m1) (h2 : GP K Z ρ t pat m2) : GP K Z ρ (tSeq (tIfS tt tu tNext) t) pat (bind mt fun b => if b = true then bindF m1 (fun s => s.elim) else m2) := fun W0 M W σ D e Φ Ξ hm q =>
  ht W0 M W σ e _ _ _ hm (fun b W2 g z => by
    cases b with
    | true => exact h1 W0 M W2 σ _ (e.go g) _ _ z ⟨fun _ _ s => s.elim, fun r v W2 a b c d z => q.rt r v W2 a b c d z, q.xc⟩
    | false => exact h2 W0 M W2 σ D (e.go g) _ _ z q) (q.x e)
/-- two names at once -/
theorem gp_par {k : List PV → W (Fl S)} {ms : W (List PV)} (he : VP K Z ρ tA ms) (h : ∀ a b, GP K Z ((ρ.set i (.val (mp K a))).set j (.val (mp K b))) t pat (k [a, b])) (hi : Nat.blt i ρ.length = true := by rfl) (hj : Nat.blt j ρ.length = true := by rfl) : GP K Z ρ (tSeq (tPar i j tA) t) pat (bind ms fun as => bind (lift (if as.length = 2 then some as else none)) k) := fun W0 M W σ D e Φ Ξ hm q =>
  he W0 M W σ e _ _ _ hm (fun as vs W2 g al ⟨bs, eb, z⟩ => by
    match as, eb with
    | [a, b], eb =>
      cases eb
      obtain ⟨v, w, rfl, p1, p2⟩ := al.inv2
      have e1 := e.set (i := i) (s := .val (mp K a)) g p1 (Nat.le_of_ble_eq_true hi)
      exact ⟨v, w, rfl, h a b W0 M W2 _ D (e1.set (i := j) (s := .val (mp K b)) e1.id p2 (by rw [List.length_set]; exact Nat.le_of_ble_eq_true hj)) _ _ z q⟩
    | [], eb => cases eb
    | [_], eb => cases eb
    | _ :: _ :: _ :: _, eb => simp at eb) (q.x e)
theorem gp_par1 {f : PV → PV → S} {ms : W (List PV)} (he : VP K Z ρ tA ms) (h : ∀ a b, pat (f a b) = (ρ.set i (.val (mp K a))).set j (.val (mp K b))) (hi : Nat.blt i ρ.length = true := by rfl) (hj : Nat.blt j ρ.length = true := by rfl) : GP K Z ρ (tPar i j tA) pat (bind ms fun as => lift (match as with | [a, b] => some (.nx (f a b)) | _ => none)) := fun W0 M W σ D e Φ Ξ hm q =>
  he W0 M W σ e _ _ _ hm (fun as vs W2 g al ⟨bs, eb, z⟩ => by
    match as, eb with
    | [a, b], eb =>
      cases eb
      obtain ⟨v, w, rfl, p1, p2⟩ := al.inv2
      have e1 := e.set (i := i) (s := .val (mp K a)) g p1 (Nat.le_of_ble_eq_true hi)
      exact ⟨v, w, rfl, q.nx W2 _ (f a b) (h a b ▸ e1.set (i := j) (s := .val (mp K b)) e1.id p2 (by rw [List.length_set]; exact Nat.le_of_ble_eq_true hj)) z⟩
    | [], eb => cases eb
    | [_], eb => cases eb
    | _ :: _ :: _ :: _, eb => cases eb) (q.x e)
/-- x.append(e) of an own list -/
theorem gp_app {k : List PV → W (Fl S)} {as : List PV} (h : ρ[i]? = some (.own (mps K as))) (he : EP K Z ρ te me) (hk : ∀ bs, GP K Z (ρ.set i (.own (mps K bs))) t pat (k bs)) : GP K Z ρ (tSeq (tDrop (tBM K "list" rAppend (tVar i) (tCons te tNil))) t) pat (bind me fun a => bind (lift (if as.length < 100000 then some (as ++ [a]) else none)) k) := fun W0 M W σ D e Φ Ξ hm q => by
  obtain ⟨u, h1, p, vs, rfl, h3, h4, h5, h6⟩ := e.ok i _ h
  refine ⟨_, h1, .inl ⟨rfl, _, SqL.of h3⟩, ?_⟩
  refine he W0 M W σ e _ _ _ hm (fun a v W3 g3 p3 ⟨bs, eb, z⟩ => ?_) (q.x e)
  split at eb
  · rename_i hl
    cases eb
    have e3 := e.go g3
    obtain ⟨u, h1', p', vs', e2, k3, k4, k5, k6⟩ := e3.ok i _ h
    rw [h1] at h1'
    cases h1'
    cases e2
    refine ⟨p, vs', v, rfl, rfl, k3, sz_lt (by rw [k6.length, mps_len]; exact hl), ?_⟩
    refine hk (as ++ [a]) W0 M ⟨W3.r, upd W3.h p (.lst (vs' ++ [v]))⟩ σ D ?_ _ _ z q
    rw [mps_app]
    exact e3.put h h1 (k6.app (Al.one p3))
  · cases eb
theorem gp_app1 {f : List PV → S} {as : List PV} (h : ρ[i]? = some (.own (mps K as))) (he : EP K Z ρ te me) (hk : ∀ bs, pat (f bs) = ρ.set i (.own (mps K bs))) : GP K Z ρ (tDrop (tBM K "list" rAppend (tVar i) (tCons te tNil))) pat (bind me fun a => lift (if as.length < 100000 then some (.nx (f (as ++ [a]))) else none)) := fun W0 M W σ D e Φ Ξ hm q => by
  obtain ⟨u, h1, p, vs, rfl, h3, h4, h5, h6⟩ := e.ok i _ h
  refine ⟨_, h1, .inl ⟨rfl, _, SqL.of h3⟩, ?_⟩
  refine he W0 M W σ e _ _ _ hm (fun a v W3 g3 p3 ⟨bs, eb, z⟩ => ?_) (q.x e)
  split at eb
  · rename_i hl
    cases eb
    have e3 := e.go g3
    obtain ⟨u, h1', p', vs', e2, k3, k4, k5, k6⟩ := e3.ok i _ h
    rw [h1] at h1'
    cases h1'
    cases e2
    refine ⟨p, vs', v, rfl, rfl, k3, sz_lt (by rw [k6.length, mps_len]; exact hl), ?_⟩
    refine q.nx ⟨W3.r, upd W3.h p (.lst (vs' ++ [v]))⟩ σ (f (as ++ [a])) ?_ z
    rw [hk, mps_app]
    exact e3.put h h1 (k6.app (Al.one p3))
  · cases eb
end
end PL

namespace PL
open PySem PySem.Spec PyProof.Rows L2 Evl NF WL
/-! ### targets and walks -/
def TgP (K : PySem.W.Frag) {A : Type} (g : TG) (f : PV → Option A) (bd : A → Bd) : Prop := ∀ a x, f a = some x → ∀ (R H : Hp) v σ (Q : L2.St → Hp → Prop), Ex R H → (mp K a).p R v → (∀ vs, Al R vs ((bd x).map (·.2)) → Q (setV σ (bd x) vs) H) → g v σ H Q
def ItP (K : PySem.W.Frag) (J : It) (W : Wd) (as : List PV) : Prop :=
  (∀ (i : Nat) (W1 : Wd), Ex W.r W1.r → Ex W1.r W1.h → as.length ≤ i → J.stop i W1.h) ∧ (∀ (i : Nat) (W1 : Wd), Ex W.r W1.r → Ex W1.r W1.h → i < as.length → J.go i W1.h) ∧
  ∀ (i : Nat) (W1 : Wd) x H', Ex W.r W1.r → Ex W1.r W1.h → i < as.length → J.yld i W1.h x H' → ∃ W2 a, W2.h = H' ∧ Grow W1 W2 ∧ as[i]? = some a ∧ (mp K a).p W2.r x
def WkP (K : PySem.W.Frag) (Z : WX) (ρ : List Sl) (wi : TI) (m : W (List PV)) : Prop := ∀ W0 M W σ, En W0 M W σ ρ → ∀ (R : It → Hp → Prop) Ψ Ξ, m Ψ Ξ → (∀ J W2 as, Go σ ρ W W2 → ItP K J W2 as → Ψ as → R J W2.h) → (∀ x cls d W2, Go σ ρ W W2 → XOk K W2.r cls d x → Ξ x → Z cls d σ W2.h) → wi σ W.h R
def asL : PV → Option (List PV)
  | .lst as => some as
  | _ => none
def rngL : List PV → Option (List PV)
  | [.int n] => if -(2 ^ 60) < n ∧ n < 2 ^ 60 then some ((List.range n.toNat).map fun i : Nat => .int (i : Int)) else none
  | _ => none
def enumF : Nat → List PV → List PV
  | _, [] => []
  | k, a :: as => .tup [.int (k : Int), a] :: enumF (k + 1) as
def enumL : List PV → Option (List PV)
  | [.lst as] => some (enumF 0 as)
  | _ => none
def zipF : List PV → List PV → List PV
  | a :: as, b :: bs => .tup [a, b] :: zipF as bs
  | _, _ => []
def zipL : List PV → Option (List PV)
  | [.lst as, .lst bs] => some (zipF as bs)
  | _ => none
theorem enumF_len : ∀ (k : Nat) (as : List PV), (enumF k as).length = as.length
  | _, [] => rfl
  | k, _ :: as => congrArg Nat.succ (enumF_len (k + 1) as)
theorem enumF_get : ∀ (k : Nat) (as : List PV) (i : Nat) (a : PV), as[i]? = some a → (enumF k as)[i]? = some (.tup [.int ((k + i : Nat) : Int), a])
  | _, [], _, _, h => by simp at h
  | k, b :: as, 0, a, h => by
    have e := Option.some.inj h
    subst e
    rfl
  | k, b :: as, i + 1, a, h => by
    have := enumF_get (k + 1) as i a (by simpa using h)
    rw [show k + 1 + i = k + (i + 1) by omega] at this
    exact this
theorem zipF_len : ∀ (as bs : List PV), (zipF as bs).length = min as.length bs.length
  | [], _ => by simp [zipF]
  | _ :: _, [] => by simp [zipF]
  | _ :: as, _ :: bs => by simp [zipF, zipF_len as bs]
theorem zipF_get : ∀ (as bs : List PV) (i : Nat) (a b : PV), as[i]? = some a → bs[i]? = some b → (zipF as bs)[i]? = some (.tup [a, b])
  | [], _, _, _, _, h, _ => by simp at h
  | _ :: _, [], _, _, _, _, h => by simp at h
  | x :: as, y :: bs, 0, a, b, h, h' => by
    have e := Option.some.inj h
    have e' := Option.some.inj h'
    subst e e'
    rfl
  | _ :: as, _ :: bs, i + 1, a, b, h, h' => zipF_get as bs i a b (by simpa using h) (by simpa using h')
section
variable {K : PySem.W.Frag} {Z : WX} {W0 W1 W2 W3 : Wd} {M : Addr → Prop} {σ : L2.St} {ρ : List Sl} {i j k : Nat} {ta tb tc te tl : TE} {tt : TT} {tA : TA} {ma mb mc me : W PV} {ms : W (List PV)} {mt : W Bool} {t tu tw : TS} {S S2 A B : Type} {pat : S → List Sl} {m : W (Fl S)} {g : TG} {wi : TI} {f : PV → Option A} {bd : A → Bd}
theorem tg_name : TgP K (gName j) some (fun a => [(j, mp K a)]) := fun a x e R H v σ Q _ p q => by
  cases e
  exact q [v] (Al.one p)
def tupF2 {A B : Type} (f : PV → Option A) (h : PV → Option B) : PV → Option (A × B)
  | .tup [a, b] => match f a, h b with
    | some x, some y => some (x, y)
    | _, _ => none
  | _ => none
def tupF3 {A B C : Type} (f : PV → Option A) (h : PV → Option B) (l : PV → Option C) : PV → Option (A × B × C)
  | .tup [a, b, c] => match f a, h b, l c with
    | some x, some y, some z => some (x, y, z)
    | _, _, _ => none
  | _ => none
theorem setV_app : ∀ (L1 L2' : Bd) (σ : L2.St) (us ws : List V), us.length = L1.length → setV (setV σ L1 us) L2' ws = setV σ (L1 ++ L2') (us ++ ws)
  | [], _, _, [], _, _ => rfl
  | [], _, _, _ :: _, _, h => by cases h
  | _ :: _, _, _, [], _, h => by cases h
  | (j, P) :: L1, L2', σ, u :: us, ws, h => setV_app L1 L2' (σ.set j (some u)) us ws (by simpa using h)
theorem tg_tup2 {g2 : TG} {f2 : PV → Option B} {bd2 : B → Bd} (h1 : TgP K g f bd) (h2 : TgP K g2 f2 bd2) : TgP K (gTup K 2 (gCons g (gCons g2 gNil))) (tupF2 f f2) (fun x => bd x.1 ++ bd2 x.2) := fun a x e R H v σ Q s p q => by
  match a, e with
  | .tup [a, b], e =>
    simp only [tupF2] at e
    cases c1 : f a with
    | none => rw [c1] at e; cases e
    | some x1 =>
      cases c2 : f2 b with
      | none => rw [c1, c2] at e; cases e
      | some x2 =>
        rw [c1, c2] at e
        cases e
        obtain ⟨pp, vs, rfl, hs, al⟩ := p
        obtain ⟨u, w, rfl, p1, p2⟩ := Al.inv2 al
        refine ⟨pp, _, rfl, ex_t s hs, rfl, u, [w], rfl, h1 a x1 c1 R H u σ _ s p1 fun us al1 => ⟨w, [], rfl, h2 b x2 c2 R H w _ _ s p2 fun ws al2 => ⟨rfl, ?_⟩⟩⟩
        rw [setV_app _ _ _ _ _ (by rw [al1.length, List.length_map])]
        exact q (us ++ ws) (by show Al R (us ++ ws) ((bd x1 ++ bd2 x2).map (·.2)); rw [List.map_append]; exact al1.app al2)
theorem tg_tup3 {C : Type} {g2 g3 : TG} {f2 : PV → Option B} {bd2 : B → Bd} {f3 : PV → Option C} {bd3 : C → Bd} (h1 : TgP K g f bd) (h2 : TgP K g2 f2 bd2) (h3 : TgP K g3 f3 bd3) : TgP K (gTup K 3 (gCons g (gCons g2 (gCons g3 gNil)))) (tupF3 f f2 f3) (fun x => bd x.1 ++ (bd2 x.2.1 ++ bd3 x.2.2)) := fun a x e R H v σ Q s p q => by
  match a, e with
  | .tup [a, b, c], e =>
    simp only [tupF3] at e
    cases c1 : f a with
    | none => rw [c1] at e; cases e
    | some x1 =>
      cases c2 : f2 b with
      | none => rw [c1, c2] at e; cases e
      | some x2 =>
        cases c3 : f3 c with
        | none => rw [c1, c2, c3] at e; cases e
        | some x3 =>
          rw [c1, c2, c3] at e
          cases e
          obtain ⟨pp, vs, rfl, hs, al⟩ := p
          cases al with
          | cons p1 al' =>
            rename_i u us0
            obtain ⟨w, z, rfl, p2, p3⟩ := Al.inv2 al'
            refine ⟨pp, _, rfl, ex_t s hs, rfl, u, [w, z], rfl, h1 a x1 c1 R H u σ _ s p1 fun us al1 => ⟨w, [z], rfl, h2 b x2 c2 R H w _ _ s p2 fun ws al2 => ⟨z, [], rfl, h3 c x3 c3 R H z _ _ s p3 fun zs al3 => ⟨rfl, ?_⟩⟩⟩⟩
            have l1 : us.length = List.length (bd x1) := by rw [al1.length, List.length_map]
            have l2 : ws.length = List.length (bd2 x2) := by rw [al2.length, List.length_map]
            rw [setV_app _ _ _ _ _ l2, setV_app _ _ _ _ _ l1]
            exact q (us ++ (ws ++ zs)) (by show Al R (us ++ (ws ++ zs)) ((bd x1 ++ (bd2 x2 ++ bd3 x3)).map (·.2)); rw [List.map_append, List.map_append]; exact al1.app (al2.app al3))
theorem wp_list (h : EP K Z ρ tl me) : WkP K Z ρ (iList K tl) (bind me fun a => lift (asL a)) := fun W0 M W σ e R Ψ Ξ hm kk kx =>
  h W0 M W σ e _ _ _ hm (fun a v W2 g p ⟨as, ea, z⟩ => by
    match a, ea with
    | .lst as', ea =>
      cases ea
      obtain ⟨p, vs, rfl, hp0, al⟩ := p
      have hp : SqL K W2.r p vs := SqL.of hp0
      have sq : ∀ {W1 : Wd}, Ex W2.r W1.r → Ex W1.r W1.h → SqL K W1.h p vs := fun a b => ex_l (a.trans b) hp
      have ll : vs.length = as.length := by rw [al.length, mps_len]
      refine ⟨p, rfl, ⟨vs, ex_l g.sub hp⟩, kk _ W2 as g ⟨fun i W1 a b h => ⟨vs, sq a b, by rw [ll]; exact h⟩, fun i W1 a b h => ⟨vs, _, sq a b, List.getElem?_eq_getElem (by rw [ll]; exact h)⟩, fun i W1 x H' a b hi y => ?_⟩ z⟩
      obtain ⟨rfl, y⟩ := y
      obtain ⟨P, hP, px⟩ := al.getV (y vs (sq a b))
      have hi' : as[i]? = some as[i] := List.getElem?_eq_getElem hi
      rw [mps_get hi'] at hP
      cases hP
      exact ⟨W1, as[i], rfl, Grow.refl b, hi', MP.mono _ a px⟩) kx
theorem wp_range (h : VP K Z ρ tA ms) : WkP K Z ρ (iRng1 tA) (bind ms fun as => lift (rngL as)) := fun W0 M W σ e R Ψ Ξ hm kk kx =>
  h W0 M W σ e _ _ _ hm (fun as vs W2 g al ⟨bs, eb, z⟩ => by
    match as, eb with
    | [.int n], eb =>
      simp only [rngL] at eb
      split at eb
      · rename_i hn
        cases eb
        obtain ⟨v, rfl, pv⟩ := Al.inv1 al
        cases pv
        have l0 : ((List.range n.toNat).map fun i : Nat => PV.int (i : Int)).length = n.toNat := by simp
        refine ⟨n, rfl, by omega, by omega, kk _ W2 _ g ⟨fun i W1 _ _ h => by rw [l0] at h; exact h, fun i W1 _ _ h => by rw [l0] at h; exact h, fun i W1 x H' _ sub hi y => ?_⟩ z⟩
        obtain ⟨rfl, rfl⟩ := y
        rw [l0] at hi
        refine ⟨W1, .int (i : Int), rfl, Grow.refl sub, by simp [hi], ?_⟩
        show V.int (0 + (i : Int)) = .int (i : Int)
        rw [Int.zero_add]
      · cases eb) kx
theorem wp_enum (h : VP K Z ρ tA ms) : WkP K Z ρ (iEnum K tA) (bind ms fun as => lift (enumL as)) := fun W0 M W σ e R Ψ Ξ hm kk kx =>
  h W0 M W σ e _ _ _ hm (fun as vs W2 g al ⟨bs, eb, z⟩ => by
    match as, eb with
    | [.lst as'], eb =>
      cases eb
      obtain ⟨v, rfl, p, us, rfl, hp0, al⟩ := Al.inv1 al
      have hp : SqL K W2.r p us := SqL.of hp0
      have sq : ∀ {W1 : Wd}, Ex W2.r W1.r → Ex W1.r W1.h → SqL K W1.h p us := fun a b => ex_l (a.trans b) hp
      have ll : us.length = as'.length := by rw [al.length, mps_len]
      have l0 := enumF_len 0 as'
      refine ⟨p, us, rfl, ex_l g.sub hp, kk _ W2 _ g ⟨fun i W1 a b h => ⟨us, sq a b, by rw [ll, ← l0]; exact h⟩, fun i W1 a b h => ⟨us, _, sq a b, List.getElem?_eq_getElem (by rw [ll, ← l0]; exact h)⟩, fun i W1 x H' a b hi y => ?_⟩ z⟩
      obtain ⟨T, y, rfl, nT, rfl, fy⟩ := y
      rw [l0] at hi
      obtain ⟨P, hP, px⟩ := al.getV (fy us (sq a b))
      have hi' : as'[i]? = some as'[i] := List.getElem?_eq_getElem hi
      rw [mps_get hi'] at hP
      cases hP
      have gr := grow_tup (us := [.int (i : Int), y]) b nT
      refine ⟨_, _, rfl, gr, enumF_get 0 as' i _ hi', T, _, rfl, SqT.of upd_same, .cons ?_ (Al.one (MP.mono _ gr.le.r (MP.mono _ a px)))⟩
      show V.int (i : Int) = .int ((0 + i : Nat) : Int)
      rw [Nat.zero_add]) kx
theorem wp_zip (h : VP K Z ρ tA ms) : WkP K Z ρ (iZip K tA) (bind ms fun as => lift (zipL as)) := fun W0 M W σ e R Ψ Ξ hm kk kx =>
  h W0 M W σ e _ _ _ hm (fun as vs W2 g al ⟨bs, eb, z⟩ => by
    match as, eb with
    | [.lst as', .lst bs'], eb =>
      cases eb
      obtain ⟨v, v3, rfl, ⟨p, us, rfl, hp0, al1⟩, ⟨p3, vs3, rfl, hp30, al3⟩⟩ := Al.inv2 al
      have hp : SqL K W2.r p us := SqL.of hp0
      have hp3 : SqL K W2.r p3 vs3 := SqL.of hp30
      have sq : ∀ {W1 : Wd}, Ex W2.r W1.r → Ex W1.r W1.h → SqL K W1.h p us := fun a b => ex_l (a.trans b) hp
      have sq3 : ∀ {W1 : Wd}, Ex W2.r W1.r → Ex W1.r W1.h → SqL K W1.h p3 vs3 := fun a b => ex_l (a.trans b) hp3
      have ll : us.length = as'.length := by rw [al1.length, mps_len]
      have ll3 : vs3.length = bs'.length := by rw [al3.length, mps_len]
      have l0 := zipF_len as' bs'
      refine ⟨p, p3, us, vs3, rfl, ex_l g.sub hp, ex_l g.sub hp3, kk _ W2 _ g ⟨fun i W1 a b h => ⟨us, vs3, sq a b, sq3 a b, by rw [l0] at h; omega⟩, fun i W1 a b h => ⟨us, vs3, _, _, sq a b, sq3 a b, List.getElem?_eq_getElem (by omega), List.getElem?_eq_getElem (by omega)⟩, fun i W1 x H' a b hi y => ?_⟩ z⟩
      obtain ⟨T, y, y3, rfl, nT, rfl, fy, fy3⟩ := y
      rw [l0] at hi
      obtain ⟨P, hP, px⟩ := al1.getV (fy us (sq a b))
      obtain ⟨P3, hP3, px3⟩ := al3.getV (fy3 vs3 (sq3 a b))
      have hi' : as'[i]? = some as'[i] := List.getElem?_eq_getElem (by omega)
      have hi3 : bs'[i]? = some bs'[i] := List.getElem?_eq_getElem (by omega)
      rw [mps_get hi'] at hP
      cases hP
      rw [mps_get hi3] at hP3
      cases hP3
      have gr := grow_tup (us := [y, y3]) b nT
      exact ⟨_, _, rfl, gr, zipF_get as' bs' i _ _ hi' hi3, T, _, rfl, SqT.of upd_same, .cons (MP.mono _ gr.le.r (MP.mono _ a px)) (Al.one (MP.mono _ gr.le.r (MP.mono _ a px3)))⟩) kx
/-- a, b = e -/
theorem gp_unpack {k : A → W (Fl S)} (he : EP K Z ρ te me) (hg : TgP K g f bd) (h : ∀ x, fitS (bd x) ρ.length = true ∧ GP K Z (setS ρ (bd x)) t pat (k x)) : GP K Z ρ (tSeq (tAsg te g) t) pat (bind me fun a => bind (lift (f a)) k) := fun W0 M W σ D e Φ Ξ hm q =>
  he W0 M W σ e _ _ _ hm (fun a v W2 g2 p ⟨x, ex, z⟩ => hg a x ex W2.r W2.h v σ _ g2.sub p fun vs al => (h x).2 W0 M W2 _ D ((e.go g2).sets (fitS_ok (h x).1) al) _ _ z q) (q.x e)
/-! ### for -/
def forW {S A : Type} (f : PV → Option A) (F : A → S → W (Fl S)) : List PV → S → W (Fl S)
  | [], s => ret (.nx s)
  | a :: l, s => bind (lift (f a)) fun x => bindF (F x s) (forW f F l)
theorem gp_for {F : A → S → W (Fl S)} {s0 : S} {mi : W (List PV)} (hw : WkP K Z ρ wi mi) (hg : TgP K g f bd) (h0 : lessS ρ (pat s0)) (h : ∀ x s, fitS (bd x) (pat s).length = true ∧ GP K Z (setS (pat s) (bd x)) t pat (F x s)) : GP K Z ρ (tFor wi g t) pat (bind mi fun as => forW f F as s0) := fun W0 M W σ D e Φ Ξ hm q =>
  hw W0 M W σ e _ _ _ hm (fun J W3 as g3 T z => by
    have e3 := (e.go g3).less (lessS_len h0) fun i s hs => lessS_get h0 hs
    refine ⟨fun i m σ' H' => m = as.length - i ∧ i ≤ as.length ∧ ∃ W' s, W'.h = H' ∧ En ⟨W3.r, W0.h⟩ M W' σ' (pat s) ∧ forW f F (as.drop i) s Φ Ξ, ⟨_, rfl, Nat.zero_le _, W3, s0, rfl, e3.up, z⟩, ?_⟩
    rintro i m' σ' H' ⟨rfl, hi, W', s, rfl, e', z⟩
    by_cases hlt : i < as.length
    · refine .inr ⟨T.2.1 i W' e'.le.r e'.sub hlt, fun σ' H' => ∃ W' s, W'.h = H' ∧ En ⟨W3.r, W0.h⟩ M W' σ' (pat s) ∧ forW f F (as.drop (i + 1)) s Φ Ξ, fun σ2 H2 z => ⟨as.length - (i + 1), by omega, rfl, hlt, z⟩, fun x H2 y => ?_⟩
      obtain ⟨W4, a, rfl, gr, ha, pa⟩ := T.2.2 i W' x H2 e'.le.r e'.sub hlt y
      rw [List.drop_eq_getElem_cons hlt] at z
      have ea : as[i] = a := Option.some.inj ((List.getElem?_eq_getElem hlt).symm.trans ha)
      rw [ea] at z
      obtain ⟨y, ey, z⟩ := z
      refine hg a y ey W4.r W4.h x σ' _ gr.sub pa fun vs al => ?_
      obtain ⟨hL, body⟩ := h y s
      have e4 := (e'.go (gr.go e')).sets (fitS_ok hL) al
      refine body ⟨W3.r, W0.h⟩ M W4 _ _ e4 _ _ z ⟨fun W σ s e q => ⟨W, s, rfl, e, q⟩, fun r v W sub le bg rr z => q.rt r v W sub (Le.down e3.le le) bg ?_ z, fun x cls d σ W sub le bg hx z => q.xc x cls d σ W sub (Le.down e3.le le) bg hx z⟩
      cases r with
      | v a => exact rr
      | o as => exact rr
    · have ei : i = as.length := by omega
      subst ei
      rw [List.drop_length] at z
      exact .inl ⟨T.1 _ W' e'.le.r e'.sub (Nat.le_refl _), q.nx W' σ' s (En.down e3.le e') z⟩) (q.x e)
/-! ### while -/
def iterW {S : Type} (c : S → W Bool) (F : S → W (Fl S)) : Nat → S → W (Fl S)
  | 0, _ => fail
  | n + 1, s => bind (c s) fun b => if b = true then bindF (F s) (iterW c F n) else ret (.nx s)
def whileW {S : Type} (c : S → W Bool) (F : S → W (Fl S)) (s0 : S) : W (Fl S) := fun Φ Ξ => ∃ n, iterW c F n s0 Φ Ξ
theorem gp_while {c : S → W Bool} {F : S → W (Fl S)} {s0 : S} (h0 : lessS ρ (pat s0)) (hc : ∀ s, TP K Z (pat s) tt (c s)) (h : ∀ s, GP K Z (pat s) t pat (F s)) : GP K Z ρ (tWhile tt t) pat (whileW c F s0) := fun W0 M W σ D e Φ Ξ hm q => by
  obtain ⟨n, i0⟩ := hm
  have e0 := e.less (lessS_len h0) fun i s hs => lessS_get h0 hs
  refine ⟨fun k σ' H' => ∃ W' s, W'.h = H' ∧ En W0 M W' σ' (pat s) ∧ iterW c F k s Φ Ξ, ⟨n, W, s0, rfl, e0, i0⟩, ?_⟩
  rintro k σ' H' ⟨W', s, rfl, e', z⟩
  cases k with
  | zero => exact z.elim
  | succ k =>
    refine hc s W0 M W' σ' e' _ _ _ z (fun b W2 g2 z => ?_) (q.x e')
    cases b with
    | true => exact ⟨fun σ' H' => ∃ W' s, W'.h = H' ∧ En W0 M W' σ' (pat s) ∧ iterW c F k s Φ Ξ, fun σ' H' ⟨W', s, a, b, d⟩ => ⟨k, Nat.lt_succ_self k, W', s, a, b, d⟩, h s W0 M W2 σ' _ (e'.go g2) _ _ z ⟨fun W σ s e q => ⟨W, s, rfl, e, q⟩, fun r v W a b c d z => q.rt r v W a b c d z, q.xc⟩⟩
    | false => exact q.nx W2 σ' s (e'.go g2) z
/-! ### comprehensions -/
def lcF {A : Type} (f : PV → Option A) (c : A → W Bool) (F : A → W PV) : List PV → W (List PV)
  | [] => ret []
  | a :: l => bind (lift (f a)) fun x => bind (c x) fun b => if b = true then bind (F x) fun y => bind (lcF f c F l) fun ys => ret (y :: ys) else lcF f c F l
def noX {α : Type} (m : W α) : W α := fun Ψ _ => m Ψ fun _ => False
def lcW {A : Type} (f : PV → Option A) (c : A → W Bool) (F : A → W PV) (as : List PV) : W (List PV) := bind (lift (if as.length ≤ 50000 then some as else none)) fun as => noX (lcF f c F as)
theorem eo_lc {vs : List Nat} {c : A → W Bool} {F : A → W PV} {mi : W (List PV)} {Z' : WX} (hw : WkP K Z ρ wi mi) (hg : TgP K g f bd) (hb : ∀ x, fitC (bd x) ρ.length vs = true ∧ TP K Z' (setS (wipeS ρ vs) (bd x)) tt (c x) ∧ EP K Z' (setS (wipeS ρ vs) (bd x)) te (F x)) :
    EO K Z ρ (tLc wi g tt te vs) (bind mi fun as => lcW f c F as) := fun W0 M W σ e Q Ψ Ξ hm k kx => hw W0 M W σ e _ _ _ hm (fun J W2 as g2 T z => by
  obtain ⟨as', ea, z⟩ := z
  split at ea
  case isFalse => cases ea
  rename_i hn
  cases ea
  intro Dl hD
  have e2 := e.go g2
  have nb : ∀ {p}, Bags σ ρ p → p ≠ Dl := fun b z => by
    obtain ⟨_, _, x⟩ := (e2.bag b).1
    rw [z, hD] at x
    cases x
  have rD : W2.r Dl = none := by
    cases c : W2.r Dl with
    | none => rfl
    | some o => rw [g2.sub _ _ c] at hD; cases hD
  refine ⟨fun i m H' => m = as.length - i ∧ i ≤ as.length ∧ ∃ W' av ap, W'.h = H' ∧ Go σ ρ W2 W' ∧ H' Dl = some (.lst av) ∧ W'.r Dl = none ∧ Al W'.r av (mps K ap) ∧ ap.length ≤ i ∧ lcF f c F (as.drop i) (fun ys => Ψ (ap ++ ys)) (fun _ => False), ⟨_, rfl, Nat.zero_le _, ?_⟩, ?_⟩
  · obtain ⟨W3, e1, e4, g3, _⟩ := e_new (Ps := []) e2 e2.id hD .nil
    exact ⟨W3, [], [], e1, g3, upd_same, by rw [e4]; exact rD, .nil, Nat.le_refl _, z⟩
  · rintro i m' H' ⟨rfl, hi, W', av, ap, rfl, g', hDl, rD', al, hlen, q⟩
    have e' := e2.go g'
    by_cases hlt : i < as.length
    · refine .inr ⟨T.2.1 i W' g'.le.r g'.sub hlt, fun H' => ∃ W' av ap, W'.h = H' ∧ Go σ ρ W2 W' ∧ H' Dl = some (.lst av) ∧ W'.r Dl = none ∧ Al W'.r av (mps K ap) ∧ ap.length ≤ i + 1 ∧ lcF f c F (as.drop (i + 1)) (fun ys => Ψ (ap ++ ys)) (fun _ => False), fun H2 z => ⟨as.length - (i + 1), by omega, rfl, hlt, z⟩, fun x H2 y => ?_⟩
      obtain ⟨W4, a, rfl, gr, ha, pa⟩ := T.2.2 i W' x H2 g'.le.r g'.sub hlt y
      rw [List.drop_eq_getElem_cons hlt] at q
      have ea : as[i] = a := Option.some.inj ((List.getElem?_eq_getElem hlt).symm.trans ha)
      rw [ea] at q
      obtain ⟨y, ey, q⟩ := q
      refine hg a y ey W4.r W4.h x (L2.wipe σ vs) _ gr.sub pa fun us alu => ?_
      obtain ⟨hL', hT, hE⟩ := hb y
      have hL := fitC_ok hL'
      refine ⟨wipe_sets fun x hx => (hL x hx).2, ?_⟩
      have g4 : Go σ ρ W' W4 := gr.go e'
      have e4 : En W0 M W4 (setV (L2.wipe σ vs) (bd y) us) (setS (wipeS ρ vs) (bd y)) := ((e'.go g4).wipe vs).sets (fun x hx => by rw [wipeS_len]; exact (hL x hx).1) alu
      have sb : ∀ p, Bags (setV (L2.wipe σ vs) (bd y) us) (setS (wipeS ρ vs) (bd y)) p → Bags σ ρ p := fun p b => bags_wipe (bags_sets (by rw [alu.length, List.length_map]) b)
      refine hT W0 M W4 _ e4 _ _ _ q (fun b W5 g5 z => ?_) (fun _ _ _ _ _ _ z => z.elim)
      have G5 : Go σ ρ W' W5 := g4.trans (Go.sub_ (e'.go g4) sb g5)
      have e5 := e'.go G5
      have dl : W5.h Dl = some (.lst av) := G5.le.h _ _ (fun b => nb b rfl) hDl
      have rd : W5.r Dl = none := (G5.le.w Dl ⟨⟨_, hDl, rfl⟩, rD'⟩).2
      cases b with
      | false => exact ⟨W5, av, ap, rfl, g'.trans G5, dl, rd, al.mono G5.le.r, by omega, z⟩
      | true =>
        refine hE W0 M W5 _ (e4.go g5) _ _ _ z (fun a v W7 g7 p7 hI => ?_) (fun _ _ _ _ _ _ z => z.elim)
        have G7 : Go σ ρ W5 W7 := Go.sub_ e5 sb g7
        have dl7 : W7.h Dl = some (.lst av) := G7.le.h _ _ (fun b => nb b rfl) dl
        have rd7 : W7.r Dl = none := (G7.le.w Dl ⟨⟨_, dl, rfl⟩, rd⟩).2
        have al7 := (al.mono G5.le.r).mono G7.le.r
        have GG := (g'.trans G5).trans G7
        refine ⟨av, dl7, sz_lt (by rw [al.length, mps_len]; omega), ?_⟩
        refine ⟨⟨W7.r, upd W7.h Dl (.lst (av ++ [v]))⟩, av ++ [v], ap ++ [a], rfl, ⟨fun a o ha => ?_, ⟨GG.le.r, fun p o n hp => ?_, fun p hp => ?_⟩, fun p b => ?_⟩, upd_same, rd7, by rw [mps_app]; exact al7.app (Al.one p7), by simp; omega, by have hI' : lcF f c F (List.drop (i + 1) as) (fun ys => Ψ (ap ++ (a :: ys))) (fun _ => False) := hI; simpa using hI'⟩
        · have c : a ≠ Dl := fun z => by
            have ha' : W7.r a = some o := ha
            rw [z, rd7] at ha'
            cases ha'
          show upd W7.h Dl _ a = _
          rw [upd_ne c]
          exact GG.sub _ _ ha
        · have c : p ≠ Dl := fun z => by rw [z, hD] at hp; cases hp
          show upd W7.h Dl _ p = _
          rw [upd_ne c]
          exact GG.le.h _ _ n hp
        · have c : p ≠ Dl := fun z => by
            obtain ⟨⟨xs, hx, _⟩, _⟩ := hp
            rw [z, hD] at hx
            cases hx
          obtain ⟨⟨xs, hx, hnt⟩, hr⟩ := GG.le.w p hp
          exact ⟨⟨xs, by show upd W7.h Dl _ p = _; rw [upd_ne c]; exact hx, hnt⟩, hr⟩
        · obtain ⟨x, y, hb⟩ := GG.bg p b
          exact ⟨x, y, by show upd W7.h Dl _ p = _; rw [upd_ne (nb b)]; exact hb⟩
    · have ei : i = as.length := by omega
      subst ei
      rw [List.drop_length] at q
      have q' : Ψ (ap ++ []) := q
      rw [List.append_nil] at q'
      refine .inl ⟨T.1 _ W' g'.le.r g'.sub (Nat.le_refl _), k ap _ W' (g2.trans g') (ROk.back (s := .own (mps K ap)) e g2 ⟨Dl, av, rfl, hDl, rD', hD, al⟩) q'⟩) kx
end
end PL

namespace PL
open PySem PySem.Spec PyProof.Rows L2 Evl NF WL
/-! ### what a def promises: that it does what F tells -/
def spW (K : PySem.W.Frag) (F : List Ar → W RV) : Sp := fun vs H Q E => ∃ (W : Wd) (as : List Ar) (Ψ : RV → Prop) (Ξ : XV → Prop), W.h = H ∧ Ex W.r W.h ∧ POks W vs (as.map (Ar.sl K)) ∧ oneBag (as.map (Ar.sl K)) = true ∧ F as Ψ Ξ ∧
  (∀ r v W2, Ex W2.r W2.h → Le (BagOf vs (as.map (Ar.sl K))) W W2 → (∀ p, BagOf vs (as.map (Ar.sl K)) p → Bg W2.h p) → ROk W W2 v (RV.sl K r) → Ψ r → Q v W2.h) ∧
  ∀ x cls d W2, Ex W2.r W2.h → Le (BagOf vs (as.map (Ar.sl K))) W W2 → (∀ p, BagOf vs (as.map (Ar.sl K)) p → Bg W2.h p) → XOk K W2.r cls d x → Ξ x → E cls d W2.h
def runF (m : W (Fl Unit)) : W RV := bind m fun f => match f with
  | .nx _ => ret (.v .non)
  | .rt r => ret r
/-! how a def's arguments stand -/
def ar1 (F : PV → W RV) : List Ar → W RV
  | [.v a] => F a
  | _ => fail
def ar2 (F : PV → PV → W RV) : List Ar → W RV
  | [.v a, .v b] => F a b
  | _ => fail
def ar3 (F : PV → PV → PV → W RV) : List Ar → W RV
  | [.v a, .v b, .v c] => F a b c
  | _ => fail
def ar4 (F : PV → PV → PV → PV → W RV) : List Ar → W RV
  | [.v a, .v b, .v c, .v d] => F a b c d
  | _ => fail
def ar5 (F : PV → PV → PV → PV → PV → W RV) : List Ar → W RV
  | [.v a, .v b, .v c, .v d, .v e] => F a b c d e
  | _ => fail
def ab0 (F : W RV) : List Ar → W RV
  | [.bag] => F
  | _ => fail
def ab1 (F : PV → W RV) : List Ar → W RV
  | [.bag, .v a] => F a
  | _ => fail
def ab2 (F : PV → PV → W RV) : List Ar → W RV
  | [.bag, .v a, .v b] => F a b
  | _ => fail
def ab3 (F : PV → PV → PV → W RV) : List Ar → W RV
  | [.bag, .v a, .v b, .v c] => F a b c
  | _ => fail
def ab4 (F : PV → PV → PV → PV → W RV) : List Ar → W RV
  | [.bag, .v a, .v b, .v c, .v d] => F a b c d
  | _ => fail
theorem ar1_inv {F : PV → W RV} {as : List Ar} {Ψ Ξ} (h : ar1 F as Ψ Ξ) : ∃ a, as = [.v a] ∧ F a Ψ Ξ := by
  unfold ar1 at h
  split at h
  · exact ⟨_, rfl, h⟩
  · exact h.elim
theorem ar2_inv {F : PV → PV → W RV} {as : List Ar} {Ψ Ξ} (h : ar2 F as Ψ Ξ) : ∃ a b, as = [.v a, .v b] ∧ F a b Ψ Ξ := by
  unfold ar2 at h
  split at h
  · exact ⟨_, _, rfl, h⟩
  · exact h.elim
theorem ar3_inv {F : PV → PV → PV → W RV} {as : List Ar} {Ψ Ξ} (h : ar3 F as Ψ Ξ) : ∃ a b c, as = [.v a, .v b, .v c] ∧ F a b c Ψ Ξ := by
  unfold ar3 at h
  split at h
  · exact ⟨_, _, _, rfl, h⟩
  · exact h.elim
theorem ar4_inv {F : PV → PV → PV → PV → W RV} {as : List Ar} {Ψ Ξ} (h : ar4 F as Ψ Ξ) : ∃ a b c d, as = [.v a, .v b, .v c, .v d] ∧ F a b c d Ψ Ξ := by
  unfold ar4 at h
  split at h
  · exact ⟨_, _, _, _, rfl, h⟩
  · exact h.elim
theorem ar5_inv {F : PV → PV → PV → PV → PV → W RV} {as : List Ar} {Ψ Ξ} (h : ar5 F as Ψ Ξ) : ∃ a b c d e, as = [.v a, .v b, .v c, .v d, .v e] ∧ F a b c d e Ψ Ξ := by
  unfold ar5 at h
  split at h
  · exact ⟨_, _, _, _, _, rfl, h⟩
  · exact h.elim
theorem ab0_inv {F : W RV} {as : List Ar} {Ψ Ξ} (h : ab0 F as Ψ Ξ) : as = [.bag] ∧ F Ψ Ξ := by
  unfold ab0 at h
  split at h
  · exact ⟨rfl, h⟩
  · exact h.elim
theorem ab1_inv {F : PV → W RV} {as : List Ar} {Ψ Ξ} (h : ab1 F as Ψ Ξ) : ∃ a, as = [.bag, .v a] ∧ F a Ψ Ξ := by
  unfold ab1 at h
  split at h
  · exact ⟨_, rfl, h⟩
  · exact h.elim
theorem ab2_inv {F : PV → PV → W RV} {as : List Ar} {Ψ Ξ} (h : ab2 F as Ψ Ξ) : ∃ a b, as = [.bag, .v a, .v b] ∧ F a b Ψ Ξ := by
  unfold ab2 at h
  split at h
  · exact ⟨_, _, rfl, h⟩
  · exact h.elim
theorem ab3_inv {F : PV → PV → PV → W RV} {as : List Ar} {Ψ Ξ} (h : ab3 F as Ψ Ξ) : ∃ a b c, as = [.bag, .v a, .v b, .v c] ∧ F a b c Ψ Ξ := by
  unfold ab3 at h
  split at h
  · exact ⟨_, _, _, rfl, h⟩
  · exact h.elim
theorem ab4_inv {F : PV → PV → PV → PV → W RV} {as : List Ar} {Ψ Ξ} (h : ab4 F as Ψ Ξ) : ∃ a b c d, as = [.bag, .v a, .v b, .v c, .v d] ∧ F a b c d Ψ Ξ := by
  unfold ab4 at h
  split at h
  · exact ⟨_, _, _, _, rfl, h⟩
  · exact h.elim
def OB (K : PySem.W.Frag) (F : List Ar → W RV) : Prop := ∀ as Ψ Ξ, F as Ψ Ξ → oneBag (as.map (Ar.sl K)) = true
theorem ob_ar1 {K : PySem.W.Frag} {F : PV → W RV} : OB K (ar1 F) := fun as Ψ Ξ h => by
  obtain ⟨_, rfl, _⟩ := ar1_inv h
  rfl
theorem le_ar1 {F : PV → W RV} : ∀ as Ψ Ξ, ar1 F as Ψ Ξ → as.length = 1 := fun as Ψ Ξ h => by
  obtain ⟨_, rfl, _⟩ := ar1_inv h
  rfl
theorem ob_ar2 {K : PySem.W.Frag} {F : PV → PV → W RV} : OB K (ar2 F) := fun as Ψ Ξ h => by
  obtain ⟨_, _, rfl, _⟩ := ar2_inv h
  rfl
theorem le_ar2 {F : PV → PV → W RV} : ∀ as Ψ Ξ, ar2 F as Ψ Ξ → as.length = 2 := fun as Ψ Ξ h => by
  obtain ⟨_, _, rfl, _⟩ := ar2_inv h
  rfl
theorem ob_ar3 {K : PySem.W.Frag} {F : PV → PV → PV → W RV} : OB K (ar3 F) := fun as Ψ Ξ h => by
  obtain ⟨_, _, _, rfl, _⟩ := ar3_inv h
  rfl
theorem le_ar3 {F : PV → PV → PV → W RV} : ∀ as Ψ Ξ, ar3 F as Ψ Ξ → as.length = 3 := fun as Ψ Ξ h => by
  obtain ⟨_, _, _, rfl, _⟩ := ar3_inv h
  rfl
theorem ob_ar4 {K : PySem.W.Frag} {F : PV → PV → PV → PV → W RV} : OB K (ar4 F) := fun as Ψ Ξ h => by
  obtain ⟨_, _, _, _, rfl, _⟩ := ar4_inv h
  rfl
theorem le_ar4 {F : PV → PV → PV → PV → W RV} : ∀ as Ψ Ξ, ar4 F as Ψ Ξ → as.length = 4 := fun as Ψ Ξ h => by
  obtain ⟨_, _, _, _, rfl, _⟩ := ar4_inv h
  rfl
theorem ob_ar5 {K : PySem.W.Frag} {F : PV → PV → PV → PV → PV → W RV} : OB K (ar5 F) := fun as Ψ Ξ h => by
  obtain ⟨_, _, _, _, _, rfl, _⟩ := ar5_inv h
  rfl
theorem le_ar5 {F : PV → PV → PV → PV → PV → W RV} : ∀ as Ψ Ξ, ar5 F as Ψ Ξ → as.length = 5 := fun as Ψ Ξ h => by
  obtain ⟨_, _, _, _, _, rfl, _⟩ := ar5_inv h
  rfl
theorem ob_ab0 {K : PySem.W.Frag} {F : W RV} : OB K (ab0 F) := fun as Ψ Ξ h => by
  obtain ⟨rfl, _⟩ := ab0_inv h
  rfl
theorem le_ab0 {F : W RV} : ∀ as Ψ Ξ, ab0 F as Ψ Ξ → as.length = 1 := fun as Ψ Ξ h => by
  obtain ⟨rfl, _⟩ := ab0_inv h
  rfl
theorem ob_ab1 {K : PySem.W.Frag} {F : PV → W RV} : OB K (ab1 F) := fun as Ψ Ξ h => by
  obtain ⟨_, rfl, _⟩ := ab1_inv h
  rfl
theorem le_ab1 {F : PV → W RV} : ∀ as Ψ Ξ, ab1 F as Ψ Ξ → as.length = 2 := fun as Ψ Ξ h => by
  obtain ⟨_, rfl, _⟩ := ab1_inv h
  rfl
theorem ob_ab2 {K : PySem.W.Frag} {F : PV → PV → W RV} : OB K (ab2 F) := fun as Ψ Ξ h => by
  obtain ⟨_, _, rfl, _⟩ := ab2_inv h
  rfl
theorem le_ab2 {F : PV → PV → W RV} : ∀ as Ψ Ξ, ab2 F as Ψ Ξ → as.length = 3 := fun as Ψ Ξ h => by
  obtain ⟨_, _, rfl, _⟩ := ab2_inv h
  rfl
theorem ob_ab3 {K : PySem.W.Frag} {F : PV → PV → PV → W RV} : OB K (ab3 F) := fun as Ψ Ξ h => by
  obtain ⟨_, _, _, rfl, _⟩ := ab3_inv h
  rfl
theorem le_ab3 {F : PV → PV → PV → W RV} : ∀ as Ψ Ξ, ab3 F as Ψ Ξ → as.length = 4 := fun as Ψ Ξ h => by
  obtain ⟨_, _, _, rfl, _⟩ := ab3_inv h
  rfl
theorem ob_ab4 {K : PySem.W.Frag} {F : PV → PV → PV → PV → W RV} : OB K (ab4 F) := fun as Ψ Ξ h => by
  obtain ⟨_, _, _, _, rfl, _⟩ := ab4_inv h
  rfl
theorem le_ab4 {F : PV → PV → PV → PV → W RV} : ∀ as Ψ Ξ, ab4 F as Ψ Ξ → as.length = 5 := fun as Ψ Ξ h => by
  obtain ⟨_, _, _, _, rfl, _⟩ := ab4_inv h
  rfl
section
variable {K : PySem.W.Frag} {Z : WX} {W0 W1 W2 W3 : Wd} {M : Addr → Prop} {σ : L2.St} {ρ : List Sl} {i j k : Nat} {te : TE} {tA : TA} {ma : W (List Ar)} {F : List Ar → W RV} {dvs : List V} {Ex0 : XK}
/-- the defaults of a def, as values -/
def dAr (ds : List PV) : List Ar := ds.map .v
theorem aoks_app {W : Wd} {ds : List PV} {ws : List V} (a : Al W.r ws (mps K ds)) : ∀ {vs : List V} {as : List Ar}, AOks σ ρ W vs (as.map (Ar.sl K)) → AOks σ ρ W (vs ++ ws) ((as ++ dAr ds).map (Ar.sl K)) := fun {vs as} h => by
  have := h.app a
  rw [List.map_append]
  have e : (dAr ds).map (Ar.sl K) = (mps K ds).map .val := by
    rw [mps_map]
    unfold dAr
    rw [List.map_map, List.map_map]
    rfl
  rw [e]
  exact this
/-- a call of a def that lets nothing out -/
theorem call_core {ds : List PV} (hd : ∀ H, Al H dvs (mps K ds)) (ha : AP K Z ρ tA ma) (ob : OB K F) {W : Wd} (e : En W0 M W σ ρ) {Q : VK} {Ψ : RV → Prop} {Ξ : XV → Prop} (hm : ma (fun as => F (as ++ dAr ds) Ψ fun _ => False) Ξ)
    (k : ∀ r v W2, Go σ ρ W W2 → ROk W W2 v (RV.sl K r) → Ψ r → Q v W2.h) (kx : ∀ x cls d W2, Go σ ρ W W2 → XOk K W2.r cls d x → Ξ x → Z cls d σ W2.h) : tCall (spW K F) dvs Ex0 tA σ W.h Q :=
  ha W0 M W σ e _ _ _ hm (fun as vs W1 g1 ak hF => by
    have ho := ob _ _ _ hF
    have as' := aoks_app (hd W1.r) ak
    refine ⟨W1, as ++ dAr ds, Ψ, fun _ => False, rfl, g1.sub, as'.pok (e.go g1), ho, hF, fun r v W2 sub le bg rr z => ?_, fun _ _ _ _ _ _ _ _ z => z.elim⟩
    have g2 : Go σ ρ W1 W2 := ⟨sub, le.more fun p b => as'.bag b, fun p b => by
      by_cases c : BagOf (vs ++ dvs) ((as ++ dAr ds).map (Ar.sl K)) p
      · exact bg p c
      · obtain ⟨x, y, hb⟩ := ((e.go g1).bag b).1
        exact ⟨x, y, le.h _ _ c hb⟩⟩
    exact k r v W2 (g1.trans g2) (ROk.back e g1 rr) z) kx
theorem ep_call {ds : List PV} (hd : ∀ H, Al H dvs (mps K ds)) (ha : AP K Z ρ tA ma) (ob : OB K F) : EP K Z ρ (tCall (spW K F) dvs Ex0 tA) (bind ma fun as => bind (noX (F (as ++ dAr ds))) fun r => ret r.pv) := fun W0 M W σ e Q Ψ Ξ hm kk kx =>
  call_core hd ha ob e hm (fun r v W2 g rr z => by
    cases r with
    | v a => exact kk a v W2 g rr z
    | o as =>
      obtain ⟨W3, e1, _, g3, p3⟩ := settleO e g rr
      rw [← e1]
      exact kk (.lst as) v W3 g3 p3 z) kx
def asO : RV → Option (List PV)
  | .o as => some as
  | _ => none
theorem eo_call {ds : List PV} (hd : ∀ H, Al H dvs (mps K ds)) (ha : AP K Z ρ tA ma) (ob : OB K F) : EO K Z ρ (tCall (spW K F) dvs Ex0 tA) (bind ma fun as => bind (noX (F (as ++ dAr ds))) fun r => lift (asO r)) := fun W0 M W σ e Q Ψ Ξ hm kk kx =>
  call_core hd ha ob e hm (fun r v W2 g rr z => by
    obtain ⟨as, ea, z⟩ := z
    cases r with
    | v a => cases ea
    | o bs =>
      cases ea
      exact kk _ v W2 g rr z) kx
end
/-! ### a def by its body -/
section
variable {P : Program} {w : World} {K : PySem.W.Frag} {mg : Str → Option Value} {base : Heap} {f : Addr} {fd : FuncData} {F : List Ar → W RV}
theorem fnW_core {N : List Str} {t : TS} {vs : List V} {H : Hp} {Q : VK} {E : XK} (h : spW K F vs H Q E) (hl : ∀ as Ψ Ξ, F as Ψ Ξ → as.length ≤ N.length)
    (hb : ∀ as Ψ Ξ, F as Ψ Ξ → ∃ m : W (Fl Unit), runF m Ψ Ξ ∧ GP K (fun cls d _ H => E cls d H) (as.map (Ar.sl K) ++ List.replicate (N.length - as.length) .un) t (fun _ => List.replicate N.length .un) m) : t { nx := fun _ G => Q .non G, rt := Q } (start N vs) H := by
  obtain ⟨W, as, Ψ, Ξ, rfl, sub, pk, ob, hF, q, qx⟩ := h
  obtain ⟨m, hm, g⟩ := hb as Ψ Ξ hF
  have e := en_start (N := N) sub pk ob (by rw [List.length_map]; exact hl as Ψ Ξ hF)
  rw [List.length_map] at e
  exact g W _ W _ _ e _ _ hm ⟨fun W2 σ s e z => q (.v .non) .non W2 e.sub e.le e.bags rfl z, fun r v W2 sub le bg rr z => q r v W2 sub le bg rr z, fun x cls d σ W2 sub le bg hx z => qx x cls d W2 sub le bg hx z⟩
theorem fnW {x qual : Str} {st : Stmt} {N ps : List Str} {k : Nat} (Fn : Fun K x qual st f fd) (S : FnScope N ps (defScope st)) (hN : ps.length ≤ N.length) (hl : ∀ as Ψ Ξ, F as Ψ Ξ → as.length = ps.length)
    (hb : ∀ (cdv : Value) (A : Around) (outer : List Env) (s : Shared) (H : Hp) (E : XK), A.guards = some [] → Room k (A.deeper (envOfC qual (defScope st) s.heap.objs.size f cdv)) → ∃ t, PSs (cxOf CX0 P w K mg base N qual (defScope st) f cdv A outer s H E).nox (defBody st) t ∧
      ∀ as Ψ Ξ, F as Ψ Ξ → ∃ m : W (Fl Unit), runF m Ψ Ξ ∧ GP K (fun cls d _ H => E cls d H) (as.map (Ar.sl K) ++ List.replicate (N.length - as.length) .un) t (fun _ => List.replicate N.length .un) m) : FnG P w K mg base CX0 (k + 1) f fd ps (spW K F) := by
  refine Fun.okG Fn S (fun vs H Q E h => ?_) fun cdv A out s H vs Q E g hr h => ?_
  · obtain ⟨W, as, Ψ, Ξ, _, _, pk, _, hF, _⟩ := h
    rw [pk.length, List.length_map]
    exact hl as Ψ Ξ hF
  · obtain ⟨t, ht, b⟩ := hb cdv A out s H E g hr
    exact ⟨t, ht, fnW_core h (fun as Ψ Ξ z => by rw [hl as Ψ Ξ z]; exact hN) b⟩
theorem fnWD {x qual : Str} {params : Arguments} {body : List Stmt} {scope : Scope} {dvs : List V} {N ps : List Str} {k : Nat} (Fn : FunD K x qual params body scope dvs [] f fd) (S : FnScope N ps scope) (hN : ps.length ≤ N.length) (hl : ∀ as Ψ Ξ, F as Ψ Ξ → as.length = ps.length)
    (hb : ∀ (cdv : Value) (A : Around) (outer : List Env) (s : Shared) (H : Hp) (E : XK), A.guards = some [] → Room k (A.deeper (envOfC qual scope s.heap.objs.size f cdv)) → ∃ t, PSs (cxOf CX0 P w K mg base N qual scope f cdv A outer s H E).nox body t ∧
      ∀ as Ψ Ξ, F as Ψ Ξ → ∃ m : W (Fl Unit), runF m Ψ Ξ ∧ GP K (fun cls d _ H => E cls d H) (as.map (Ar.sl K) ++ List.replicate (N.length - as.length) .un) t (fun _ => List.replicate N.length .un) m) : FnG P w K mg base CX0 (k + 1) f fd ps (spW K F) := by
  obtain ⟨oc, od, dV, kV, doc, pm, an, cdv, ct, osl, rfl, lk, hcd, _, _⟩ := Fn.ex
  refine fn_g lk hcd S (fun vs H Q E h => ?_) fun A out s H vs Q E g hr h => ?_
  · obtain ⟨W, as, Ψ, Ξ, _, _, pk, _, hF, _⟩ := h
    rw [pk.length, List.length_map]
    exact hl as Ψ Ξ hF
  · obtain ⟨t, ht, b⟩ := hb cdv A out s H E g hr
    exact ⟨t, ht.nox, fnW_core h (fun as Ψ Ξ z => by rw [hl as Ψ Ξ z]; exact hN) b⟩
end
end PL

namespace PL
open PySem PySem.Spec PyProof.Rows L2 Evl NF WL
/-! ### data: what may be compared, shown -/
mutual
def toD : PV → Option PyData
  | .non => some .none
  | .bl b => some (.bool b)
  | .int i => some (.int i)
  | .str z => some (.str z)
  | .lst as => match toDs as with
    | some ds => some (.list ds)
    | none => none
  | .tup as => match toDs as with
    | some ds => some (.tuple ds)
    | none => none
  | .dic0 => some (.dict [])
  | .ins _ _ _ => none
  | .scr _ => none
def toDs : List PV → Option (List PyData)
  | [] => some []
  | a :: as => match toD a, toDs as with
    | some d, some ds => some (d :: ds)
    | _, _ => none
end
theorem toDs_cons {a : PV} {as : List PV} {ds : List PyData} (h : toDs (a :: as) = some ds) : ∃ d es, ds = d :: es ∧ toD a = some d ∧ toDs as = some es := by
  simp only [toDs] at h
  split at h
  · rename_i d es h1 h2
    cases h
    exact ⟨d, es, rfl, h1, h2⟩
  · cases h
theorem toD_lst {as : List PV} {d : PyData} (h : toD (.lst as) = some d) : ∃ ds, d = .list ds ∧ toDs as = some ds := by
  simp only [toD] at h
  split at h
  · rename_i ds h1
    cases h
    exact ⟨ds, rfl, h1⟩
  · cases h
theorem toD_tup {as : List PV} {d : PyData} (h : toD (.tup as) = some d) : ∃ ds, d = .tuple ds ∧ toDs as = some ds := by
  simp only [toD] at h
  split at h
  · rename_i ds h1
    cases h
    exact ⟨ds, rfl, h1⟩
  · cases h
mutual
theorem dp_of {K : PySem.W.Frag} {H : Hp} : ∀ (a : PV) (d : PyData) (v : V), toD a = some d → d.hasDict = false → (mp K a).p H v → Dp K H v d
  | .non, _, _, h, _, p => by cases h; cases p; exact .non
  | .bl b, _, _, h, _, p => by cases h; cases p; exact .bl b
  | .int i, _, _, h, _, p => by cases h; cases p; exact .int i
  | .str z, _, _, h, _, p => by cases h; cases p; exact .str z
  | .lst as, d, _, h, hh, p => by
    obtain ⟨ds, rfl, h1⟩ := toD_lst h
    obtain ⟨q, vs, rfl, hq, al⟩ := p
    exact .lst (SqL.of hq) (dps_of as ds vs h1 hh al)
  | .tup as, d, _, h, hh, p => by
    obtain ⟨ds, rfl, h1⟩ := toD_tup h
    obtain ⟨q, vs, rfl, hq, al⟩ := p
    exact .tup hq (dps_of as ds vs h1 hh al)
  | .dic0, _, _, h, hh, p => by cases h; cases hh
  | .ins _ _ _, _, _, h, _, _ => by cases h
  | .scr _, _, _, h, _, _ => by cases h
theorem dps_of {K : PySem.W.Frag} {H : Hp} : ∀ (as : List PV) (ds : List PyData) (vs : List V), toDs as = some ds → PyData.hasDictAll ds = false → Al H vs (mps K as) → DpAll K H vs ds
  | [], _, _, h, _, .nil => by cases h; exact .nil
  | a :: as, ds, _, h, hh, .cons p t => by
    obtain ⟨d, es, rfl, h1, h2⟩ := toDs_cons h
    rw [PyData.hasDictAll, Bool.or_eq_false_iff] at hh
    exact .cons (dp_of a d _ h1 hh.1 p) (dps_of as es _ h2 hh.2 t)
end
section
variable {X : Cx} {pins : List (Addr × Obj)} {σ : L2.St} {H : Hp} {s : Shared}
mutual
/-- no list within -/
def nolist : PV → Bool
  | .lst _ => false
  | .tup as => nolists as
  | _ => true
def nolists : List PV → Bool
  | [] => true
  | a :: as => nolist a && nolists as
end
mutual
/-- what is represented is read; of what holds no list nothing is sys.modules' -/
theorem reads_of (I : Inv X pins σ H s) : ∀ (a : PV) (d : PyData) (v : V) (u : Value), toD a = some d → (mp X.K a).p H v → RelV v u → ∃ as, Reads s.heap u d as ∧ (nolist a = true → sysModules ∉ as)
  | .non, _, _, _, h, p, r => by cases h; cases p; cases r; exact ⟨_, .none, by simp⟩
  | .bl b, _, _, _, h, p, r => by cases h; cases p; cases r; exact ⟨_, .bool b, by simp⟩
  | .int i, _, _, _, h, p, r => by cases h; cases p; obtain ⟨t, rfl⟩ := r; exact ⟨_, .int i t, by simp⟩
  | .str z, _, _, _, h, p, r => by cases h; cases p; obtain ⟨t, rfl⟩ := r; exact ⟨_, .str z t, by simp⟩
  | .lst as, d, _, _, h, p, r => by
    obtain ⟨ds, rfl, h1⟩ := toD_lst h
    obtain ⟨q, vs, rfl, hq, al⟩ := p
    cases r
    obtain ⟨its, rv, ⟨o, n, ho, hc, _, hd⟩, _⟩ := I.list (SqL.of hq)
    obtain ⟨bs, hr, nb⟩ := readsAll_of I as ds vs its h1 al rv
    exact ⟨_, Reads.list ho hc hd hr, fun z => by cases z⟩
  | .tup as, d, _, _, h, p, r => by
    obtain ⟨ds, rfl, h1⟩ := toD_tup h
    obtain ⟨q, vs, rfl, hq, al⟩ := p
    cases r
    obtain ⟨its, rv, ⟨o, ho, hc, n, hd⟩, _⟩ := I.tuple hq
    obtain ⟨bs, hr, nb⟩ := readsAll_of I as ds vs its h1 al rv
    exact ⟨_, Reads.tuple ho hc hd hr, fun z => nb z⟩
  | .dic0, _, _, _, h, p, r => by
    cases h
    obtain ⟨q, rfl, hq⟩ := p
    cases r
    obtain ⟨_, hs, vs, kv, o, es, ep, ho, hx, hd, _, pr, _⟩ := I.hok _ _ hq
    cases kv
    have he : es.toList = [] := List.eq_nil_of_length_eq_zero pr.length
    refine ⟨[q], Reads.dict (as := []) (bs := []) ho hx.1 hd (by rw [he]; exact .nil) (by rw [he]; exact .nil), ?_⟩
    intro _ z
    rw [List.mem_singleton] at z
    rw [← z] at hs
    simp at hs
  | .ins _ _ _, _, _, _, h, _, _ => by cases h
  | .scr _, _, _, _, h, _, _ => by cases h
theorem readsAll_of (I : Inv X pins σ H s) : ∀ (as : List PV) (ds : List PyData) (vs : List V) (us : List Value), toDs as = some ds → Al H vs (mps X.K as) → Vals vs us → ∃ bs, ReadsAll s.heap us ds bs ∧ (nolists as = true → sysModules ∉ bs)
  | [], _, _, _, h, .nil, .nil => by cases h; exact ⟨_, .nil, by simp⟩
  | a :: as, ds, _, _, h, .cons p t, .cons r q => by
    obtain ⟨d, es, rfl, h1, h2⟩ := toDs_cons h
    obtain ⟨b1, r1, n1⟩ := reads_of I a d _ _ h1 p r
    obtain ⟨b2, r2, n2⟩ := readsAll_of I as es _ _ h2 t q
    refine ⟨_, .cons r1 r2, fun z => ?_⟩
    rw [nolists, Bool.and_eq_true] at z
    rw [List.mem_append]
    rintro (y | y)
    · exact n1 z.1 y
    · exact n2 z.2 y
end
end
end PL

namespace PL
open PySem PySem.Spec PyProof.Rows L2 Evl NF WL
section
variable {X : Cx} {K : PySem.W.Frag}
theorem op_or {f : Value → Value → Sem Value} {r r' : R2} (h : OpR X f r) (h' : OpR X f r') : OpR X f fun x y H Q => r x y H Q ∨ r' x y H Q := fun pins s σ H x y v u Q I rx ry q => q.elim (h pins s σ H x y v u Q I rx ry) (h' pins s σ H x y v u Q I rx ry)
theorem ix_or {r r' : R2} (h : IxR X r) (h' : IxR X r') : IxR X fun x y H Q => r x y H Q ∨ r' x y H Q := fun va sl pins s σ H x y v u Q I rx ry q => q.elim (h va sl pins s σ H x y v u Q I rx ry) (h' va sl pins s σ H x y v u Q I rx ry)
theorem call_or {f : Value} {r r' : List V → Hp → VK → Prop} (h : CallR X f r) (h' : CallR X f r') : CallR X f fun xs H Q => r xs H Q ∨ r' xs H Q := fun pins s σ H xs us Q I rx q => q.elim (h pins s σ H xs us Q I rx) (h' pins s σ H xs us Q I rx)
/-! + of ints, texts, lists -/
def rTxt : R2 := fun x y H Q => ∃ i j, x = .str i ∧ y = .str j ∧ i.length + j.length ≤ sizeLine ∧ Q (.str (i ++ j)) H
def rAddU : R2 := fun x y H Q => rI0 (fun i j => .int (i + j)) x y H Q ∨ (rTxt x y H Q ∨ rCat x y H Q)
theorem op_addU : OpR X (binaryOp .Add) rAddU := op_or op_add (op_or op_add_str op_cat)
/-! subscripts -/
def rIxU (K : PySem.W.Frag) : R2 := fun x y H Q => rIxL K x y H Q ∨ (rIxT K x y H Q ∨ rIxS x y H Q)
theorem ix_U (h : X.K = K) : IxR X (rIxU K) := h ▸ ix_or ix_list (ix_or ix_tup ix_str)
/-! len -/
def rLenZ : List V → Hp → VK → Prop := fun xs H Q => ∃ z, xs = [.str z] ∧ z.length ≤ sizeLine ∧ Q (.int z.length) H
def rLenU (K : PySem.W.Frag) : List V → Hp → VK → Prop := fun xs H Q => Evl.rLenS K xs H Q ∨ rLenZ xs H Q
theorem call_lenU (h : X.K = K) : CallR X (.builtin "len") (rLenU K) := h ▸ call_or call_len_seq call_len_str
/-! repr -/
def FineP (a : PV) (d : PyData) : Prop := d.showable = true ∧ (d.hasDict = false ∨ nolist a = true) ∧ d.depth ≤ 20 ∧ d.shown.length ≤ sizeLine
instance (a : PV) (d : PyData) : Decidable (FineP a d) := by unfold FineP; infer_instance
def rRepP (K : PySem.W.Frag) : List V → Hp → VK → Prop := fun xs H Q => ∃ (x : V) (a : PV) (d : PyData), xs = [x] ∧ (mp K a).p H x ∧ toD a = some d ∧ FineP a d ∧ Q (.str d.shown) H
theorem call_repP (h : X.K = K) (gd : X.A.guards = some []) (hu : X.A.units + 64 < cLine) : CallR X (.builtin "repr") (rRepP K) := by
  subst h
  intro pins s σ H xs us Q I r h
  obtain ⟨x, a, d, rfl, pa, hd, ⟨f1, f2, f3, f4⟩, q⟩ := h
  obtain ⟨u, rfl, ru⟩ := vals1 r
  obtain ⟨as, rd, nm0⟩ := reads_of I a d x u hd pa ru
  have nm : d.hasDict = true → sysModules ∉ as := fun z => nm0 (f2.resolve_left fun y => by rw [z] at y; cases y)
  cases rd with
  | none => exact PySem.P.repr_of_none ⟨.str _, H, I.tok _, ⟨_, rfl⟩, q⟩
  | bool b => exact PySem.P.repr_of_bool ⟨.str _, H, I.tok _, ⟨_, rfl⟩, q⟩
  | int i t => exact PySem.P.repr_of_int (by simpa only [PyData.showable, decide_eq_true_eq] using f1) ⟨.str _, H, I.tok _, ⟨_, rfl⟩, q⟩
  | str y t => exact PySem.P.repr_of_str ⟨.str _, H, I.tok _, ⟨_, rfl⟩, q⟩ f4
  | list a1 a2 a3 a4 => exact repr_of_reads' (.list a1 a2 a3 a4) f1 nm gd (by omega) (fun _ _ z => z) (fun h' t tk hk => ⟨.str _, H, I.kept hk, ⟨t, rfl⟩, q⟩) f4
  | tuple a1 a2 a3 a4 => exact repr_of_reads' (.tuple a1 a2 a3 a4) f1 nm gd (by omega) (fun _ _ z => z) (fun h' t tk hk => ⟨.str _, H, I.kept hk, ⟨t, rfl⟩, q⟩) f4
  | dict a1 a2 a3 a4 a5 => exact repr_of_reads' (.dict a1 a2 a3 a4 a5) f1 nm gd (by omega) (fun _ _ z => z) (fun h' t tk hk => ⟨.str _, H, I.kept hk, ⟨t, rfl⟩, q⟩) f4
def rEqU (K : PySem.W.Frag) : R2 := fun x y H Q => rEq x y H Q ∨ rEqD K x y H Q
def rNeU (K : PySem.W.Frag) : R2 := fun x y H Q => rNe x y H Q ∨ rNeD K x y H Q
theorem op_eqP (h : X.K = K) (hu : X.A.units + 64 < cLine) : OpR X (compareOp .Eq) (rEqU K) := h ▸ op_or op_eq (op_eqD hu)
theorem op_neP (h : X.K = K) (hu : X.A.units + 64 < cLine) : OpR X (compareOp .NotEq) (rNeU K) := h ▸ op_or op_ne (op_neD hu)
theorem call_isP (h : X.K = K) : CallR X (.builtin "isinstance") (rIsi K) := h ▸ call_isi
theorem cr_allP (h : X.K = K) (hc : X.calm = true) : CallR X (.builtin "all") (rAll K) := h ▸ cr_all hc
theorem cr_anyP (h : X.K = K) (hc : X.calm = true) : CallR X (.builtin "any") (rAny K) := h ▸ cr_any hc
theorem cr_sumP (h : X.K = K) (hc : X.calm = true) : CallR X (.builtin "sum") (rSum K) := h ▸ cr_sum hc
end
/-! ### what they do to values -/
def addF : PV → PV → Option PV
  | .int a, .int b => some (.int (a + b))
  | .str a, .str b => if a.length + b.length ≤ 100000 then some (.str (a ++ b)) else none
  | .lst as, .lst bs => if as.length + bs.length ≤ 100000 then some (.lst (as ++ bs)) else none
  | _, _ => none
def addL : PV → PV → Option (List PV)
  | .lst as, .lst bs => if as.length + bs.length ≤ 100000 then some (as ++ bs) else none
  | _, _ => none
def subF : PV → PV → Option PV
  | .int a, .int b => some (.int (a - b))
  | _, _ => none
def mulF : PV → PV → Option PV
  | .int a, .int b => if a.natAbs.log2 + b.natAbs.log2 < 1000000 then some (.int (a * b)) else none
  | _, _ => none
def modF : PV → PV → Option PV
  | .int a, .int b => if b ≠ 0 then some (.int (a.fmod b)) else none
  | _, _ => none
def fdivF : PV → PV → Option PV
  | .int a, .int b => if b ≠ 0 ∧ b.natAbs.log2 < 9000 then some (.int (a.fdiv b)) else none
  | _, _ => none
def powF : PV → PV → Option PV
  | .int a, .int b => if 0 ≤ b ∧ b ≤ 1000000 ∧ a.natAbs < 2 ^ 64 then some (.int (a ^ b.toNat)) else none
  | _, _ => none
def ltF : PV → PV → Option PV
  | .int a, .int b => some (.bl (decide (a < b)))
  | _, _ => none
def leF : PV → PV → Option PV
  | .int a, .int b => some (.bl (decide (a ≤ b)))
  | _, _ => none
def gtF : PV → PV → Option PV
  | .int a, .int b => some (.bl (decide (a > b)))
  | _, _ => none
def geF : PV → PV → Option PV
  | .int a, .int b => some (.bl (decide (a ≥ b)))
  | _, _ => none
def eqD (a b : PV) : Option PV := match toD a, toD b with
  | some d, some e => if SeqAt.shaped d = true ∧ SeqAt.shaped e = true ∧ d.hasDict = false ∧ e.hasDict = false then some (.bl (PyData.eqv d e)) else none
  | _, _ => none
def eqF : PV → PV → Option PV
  | .str a, .str b => some (.bl (decide (a = b)))
  | a, b => eqD a b
def neD (a b : PV) : Option PV := match toD a, toD b with
  | some d, some e => if SeqAt.shaped d = true ∧ SeqAt.shaped e = true ∧ d.hasDict = false ∧ e.hasDict = false then some (.bl (!PyData.eqv d e)) else none
  | _, _ => none
def neF : PV → PV → Option PV
  | .str a, .str b => some (.bl (!decide (a = b)))
  | a, b => neD a b
def isNone : PV → Bool
  | .non => true
  | _ => false
def isF (a b : PV) : Option PV := match b with
  | .non => some (.bl (isNone a))
  | _ => none
def notF (a b : PV) : Option PV := match b with
  | .non => some (.bl (!isNone a))
  | _ => none
def negF : PV → Option PV
  | .int a => some (.int (-a))
  | _ => none
/-- an item by its number, from the end where it is below nought -/
def atP (as : List PV) (i : Int) : Option PV := atI as i
def ixF : PV → PV → Option PV
  | .lst as, .int i => atI as i
  | .tup as, .int i => atI as i
  | .str z, .int i => if z.length ≤ 100000 then (atI z.cps.toList i).map fun c => .str ⟨#[c]⟩ else none
  | _, _ => none
section
variable {K : PySem.W.Frag} {Z : WX} {W0 W1 W2 W3 : Wd} {M : Addr → Prop} {σ : L2.St} {ρ : List Sl} {i j : Nat} {ta tb tc te : TE} {tt t1 t2 : TT} {tA tr : TA} {ma mb mc m : W PV} {ms : W (List PV)} {r r1 r2 : R2}
theorem ow_i0 {g : Int → Int → V} {g' : Int → Int → PV} {f : PV → PV → Option PV} (hf : ∀ a b c, f a b = some c → ∃ i j, a = .int i ∧ b = .int j ∧ c = g' i j) (hg : ∀ i j H, (mp K (g' i j)).p H (g i j)) : OpW K (rI0 g) f := fun a b c e R H x y _ px py C k => by
  obtain ⟨i, j, rfl, rfl, rfl⟩ := hf a b c e
  cases px
  cases py
  exact ⟨i, j, rfl, rfl, k _ (hg i j R)⟩
theorem ow_i {P : Int → Int → Prop} {g : Int → Int → V} {g' : Int → Int → PV} {f : PV → PV → Option PV} (hf : ∀ a b c, f a b = some c → ∃ i j, a = .int i ∧ b = .int j ∧ P i j ∧ c = g' i j) (hg : ∀ i j H, (mp K (g' i j)).p H (g i j)) : OpW K (rI P g) f := fun a b c e R H x y _ px py C k => by
  obtain ⟨i, j, rfl, rfl, hp, rfl⟩ := hf a b c e
  cases px
  cases py
  exact ⟨i, j, rfl, rfl, hp, k _ (hg i j R)⟩
theorem two_int {f : PV → PV → Option PV} {g : Int → Int → PV} (h : ∀ a b, f a b = match a, b with | .int i, .int j => some (g i j) | _, _ => none) : ∀ a b c, f a b = some c → ∃ i j, a = .int i ∧ b = .int j ∧ c = g i j := fun a b c e => by
  rw [h] at e
  split at e
  · cases e
    exact ⟨_, _, rfl, rfl, rfl⟩
  · cases e
theorem two_intP {f : PV → PV → Option PV} {P : Int → Int → Prop} [∀ i j, Decidable (P i j)] {g : Int → Int → PV} (h : ∀ a b, f a b = match a, b with | .int i, .int j => if P i j then some (g i j) else none | _, _ => none) : ∀ a b c, f a b = some c → ∃ i j, a = .int i ∧ b = .int j ∧ P i j ∧ c = g i j := fun a b c e => by
  rw [h] at e
  split at e
  · split at e
    · rename_i hp
      cases e
      exact ⟨_, _, rfl, rfl, hp, rfl⟩
    · cases e
  · cases e
theorem ow_sub : OpW K (rI0 fun i j => .int (i - j)) subF := ow_i0 (g' := fun i j => .int (i - j)) (two_int fun a b => by cases a <;> cases b <;> rfl) fun _ _ _ => rfl
theorem ow_lt : OpW K (rI0 fun i j => .bl (decide (i < j))) ltF := ow_i0 (g' := fun i j => .bl (decide (i < j))) (two_int fun a b => by cases a <;> cases b <;> rfl) fun _ _ _ => rfl
theorem ow_le : OpW K (rI0 fun i j => .bl (decide (i ≤ j))) leF := ow_i0 (g' := fun i j => .bl (decide (i ≤ j))) (two_int fun a b => by cases a <;> cases b <;> rfl) fun _ _ _ => rfl
theorem ow_gt : OpW K (rI0 fun i j => .bl (decide (i > j))) gtF := ow_i0 (g' := fun i j => .bl (decide (i > j))) (two_int fun a b => by cases a <;> cases b <;> rfl) fun _ _ _ => rfl
theorem ow_ge : OpW K (rI0 fun i j => .bl (decide (i ≥ j))) geF := ow_i0 (g' := fun i j => .bl (decide (i ≥ j))) (two_int fun a b => by cases a <;> cases b <;> rfl) fun _ _ _ => rfl
theorem ow_mul : OpW K (rI CMulW fun i j => .int (i * j)) mulF := ow_i (g' := fun i j => .int (i * j)) (two_intP (P := fun i j => i.natAbs.log2 + j.natAbs.log2 < 1000000) fun a b => by cases a <;> cases b <;> rfl) fun _ _ _ => rfl
theorem ow_mod : OpW K (rI (fun _ j => j ≠ 0) fun i j => .int (i.fmod j)) modF := ow_i (g' := fun i j => .int (i.fmod j)) (two_intP (P := fun _ j => j ≠ 0) fun a b => by cases a <;> cases b <;> rfl) fun _ _ _ => rfl
theorem ow_fdiv : OpW K (rI CDivX fun i j => .int (i.fdiv j)) fdivF := ow_i (g' := fun i j => .int (i.fdiv j)) (two_intP (P := fun _ j => j ≠ 0 ∧ j.natAbs.log2 < 9000) fun a b => by cases a <;> cases b <;> rfl) fun _ _ _ => rfl
theorem ow_pow : OpW K (rI CPow fun i j => .int (i ^ j.toNat)) powF := ow_i (g' := fun i j => .int (i ^ j.toNat)) (two_intP (P := fun i j => 0 ≤ j ∧ j ≤ 1000000 ∧ i.natAbs < 2 ^ 64) fun a b => by cases a <;> cases b <;> rfl) fun _ _ _ => rfl
theorem ow_eq : OpW K (rEqU K) eqF := fun a b c e R H x y s px py C k => by
  unfold eqF at e
  split at e
  · cases e
    cases px
    cases py
    exact .inl ⟨rfl, k _ (by simp; rfl)⟩
  · unfold eqD at e
    split at e
    · rename_i d1 d2 h1 h2
      split at e
      · rename_i hs
        cases e
        obtain ⟨s1, s2, n1, n2⟩ := hs
        exact .inr ⟨d1, d2, dp_of a d1 x h1 n1 (MP.mono _ s px), dp_of b d2 y h2 n2 (MP.mono _ s py), s1, s2, k _ rfl⟩
      · cases e
    · cases e
theorem ow_ne : OpW K (rNeU K) neF := fun a b c e R H x y s px py C k => by
  unfold neF at e
  split at e
  · cases e
    cases px
    cases py
    exact .inl ⟨rfl, k _ (by simp; rfl)⟩
  · unfold neD at e
    split at e
    · rename_i d1 d2 h1 h2
      split at e
      · rename_i hs
        cases e
        obtain ⟨s1, s2, n1, n2⟩ := hs
        exact .inr ⟨d1, d2, dp_of a d1 x h1 n1 (MP.mono _ s px), dp_of b d2 y h2 n2 (MP.mono _ s py), s1, s2, k _ rfl⟩
      · cases e
    · cases e
theorem none_p {a : PV} {H : Hp} {v : V} (p : (mp K a).p H v) : decide (v = .non) = isNone a := by
  cases a with
  | non => cases p; rfl
  | bl b => cases p; rfl
  | int i => cases p; rfl
  | str z => cases p; rfl
  | lst as => obtain ⟨q, vs, rfl, _⟩ := p; rfl
  | tup as => obtain ⟨q, vs, rfl, _⟩ := p; rfl
  | dic0 => obtain ⟨q, rfl, _⟩ := p; rfl
  | ins c ns as => obtain ⟨q, dx, vs, rfl, _⟩ := p; rfl
  | scr ns => obtain ⟨q, rfl, _⟩ := p; rfl
theorem ow_is : OpW K (fun x y H Q => y = .non ∧ Q (.bl (decide (x = .non))) H) isF := fun a b c e R H x y s px py C k => by
  unfold isF at e
  split at e
  · cases e
    cases py
    exact ⟨rfl, k _ (by rw [none_p px]; rfl)⟩
  · cases e
theorem ow_isnot : OpW K (fun x y H Q => y = .non ∧ Q (.bl (!decide (x = .non))) H) notF := fun a b c e R H x y s px py C k => by
  unfold notF at e
  split at e
  · cases e
    cases py
    exact ⟨rfl, k _ (by rw [none_p px]; rfl)⟩
  · cases e
theorem uw_neg : UnW K (rU fun i => .int (-i)) negF := fun a c e R H x s px C k => by
  match a, e with
  | .int i, e =>
    cases e
    cases px
    exact ⟨i, rfl, k _ rfl⟩
theorem atI_al {H : Hp} {vs : List V} {as : List PV} {i : Int} {c : PV} (al : Al H vs (mps K as)) (h : atI as i = some c) : ∃ v, atI vs i = some v ∧ (mp K c).p H v := by
  unfold atI at h ⊢
  have ll : vs.length = as.length := by rw [al.length, mps_len]
  rw [ll]
  cases hn : ixN as.length i with
  | none => rw [hn] at h; cases h
  | some n =>
    rw [hn] at h
    have h' : as[n]? = some c := h
    obtain ⟨v, hv, pv⟩ := al.get (mps_get h')
    exact ⟨v, hv, pv⟩
theorem ow_ix : OpW K (rIxU K) ixF := fun a b c e R H x y s px py C k => by
  match a, b, e with
  | .lst as, .int i, e =>
    obtain ⟨p, vs, rfl, hp, al⟩ := px
    cases py
    obtain ⟨v, hv, pv⟩ := atI_al al e
    exact .inl ⟨p, vs, i, v, rfl, rfl, SqL.of (s _ _ hp), hv, k v pv⟩
  | .tup as, .int i, e =>
    obtain ⟨p, vs, rfl, hp, al⟩ := px
    cases py
    obtain ⟨v, hv, pv⟩ := atI_al al e
    exact .inr (.inl ⟨p, vs, i, v, rfl, rfl, ex_t s hp, hv, k v pv⟩)
  | .str z, .int i, e =>
    simp only [ixF] at e
    split at e
    · rename_i hz
      cases px
      cases py
      cases h : atI z.cps.toList i with
      | none => rw [h] at e; cases e
      | some n =>
        rw [h] at e
        cases e
        exact .inr (.inr ⟨z, i, n, rfl, rfl, sz_of hz, h, k _ rfl⟩)
    · cases e
/-! + -/
theorem add_core (ha : EP K Z ρ ta ma) (hb : EP K Z ρ tb mb) {W : Wd} (e : En W0 M W σ ρ) {Q : VK} {Ψ : PV ⊕ List PV → Prop} {Ξ : XV → Prop} {Φ : PV → PV → Prop} (hm : ma (fun a => mb (fun b => Φ a b) Ξ) Ξ) (hΦ : ∀ a b, Φ a b → match a, b with | .lst as, .lst bs => as.length + bs.length ≤ 100000 ∧ Ψ (.inr (as ++ bs)) | a, b => ∃ c, addF a b = some c ∧ Ψ (.inl c))
    (k : ∀ c v W2, Go σ ρ W W2 → (mp K c).p W2.r v → Ψ (.inl c) → Q v W2.h) (kl : ∀ cs v W2, Go σ ρ W W2 → ROk W W2 v (.own (mps K cs)) → Ψ (.inr cs) → Q v W2.h) (kx : ∀ x cls d W2, Go σ ρ W W2 → XOk K W2.r cls d x → Ξ x → Z cls d σ W2.h) : tOp rAddU ta tb σ W.h Q :=
  ha W0 M W σ e _ _ _ hm (fun a x W1 g1 px h2 => hb W0 M W1 σ (e.go g1) _ _ _ h2 (fun b y W2 g2 py z => by
    have px := MP.mono _ g2.le.r px
    have G := g1.trans g2
    have z := hΦ a b z
    split at z
    · rename_i as bs _ _
      obtain ⟨p, vs, rfl, hp, al⟩ := px
      obtain ⟨q, us, rfl, hq, al2⟩ := py
      refine .inr (.inr ⟨p, q, vs, us, rfl, rfl, g2.sub _ _ hp, g2.sub _ _ hq, sz_of (by rw [al.length, al2.length, mps_len, mps_len]; exact z.1), fun l hl => ?_⟩)
      obtain ⟨W3, e1, _, g3, r3⟩ := e_new e G hl (al.app al2)
      rw [← e1]
      exact kl (as ++ bs) _ W3 g3 (by rw [mps_app]; exact r3) z.2
    · obtain ⟨c, ec, z⟩ := z
      match a, b, ec with
      | .int i, .int j, ec =>
        cases ec
        cases px
        cases py
        exact .inl ⟨i, j, rfl, rfl, k (.int (i + j)) _ W2 G rfl z⟩
      | .str i, .str j, ec =>
        simp only [addF] at ec
        split at ec
        · rename_i hl
          cases ec
          cases px
          cases py
          exact .inr (.inl ⟨i, j, rfl, rfl, sz_of hl, k (.str (i ++ j)) _ W2 G rfl z⟩)
        · cases ec
      | .lst as, .lst bs, ec => rename_i hn; exact (hn as bs rfl rfl).elim) fun x cls d W2 g2 => kx x cls d W2 (g1.trans g2)) kx
theorem ep_add (ha : EP K Z ρ ta ma) (hb : EP K Z ρ tb mb) : EP K Z ρ (tOp rAddU ta tb) (bind ma fun a => bind mb fun b => lift (addF a b)) := fun W0 M W σ e Q Ψ Ξ hm k kx =>
  add_core (Ψ := fun s => match s with | .inl c => Ψ c | .inr cs => Ψ (.lst cs)) ha hb e hm (fun a b z => by
    obtain ⟨c, ec, z⟩ := z
    split
    · simp only [addF] at ec
      split at ec
      · rename_i hl
        cases ec
        exact ⟨hl, z⟩
      · cases ec
    · exact ⟨c, ec, z⟩) (fun c v W2 g p z => k c v W2 g p z) (fun cs v W2 g r z => by
      obtain ⟨W3, e1, _, g3, p3⟩ := settleO e g r
      rw [← e1]
      exact k (.lst cs) v W3 g3 p3 z) kx
theorem eo_add (ha : EP K Z ρ ta ma) (hb : EP K Z ρ tb mb) : EO K Z ρ (tOp rAddU ta tb) (bind ma fun a => bind mb fun b => lift (addL a b)) := fun W0 M W σ e Q Ψ Ξ hm k kx =>
  add_core (Ψ := fun s => match s with | .inl _ => False | .inr cs => Ψ cs) ha hb e hm (fun a b z => by
    obtain ⟨c, ec, z⟩ := z
    split
    · simp only [addL] at ec
      split at ec
      · rename_i hl
        cases ec
        exact ⟨hl, z⟩
      · cases ec
    · rename_i hn
      match a, b, ec with
      | .lst as, .lst bs, ec => exact (hn as bs rfl rfl).elim) (fun c v W2 g p z => z.elim) (fun cs v W2 g r z => k cs v W2 g r z) kx
/-! calls of built-ins -/
def lenF : List PV → Option PV
  | [.lst as] => some (.int (as.length : Int))
  | [.tup as] => some (.int (as.length : Int))
  | [.str z] => if z.length ≤ 100000 then some (.int (z.length : Int)) else none
  | [.scr ns] => some (.int (ns.length : Int))
  | _ => none
theorem cw_len : CbW K (rLenU K) lenF := fun as c e R H vs s al C k => by
  match as, e with
  | [.lst as], e =>
    cases e
    obtain ⟨v, rfl, p, us, rfl, hp, a2⟩ := Al.inv1 al
    exact .inl ⟨p, us, rfl, .inl (SqL.of (s _ _ hp)), k _ (by rw [a2.length, mps_len]; rfl)⟩
  | [.tup as], e =>
    cases e
    obtain ⟨v, rfl, p, us, rfl, hp, a2⟩ := Al.inv1 al
    exact .inl ⟨p, us, rfl, .inr (ex_t s hp), k _ (by rw [a2.length, mps_len]; rfl)⟩
  | [.scr ns], e =>
    cases e
    obtain ⟨v, rfl, p, rfl, hp⟩ := Al.inv1 al
    exact .inl ⟨p, _, rfl, .inl (ex_l s hp), k _ (by rw [List.length_map]; rfl)⟩
  | [.str z], e =>
    simp only [lenF] at e
    split at e
    · rename_i hl
      cases e
      obtain ⟨v, rfl, p⟩ := Al.inv1 al
      cases p
      exact .inr ⟨z, rfl, sz_of hl, k _ rfl⟩
    · cases e
def repF : List PV → Option PV
  | [a] => match toD a with
    | some d => if FineP a d then some (.str d.shown) else none
    | none => none
  | _ => none
theorem cw_rep : CbW K (rRepP K) repF := fun as c e R H vs s al C k => by
  match as, e with
  | [a], e =>
    simp only [repF] at e
    split at e
    · rename_i d hd
      split at e
      · rename_i hf
        cases e
        obtain ⟨v, rfl, p⟩ := Al.inv1 al
        exact ⟨v, a, d, rfl, MP.mono _ s p, hd, hf, k _ rfl⟩
      · cases e
    · cases e
def max2F : List PV → Option PV
  | [.int a, .int b] => some (.int (if b > a then b else a))
  | _ => none
def min2F : List PV → Option PV
  | [.int a, .int b] => some (.int (if b < a then b else a))
  | _ => none
def absF : List PV → Option PV
  | [.int a] => some (.int (if a < 0 then -a else a))
  | _ => none
def intF : List PV → Option PV
  | [.int a] => some (.int a)
  | [.bl b] => some (.int (if b = true then 1 else 0))
  | _ => none
theorem cw_max2 : CbW K (fun xs H Q => ∃ i j, xs = [.int i, .int j] ∧ Q (.int (if j > i then j else i)) H) max2F := fun as c e R H vs s al C k => by
  match as, e with
  | [.int a, .int b], e =>
    cases e
    obtain ⟨v, w, rfl, p, q⟩ := Al.inv2 al
    cases p
    cases q
    exact ⟨a, b, rfl, k _ rfl⟩
theorem cw_min2 : CbW K (fun xs H Q => ∃ i j, xs = [.int i, .int j] ∧ Q (.int (if j < i then j else i)) H) min2F := fun as c e R H vs s al C k => by
  match as, e with
  | [.int a, .int b], e =>
    cases e
    obtain ⟨v, w, rfl, p, q⟩ := Al.inv2 al
    cases p
    cases q
    exact ⟨a, b, rfl, k _ rfl⟩
theorem cw_abs : CbW K (fun xs H Q => ∃ i, xs = [.int i] ∧ Q (.int (if i < 0 then -i else i)) H) absF := fun as c e R H vs s al C k => by
  match as, e with
  | [.int a], e =>
    cases e
    obtain ⟨v, rfl, p⟩ := Al.inv1 al
    cases p
    exact ⟨a, rfl, k _ rfl⟩
theorem cw_int : CbW K (fun xs H Q => (∃ i, xs = [.int i] ∧ Q (.int i) H) ∨ ∃ k, xs = [.bl k] ∧ Q (.int (if k then 1 else 0)) H) intF := fun as c e R H vs s al C k => by
  match as, e with
  | [.int a], e =>
    cases e
    obtain ⟨v, rfl, p⟩ := Al.inv1 al
    cases p
    exact .inl ⟨a, rfl, k _ rfl⟩
  | [.bl b], e =>
    cases e
    obtain ⟨v, rfl, p⟩ := Al.inv1 al
    cases p
    exact .inr ⟨b, rfl, k _ rfl⟩
def asBs : List PV → Option (List Bool)
  | [] => some []
  | .bl b :: as => (asBs as).map (b :: ·)
  | _ :: _ => none
def asIs : List PV → Option (List Int)
  | [] => some []
  | .int b :: as => (asIs as).map (b :: ·)
  | _ :: _ => none
theorem asBs_al {H : Hp} : ∀ {as : List PV} {bs : List Bool} {vs : List V}, asBs as = some bs → Al H vs (mps K as) → vs = bs.map V.bl
  | [], _, _, h, .nil => by cases h; rfl
  | .bl b :: as, bs, _, h, .cons p t => by
    simp only [asBs] at h
    cases c : asBs as with
    | none => rw [c] at h; cases h
    | some cs =>
      rw [c] at h
      cases h
      cases p
      rw [asBs_al c t]
      rfl
theorem asIs_al {H : Hp} : ∀ {as : List PV} {bs : List Int} {vs : List V}, asIs as = some bs → Al H vs (mps K as) → vs = bs.map V.int
  | [], _, _, h, .nil => by cases h; rfl
  | .int b :: as, bs, _, h, .cons p t => by
    simp only [asIs] at h
    cases c : asIs as with
    | none => rw [c] at h; cases h
    | some cs =>
      rw [c] at h
      cases h
      cases p
      rw [asIs_al c t]
      rfl
def allF : List PV → Option PV
  | [.lst as] => (asBs as).map fun bs => .bl (bs.all id)
  | _ => none
def anyF : List PV → Option PV
  | [.lst as] => (asBs as).map fun bs => .bl (bs.any id)
  | _ => none
def sumF1 : List PV → Option PV
  | [.lst as] => (asIs as).map fun bs => .int bs.sum
  | _ => none
theorem cw_all : CbW K (rAll K) allF := fun as c e R H vs s al C k => by
  match as, e with
  | [.lst as], e =>
    simp only [allF] at e
    cases c : asBs as with
    | none => rw [c] at e; cases e
    | some bs =>
      rw [c] at e
      cases e
      obtain ⟨v, rfl, p, us, rfl, hp, a2⟩ := Al.inv1 al
      rw [asBs_al c a2] at hp
      exact ⟨p, bs, rfl, SqL.of (s _ _ hp), k _ rfl⟩
theorem cw_any : CbW K (rAny K) anyF := fun as c e R H vs s al C k => by
  match as, e with
  | [.lst as], e =>
    simp only [anyF] at e
    cases c : asBs as with
    | none => rw [c] at e; cases e
    | some bs =>
      rw [c] at e
      cases e
      obtain ⟨v, rfl, p, us, rfl, hp, a2⟩ := Al.inv1 al
      rw [asBs_al c a2] at hp
      exact ⟨p, bs, rfl, SqL.of (s _ _ hp), k _ rfl⟩
theorem cw_sum : CbW K (rSum K) sumF1 := fun as c e R H vs s al C k => by
  match as, e with
  | [.lst as], e =>
    simp only [sumF1] at e
    cases c : asIs as with
    | none => rw [c] at e; cases e
    | some bs =>
      rw [c] at e
      cases e
      obtain ⟨v, rfl, p, us, rfl, hp, a2⟩ := Al.inv1 al
      rw [asIs_al c a2] at hp
      exact ⟨p, bs, rfl, SqL.of (s _ _ hp), k _ rfl⟩
def listF : List PV → Option (List PV)
  | [.lst as] => some as
  | [.tup as] => some as
  | _ => none
theorem cm_list : CbM K (rListS K) listF := fun as cs e R H vs s al C k => by
  match as, e with
  | [.lst as], e =>
    cases e
    obtain ⟨v, rfl, p, us, rfl, hp, a2⟩ := Al.inv1 al
    exact ⟨p, us, rfl, .inl (SqL.of (s _ _ hp)), fun l hl => k l us hl a2⟩
  | [.tup as], e =>
    cases e
    obtain ⟨v, rfl, p, us, rfl, hp, a2⟩ := Al.inv1 al
    exact ⟨p, us, rfl, .inr (ex_t s hp), fun l hl => k l us hl a2⟩
end
end PL

namespace PL
open PySem PySem.Spec PyProof.Rows L2 Evl NF WL
/-! ### kinds -/
def tyN : PV → Option String
  | .non => some "NoneType"
  | .bl _ => some "bool"
  | .int _ => some "int"
  | .str _ => some "str"
  | .lst _ => some "list"
  | .tup _ => some "tuple"
  | .dic0 => some "dict"
  | .ins _ _ _ => none
  | .scr _ => none
section
variable {K : PySem.W.Frag} {Z : WX} {ρ : List Sl} {ta : TE} {ma : W PV}
theorem ty_lstP {H : Hp} {p : Addr} {xs : List V} (h : H p = some (.lst xs)) : TyX K H (.ref p) (.type "list") := .base (.lst h)
theorem tyx_of {R H : Hp} {v : V} {a : PV} {n : String} (h : tyN a = some n) (s : Ex R H) (p : (mp K a).p R v) : TyX K H v (.type n) := by
  cases a with
  | non => cases h; cases p; exact .base .non
  | bl b => cases h; cases p; exact .base (.bl b)
  | int i => cases h; cases p; exact .base (.int i)
  | str z => cases h; cases p; exact .base (.str z)
  | lst as =>
    cases h
    obtain ⟨q, vs, rfl, h1, _⟩ := p
    exact ty_lstP (s _ _ h1)
  | tup as =>
    cases h
    obtain ⟨q, vs, rfl, h1, _⟩ := p
    exact ty_tup (ex_t s h1)
  | dic0 =>
    cases h
    obtain ⟨q, rfl, h1⟩ := p
    exact .base (.dK (s _ _ h1))
  | ins c ns as => cases h
  | scr ns => cases h
/-- what is of which kind, as isinstance tells -/
def kindOf : String → PV → Option Bool
  | "int", .bl _ => some true
  | "int", .int _ => some true
  | "bool", .bl _ => some true
  | "str", .str _ => some true
  | "list", .lst _ => some true
  | "tuple", .tup _ => some true
  | "dict", .dic0 => some true
  | c, .ins _ _ _ => none
  | c, .scr _ => none
  | "int", _ => some false
  | "bool", _ => some false
  | "str", _ => some false
  | "list", _ => some false
  | "tuple", _ => some false
  | "dict", _ => some false
  | _, _ => none
def isiF (c : String) (a : PV) : Option PV := match tyN a with
  | some n => (kitB n c).map .bl
  | none => none
theorem ep_isi {c : String} (ha : EP K Z ρ ta ma) : EP K Z ρ (tCB (rIsi K) (tCons ta (tCons (tC (.ty c)) tNil))) (bind ma fun a => lift (isiF c a)) := fun W0 M W σ e Q Ψ Ξ hm k kx =>
  ha W0 M W σ e _ _ _ hm (fun a v W1 g p z => by
    obtain ⟨r, er, z⟩ := z
    unfold isiF at er
    split at er
    · rename_i n hn
      cases hk : kitB n c with
      | none => rw [hk] at er; cases er
      | some b =>
        rw [hk] at er
        cases er
        exact ⟨v, .ty c, .type n, .type c, b, rfl, .ty c, tyx_of hn g.sub p, kit_ty hk, k (.bl b) _ W1 g rfl z⟩
    · cases er) kx
end
theorem isi_int (a : PV) (h : tyN a ≠ none) : isiF "int" a = some (.bl (match a with | .int _ => true | .bl _ => true | _ => false)) := by
  have h1 : kitB "NoneType" "int" = some false := by decide +kernel
  have h2 : kitB "bool" "int" = some true := by decide +kernel
  have h3 : kitB "int" "int" = some true := by decide +kernel
  have h4 : kitB "str" "int" = some false := by decide +kernel
  have h5 : kitB "list" "int" = some false := by decide +kernel
  have h6 : kitB "tuple" "int" = some false := by decide +kernel
  have h7 : kitB "dict" "int" = some false := by decide +kernel
  cases a <;> simp only [isiF, tyN, h1, h2, h3, h4, h5, h6, h7, Option.map] <;> first | rfl | exact absurd rfl h
theorem isi_bool (a : PV) (h : tyN a ≠ none) : isiF "bool" a = some (.bl (match a with | .bl _ => true | _ => false)) := by
  have h1 : kitB "NoneType" "bool" = some false := by decide +kernel
  have h2 : kitB "bool" "bool" = some true := by decide +kernel
  have h3 : kitB "int" "bool" = some false := by decide +kernel
  have h4 : kitB "str" "bool" = some false := by decide +kernel
  have h5 : kitB "list" "bool" = some false := by decide +kernel
  have h6 : kitB "tuple" "bool" = some false := by decide +kernel
  have h7 : kitB "dict" "bool" = some false := by decide +kernel
  cases a <;> simp only [isiF, tyN, h1, h2, h3, h4, h5, h6, h7, Option.map] <;> first | rfl | exact absurd rfl h
theorem isi_str (a : PV) (h : tyN a ≠ none) : isiF "str" a = some (.bl (match a with | .str _ => true | _ => false)) := by
  have h1 : kitB "NoneType" "str" = some false := by decide +kernel
  have h2 : kitB "bool" "str" = some false := by decide +kernel
  have h3 : kitB "int" "str" = some false := by decide +kernel
  have h4 : kitB "str" "str" = some true := by decide +kernel
  have h5 : kitB "list" "str" = some false := by decide +kernel
  have h6 : kitB "tuple" "str" = some false := by decide +kernel
  have h7 : kitB "dict" "str" = some false := by decide +kernel
  cases a <;> simp only [isiF, tyN, h1, h2, h3, h4, h5, h6, h7, Option.map] <;> first | rfl | exact absurd rfl h
theorem isi_list (a : PV) (h : tyN a ≠ none) : isiF "list" a = some (.bl (match a with | .lst _ => true | _ => false)) := by
  have h1 : kitB "NoneType" "list" = some false := by decide +kernel
  have h2 : kitB "bool" "list" = some false := by decide +kernel
  have h3 : kitB "int" "list" = some false := by decide +kernel
  have h4 : kitB "str" "list" = some false := by decide +kernel
  have h5 : kitB "list" "list" = some true := by decide +kernel
  have h6 : kitB "tuple" "list" = some false := by decide +kernel
  have h7 : kitB "dict" "list" = some false := by decide +kernel
  cases a <;> simp only [isiF, tyN, h1, h2, h3, h4, h5, h6, h7, Option.map] <;> first | rfl | exact absurd rfl h
theorem isi_tuple (a : PV) (h : tyN a ≠ none) : isiF "tuple" a = some (.bl (match a with | .tup _ => true | _ => false)) := by
  have h1 : kitB "NoneType" "tuple" = some false := by decide +kernel
  have h2 : kitB "bool" "tuple" = some false := by decide +kernel
  have h3 : kitB "int" "tuple" = some false := by decide +kernel
  have h4 : kitB "str" "tuple" = some false := by decide +kernel
  have h5 : kitB "list" "tuple" = some false := by decide +kernel
  have h6 : kitB "tuple" "tuple" = some true := by decide +kernel
  have h7 : kitB "dict" "tuple" = some false := by decide +kernel
  cases a <;> simp only [isiF, tyN, h1, h2, h3, h4, h5, h6, h7, Option.map] <;> first | rfl | exact absurd rfl h
/-! ### the laws' bag -/
section
variable {K : PySem.W.Frag}
/-- some number below n -/
def takeW (n : PV) : W RV := fun Ψ _ => ∃ k : Int, n = .int k ∧ 0 < k ∧ k.natAbs < 2 ^ 8000 ∧ ∀ d : Int, 0 ≤ d → d < k → Ψ (.v (.int d))
/-- a new bag of the script -/
def begunW (scr at_ : PV) : W RV := fun Ψ _ => ∃ (ns : List Int) (j : Nat), scr = .scr ns ∧ at_ = .int (j : Int) ∧ ns.length ≤ 1000 ∧ j ≤ 1000 ∧ ∀ (a b : Int) (c : Bool), Ψ (.o [.int a, .int b, .bl c])
variable {P : Program} {w : World} {mg : Str → Option Value} {base : Heap} {k : Nat} {f : Addr} {fd : FuncData} {ps : List Str}
theorem bg_sta {st : Addr} {H : Hp} : Bg H st ↔ StA st H := ⟨fun ⟨vs, ⟨g, m, c, e⟩, h⟩ => ⟨g, m, c, by rw [h, e]⟩, fun ⟨g, m, c, h⟩ => ⟨_, ⟨g, m, c, rfl⟩, h⟩⟩
theorem ad_take (F : FnG P w K mg base CX0 k f fd ps spTake) (hp : ps.length = 2) : FnG P w K mg base CX0 k f fd ps (spW K (ab1 takeW)) := by
  have core : ∀ vs H Q E, spW K (ab1 takeW) vs H Q E → spTake vs H Q E := by
    intro vs H Q E h
    obtain ⟨W, as, Ψ, Ξ, rfl, sub, pk, _, hF, q, _⟩ := h
    obtain ⟨a, rfl, n, rfl, n0, n8, z⟩ := ab1_inv hF
    cases pk with
    | cons h1 t =>
      cases t with
      | cons h2 t =>
        cases t
        obtain ⟨st, rfl, hb, hr⟩ := h1
        cases h2
        refine ⟨st, n, rfl, bg_sta.mp hb, n0, n8, fun d H' d0 dn hb' x => ?_⟩
        have hb' := bg_sta.mpr hb'
        have ib : BagOf [V.ref st, .int n] ([Ar.bag, .v (.int n)].map (Ar.sl K)) st := ⟨0, rfl, rfl⟩
        refine q (.v (.int d)) (.int d) ⟨W.r, H'⟩ (fun p o hp => x _ _ (fun c => ?_) (sub _ _ hp)) ⟨Ex.refl _, fun p o np hp => x _ _ (fun c => np (c ▸ ib)) hp, fun p hp => ?_⟩ (fun p hp => ?_) rfl (z d d0 dn)
        · have hp' : W.r p = some o := hp
          rw [c, hr] at hp'
          cases hp'
        · obtain ⟨⟨xs, h1, hnt⟩, h2⟩ := hp
          by_cases c : p = st
          · obtain ⟨_, _, h⟩ := hb'
            exact ⟨⟨_, by rw [c]; exact h, rfl⟩, h2⟩
          · exact ⟨⟨xs, x _ _ c h1, hnt⟩, h2⟩
        · obtain ⟨i, h1, h2⟩ := hp
          match i, h1, h2 with
          | 0, _, h2 =>
            cases h2
            exact hb'
          | 1, h1, _ => cases h1
          | n + 2, h1, _ => cases h1
  exact ⟨fun vs H Q E h => F.many vs H Q E (core vs H Q E h), fun A out s H args us vs Q E g hr he hb hv hs => F.goes A out s H args us vs Q E g hr he hb hv (core vs H Q E hs)⟩
theorem ad_begun (F : FnG P w K mg base CX0 k f fd ps (spBegun K)) : FnG P w K mg base CX0 k f fd ps (spW K (ar2 begunW)) := by
  have core : ∀ vs H Q E, spW K (ar2 begunW) vs H Q E → spBegun K vs H Q E := by
    intro vs H Q E h
    obtain ⟨W, as, Ψ, Ξ, rfl, sub, pk, _, hF, q, _⟩ := h
    obtain ⟨a, b, rfl, ns, j, rfl, rfl, nl, jl, z⟩ := ar2_inv hF
    cases pk with
    | cons h1 t =>
      cases t with
      | cons h2 t =>
        cases t
        obtain ⟨p, rfl, hp⟩ := h1
        cases h2
        refine ⟨p, ns, j, rfl, ex_l sub hp, nl, jl, fun st H' nst e hb => ?_⟩
        obtain ⟨a, b, c, hb⟩ := hb
        have rp : W.r st = none := by
          cases c : W.r st with
          | none => rfl
          | some o => rw [sub _ _ c] at nst; cases nst
        refine q (.o [.int a, .int b, .bl c]) (.ref st) ⟨W.r, H'⟩ (sub.trans e) ⟨Ex.refl _, fun p o _ hp => e _ _ hp, fun p hp => ⟨⟨_, e _ _ hp.1.choose_spec.1, hp.1.choose_spec.2⟩, hp.2⟩⟩ (fun p hp => ?_) ⟨st, _, rfl, hb, rp, nst, .cons rfl (.cons rfl (Al.one rfl))⟩ (z a b c)
        obtain ⟨i, h1, h2⟩ := hp
        match i, h1, h2 with
        | 0, h1, _ => cases h1
        | 1, h1, _ => cases h1
        | n + 2, h1, _ => cases h1
  exact ⟨fun vs H Q E h => F.many vs H Q E (core vs H Q E h), fun A out s H args us vs Q E g hr he hb hv hs => F.goes A out s H args us vs Q E g hr he hb hv (core vs H Q E hs)⟩
/-- a new bag is taken as one -/
def isBag : List PV → Option Unit
  | [.int _, .int _, .bl _] => some ()
  | _ => none
theorem gp_bag {Z : WX} {ρ : List Sl} {i : Nat} {S : Type} {pat : S → List Sl} {te : TE} {t : TS} {me : W (List PV)} {m : W (Fl S)} (he : EO K Z ρ te me) (h : GP K Z (ρ.set i .bag) t pat m) (hi : Nat.blt i ρ.length = true := by rfl) : GP K Z ρ (tSeq (tAsg te (gName i)) t) pat (bind me fun as => bind (lift (isBag as)) fun _ => m) := fun W0 M W σ D e Φ Ξ hm q =>
  he W0 M W σ e _ _ _ hm (fun as v W2 g r ⟨_, eb, z⟩ => by
    match as, eb with
    | [.int a, .int b, .bl c], _ =>
      have e1 := e.set (s := .own (mps K [.int a, .int b, .bl c])) g r (Nat.le_of_ble_eq_true hi)
      have e2 := e1.bagged (i := i) (List.getElem?_set_self (Nat.le_of_ble_eq_true hi)) (fun R vs al => by
        cases al with
        | cons p1 t1 =>
          obtain ⟨x, y, rfl, p2, p3⟩ := Al.inv2 t1
          cases p1
          cases p2
          cases p3
          exact ⟨a, b, c, rfl⟩)
      rw [List.set_set] at e2
      exact h W0 M W2 _ D e2 _ _ z q) (q.x e)
end
end PL

namespace PL
open PySem PySem.Spec PyProof.Rows L2 Evl NF WL
/-! ### the pieces by name -/
def op2 (f : PV → PV → Option PV) (ma mb : W PV) : W PV := bind ma fun a => bind mb fun b => lift (f a b)
def op1 (f : PV → Option PV) (ma : W PV) : W PV := bind ma fun a => lift (f a)
def cb (f : List PV → Option PV) (ms : W (List PV)) : W PV := bind ms fun as => lift (f as)
def vcons (ma : W PV) (ms : W (List PV)) : W (List PV) := bind ma fun a => bind ms fun as => ret (a :: as)
def vnil : W (List PV) := ret []
def acons (ma : W PV) (ms : W (List Ar)) : W (List Ar) := bind ma fun a => bind ms fun as => ret (.v a :: as)
def abag (ms : W (List Ar)) : W (List Ar) := bind ms fun as => ret (.bag :: as)
def anil : W (List Ar) := ret []
def tst (m : W PV) : W Bool := bind m fun a => lift (isB a)
def andT (m1 m2 : W Bool) : W Bool := bind m1 fun b => if b = true then m2 else ret false
def orT (m1 m2 : W Bool) : W Bool := bind m1 fun b => if b = true then ret true else m2
def notT (m1 : W Bool) : W Bool := bind m1 fun b => ret !b
def andV (ma mb : W PV) : W PV := bind ma fun a => bind (lift (isB a)) fun b => if b = true then mb else ret (.bl false)
def orV (ma mb : W PV) : W PV := bind ma fun a => bind (lift (isB a)) fun b => if b = true then ret (.bl true) else mb
def notV (ma : W PV) : W PV := bind ma fun a => bind (lift (isB a)) fun b => ret (.bl !b)
def ifE (mt : W Bool) (ma mb : W PV) : W PV := bind mt fun b => if b = true then ma else mb
def chain (f1 f2 : PV → PV → Option PV) (ma mb mc : W PV) : W PV := bind ma fun a => bind mb fun b => bind (lift (f1 a b)) fun u => bind (lift (isB u)) fun t => if t = true then bind mc fun c => lift (f2 b c) else ret (.bl false)
def chain3 (f1 f2 f3 : PV → PV → Option PV) (ma mb mc md : W PV) : W PV := bind ma fun a => bind mb fun b => bind (lift (f1 a b)) fun u => bind (lift (isB u)) fun t => if t = true then bind mc fun c => bind (lift (f2 b c)) fun u2 => bind (lift (isB u2)) fun t2 => if t2 = true then bind md fun d => lift (f3 c d) else ret (.bl false) else ret (.bl false)
def tupW (ms : W (List PV)) : W PV := bind ms fun as => lift (if as.length ≤ 100000 then some (.tup as) else none)
def lstO (ms : W (List PV)) : W (List PV) := bind ms fun as => lift (if as.length ≤ 100000 then some as else none)
def setl (ms : W (List PV)) : W PV := bind ms fun as => ret (.lst as)
def cbO (f : List PV → Option (List PV)) (ms : W (List PV)) : W (List PV) := bind ms fun as => lift (f as)
def addO (ma mb : W PV) : W (List PV) := bind ma fun a => bind mb fun b => lift (addL a b)
def callW (F : List Ar → W RV) (ds : List PV) (ma : W (List Ar)) : W PV := bind ma fun as => bind (noX (F (as ++ dAr ds))) fun r => ret r.pv
def callO (F : List Ar → W RV) (ds : List PV) (ma : W (List Ar)) : W (List PV) := bind ma fun as => bind (noX (F (as ++ dAr ds))) fun r => lift (asO r)
def itL (me : W PV) : W (List PV) := bind me fun a => lift (asL a)
def itR (ms : W (List PV)) : W (List PV) := bind ms fun as => lift (rngL as)
def itE (ms : W (List PV)) : W (List PV) := bind ms fun as => lift (enumL as)
def itZ (ms : W (List PV)) : W (List PV) := bind ms fun as => lift (zipL as)
def lcO {A : Type} (f : PV → Option A) (c : A → W Bool) (F : A → W PV) (mi : W (List PV)) : W (List PV) := bind mi fun as => lcW f c F as
section
variable {K : PySem.W.Frag} {Z Z' : WX} {σ : L2.St} {ρ : List Sl} {i j : Nat} {ta tb tc td te tl : TE} {tt t1 t2 : TT} {tA tr : TA} {ma mb mc md m : W PV} {ms : W (List PV)} {r r1 r2 r3 : R2} {f1 f2 f3 : PV → PV → Option PV} {m1 m2 : W Bool} {S S1 A : Type} {pat : S → List Sl} {pat1 : S1 → List Sl} {t : TS}
theorem p_op {f : PV → PV → Option PV} (hf : OpW K r f) (ha : EP K Z ρ ta ma) (hb : EP K Z ρ tb mb) : EP K Z ρ (tOp r ta tb) (op2 f ma mb) := ep_op hf ha hb
theorem p_add (ha : EP K Z ρ ta ma) (hb : EP K Z ρ tb mb) : EP K Z ρ (tOp rAddU ta tb) (op2 addF ma mb) := ep_add ha hb
theorem p_un {r : V → Hp → VK → Prop} {f : PV → Option PV} (hf : UnW K r f) (ha : EP K Z ρ ta ma) : EP K Z ρ (tUn r ta) (op1 f ma) := ep_un hf ha
theorem p_cb {r : List V → Hp → VK → Prop} {f : List PV → Option PV} (hf : CbW K r f) (ha : VP K Z ρ tA ms) : EP K Z ρ (tCB r tA) (cb f ms) := ep_cb hf ha
theorem p_isi {c : String} (ha : EP K Z ρ ta ma) : EP K Z ρ (tCB (rIsi K) (tCons ta (tCons (tC (.ty c)) tNil))) (op1 (isiF c) ma) := ep_isi ha
theorem v_nil : VP K Z ρ tNil vnil := vp_nil
theorem v_cons (h : EP K Z ρ ta ma) (t : VP K Z ρ tr ms) : VP K Z ρ (tCons ta tr) (vcons ma ms) := vp_cons h t
theorem a_nil : AP K Z ρ tNil anil := ap_nil
theorem a_cons {ms : W (List Ar)} (h : EP K Z ρ ta ma) (t : AP K Z ρ tr ms) : AP K Z ρ (tCons ta tr) (acons ma ms) := ap_cons h t
theorem a_bag {ms : W (List Ar)} (h : ρ[i]? = some .bag) (t : AP K Z ρ tr ms) : AP K Z ρ (tCons (tVar i) tr) (abag ms) := ap_bag h t
theorem t_tst (h : EP K Z ρ te m) : TP K Z ρ (tTest te) (tst m) := tp_test h
theorem t_tB (h : EP K Z ρ te m) : TP K Z ρ (tB te) (tst m) := tp_test h
theorem t_andT (h1 : TP K Z ρ t1 m1) (h2 : TP K Z ρ t2 m2) : TP K Z ρ (tAnd t1 t2) (andT m1 m2) := tp_and h1 h2
theorem t_orT (h1 : TP K Z ρ t1 m1) (h2 : TP K Z ρ t2 m2) : TP K Z ρ (tOr t1 t2) (orT m1 m2) := tp_or h1 h2
theorem t_notT (h1 : TP K Z ρ t1 m1) : TP K Z ρ (tNot t1) (notT m1) := tp_not h1
theorem p_and (ha : EP K Z ρ ta ma) (hb : EP K Z ρ tb mb) : EP K Z ρ (tAndV ta tb) (andV ma mb) := ep_and ha hb
theorem p_or (ha : EP K Z ρ ta ma) (hb : EP K Z ρ tb mb) : EP K Z ρ (tOrV ta tb) (orV ma mb) := ep_or ha hb
theorem p_not (ha : EP K Z ρ ta ma) : EP K Z ρ (tNotV ta) (notV ma) := ep_not ha
theorem p_if (h : TP K Z ρ tt m1) (ha : EP K Z ρ ta ma) (hb : EP K Z ρ tb mb) : EP K Z ρ (tIf tt ta tb) (ifE m1 ma mb) := ep_if h ha hb
theorem p_chain (hf1 : OpW K r1 f1) (hf2 : OpW K r2 f2) (ha : EP K Z ρ ta ma) (hb : EP K Z ρ tb mb) (hc : EP K Z ρ tc mc) : EP K Z ρ (tChain r1 r2 ta tb tc) (chain f1 f2 ma mb mc) := ep_chain hf1 hf2 ha hb hc
theorem p_chain3 (hf1 : OpW K r1 f1) (hf2 : OpW K r2 f2) (hf3 : OpW K r3 f3) (ha : EP K Z ρ ta ma) (hb : EP K Z ρ tb mb) (hc : EP K Z ρ tc mc) (hd : EP K Z ρ td md) : EP K Z ρ (tChain3 r1 r2 r3 ta tb tc td) (chain3 f1 f2 f3 ma mb mc md) := ep_chain3 hf1 hf2 hf3 ha hb hc hd
theorem p_tup (ha : VP K Z ρ tA ms) : EP K Z ρ (tTup tA) (tupW ms) := ep_tup ha
theorem o_lst (ha : VP K Z ρ tA ms) : EO K Z ρ (tLst tA) (lstO ms) := eo_lst ha
theorem p_set (h : EO K Z ρ te ms) : EP K Z ρ te (setl ms) := h.ep
theorem o_cb {r : List V → Hp → VK → Prop} {f : List PV → Option (List PV)} (hf : CbM K r f) (ha : VP K Z ρ tA ms) : EO K Z ρ (tCB r tA) (cbO f ms) := eo_cb hf ha
theorem o_add (ha : EP K Z ρ ta ma) (hb : EP K Z ρ tb mb) : EO K Z ρ (tOp rAddU ta tb) (addO ma mb) := eo_add ha hb
theorem p_call {F : List Ar → W RV} {dvs : List V} {Ex0 : XK} {ds : List PV} {ma : W (List Ar)} (ob : OB K F) (hd : ∀ H, Al H dvs (mps K ds)) (ha : AP K Z ρ tA ma) : EP K Z ρ (tCall (spW K F) dvs Ex0 tA) (callW F ds ma) := ep_call hd ha ob
theorem o_call {F : List Ar → W RV} {dvs : List V} {Ex0 : XK} {ds : List PV} {ma : W (List Ar)} (ob : OB K F) (hd : ∀ H, Al H dvs (mps K ds)) (ha : AP K Z ρ tA ma) : EO K Z ρ (tCall (spW K F) dvs Ex0 tA) (callO F ds ma) := eo_call hd ha ob
theorem w_list (h : EP K Z ρ tl m) : WkP K Z ρ (iList K tl) (itL m) := wp_list h
theorem w_range (h : VP K Z ρ tA ms) : WkP K Z ρ (iRng1 tA) (itR ms) := wp_range h
theorem w_enum (h : VP K Z ρ tA ms) : WkP K Z ρ (iEnum K tA) (itE ms) := wp_enum h
theorem w_zip (h : VP K Z ρ tA ms) : WkP K Z ρ (iZip K tA) (itZ ms) := wp_zip h
theorem o_lc {g : TG} {wi : TI} {f : PV → Option A} {bd : A → Bd} {vs : List Nat} {c : A → W Bool} {F : A → W PV} {mi : W (List PV)} (hw : WkP K Z ρ wi mi) (hg : TgP K g f bd) (hb : ∀ x, fitC (bd x) ρ.length vs = true ∧ TP K Z (setS (wipeS ρ vs) (bd x)) tt (c x) ∧ EP K Z (setS (wipeS ρ vs) (bd x)) te (F x)) : EO K Z ρ (tLc wi g tt te vs) (lcO f c F mi) := eo_lc hw hg hb
/-- list(range(n)) -/
def lrF : PV → Option (List PV)
  | .int n => if -(2 ^ 60) < n ∧ n ≤ 100000 then some ((List.range n.toNat).map fun i : Nat => .int (i : Int)) else none
  | _ => none
def lrO (ma : W PV) : W (List PV) := bind ma fun a => lift (lrF a)
theorem rgV_mps {H : Hp} (n : Int) : Al H (rgV 0 n) (mps K ((List.range n.toNat).map fun i : Nat => .int (i : Int))) := by
  have h : ∀ l : List Nat, Al H (l.map fun i : Nat => V.int (i : Int)) (mps K (l.map fun i : Nat => .int (i : Int))) := by
    intro l
    induction l with
    | nil => exact .nil
    | cons a l ih => exact .cons rfl ih
  have e : rgV 0 n = (List.range n.toNat).map fun i : Nat => V.int (i : Int) := by
    unfold rgV
    simp
  rw [e]
  exact h _
theorem o_lr (h : EP K Z ρ te m) : EO K Z ρ (tLstRg (tRg1 te)) (lrO m) := fun W0 M W σ e Q Ψ Ξ hm k kx => h W0 M W σ e _ _ _ hm (fun a v W2 g p z => by
  obtain ⟨as, ea, z⟩ := z
  match a, ea with
  | .int n, ea =>
    simp only [lrF] at ea
    split at ea
    · rename_i hn
      cases ea
      cases p
      refine ⟨n, rfl, ⟨by omega, by omega, by omega, by omega, ?_⟩, fun q hq => ?_⟩
      · have : 100000 ≤ sizeLine := by decide
        omega
      · obtain ⟨W3, e1, _, g3, r3⟩ := e_new e g hq (rgV_mps (K := K) n)
        rw [← e1]
        exact k _ _ W3 g3 r3 z
    · cases ea) kx
/-- the last statement of a block: its own state is handed on -/
theorem g_last {m : W (Fl S1)} (f : S1 → S) (hl : ∀ s, lessS (pat1 s) (pat (f s))) (h : GP K Z ρ t pat1 m) : GP K Z ρ t pat (bindF m fun s => ret (.nx (f s))) := fun W0 M W σ D e Φ Ξ hm q =>
  h W0 M W σ D e _ _ hm ⟨fun W σ s e z => q.nx W σ (f s) (e.less (lessS_len (hl s)) fun i s' hs => lessS_get (hl s) hs) z, fun r v W a b c d z => q.rt r v W a b c d z, q.xc⟩
end
end PL

namespace PL
open PySem PySem.Spec PyProof.Rows L2 Evl NF WL
def two : List PV → Option (PV × PV)
  | [a, b] => some (a, b)
  | _ => none
def augF (f : Int → Int → Int) : PV → PV → Option PV
  | .int a, .int b => some (.int (f a b))
  | _, _ => none
section
variable {K : PySem.W.Frag} {Z Z' : WX} {σ : L2.St} {ρ : List Sl} {i j : Nat} {ta tb tc td te tl : TE} {tA : TA} {me : W PV} {ms : W (List PV)} {S : Type} {pat : S → List Sl} {t : TS}
theorem g_par2 {k : PV → PV → W (Fl S)} (he : VP K Z ρ tA ms) (h : ∀ a b, GP K Z ((ρ.set i (.val (mp K a))).set j (.val (mp K b))) t pat (k a b)) (hi : Nat.blt i ρ.length = true := by rfl) (hj : Nat.blt j ρ.length = true := by rfl) : GP K Z ρ (tSeq (tPar i j tA) t) pat (bind ms fun as => bind (lift (two as)) fun x => k x.1 x.2) := fun W0 M W σ D e Φ Ξ hm q =>
  he W0 M W σ e _ _ _ hm (fun as vs W2 g al ⟨x, eb, z⟩ => by
    match as, eb with
    | [a, b], eb =>
      cases eb
      obtain ⟨v, w, rfl, p1, p2⟩ := Al.inv2 al
      have e1 := e.set (i := i) (s := .val (mp K a)) g p1 (Nat.le_of_ble_eq_true hi)
      exact ⟨v, w, rfl, h a b W0 M W2 _ D (e1.set (i := j) (s := .val (mp K b)) e1.id p2 (by rw [List.length_set]; exact Nat.le_of_ble_eq_true hj)) _ _ z q⟩) (q.x e)
theorem g_par2L {pat : PV × PV → List Sl} (he : VP K Z ρ tA ms) (h : ∀ x, pat x = (ρ.set i (.val (mp K x.1))).set j (.val (mp K x.2))) (hi : Nat.blt i ρ.length = true := by rfl) (hj : Nat.blt j ρ.length = true := by rfl) : GP K Z ρ (tPar i j tA) pat (bind ms fun as => bind (lift (two as)) fun x => ret (.nx x)) := fun W0 M W σ D e Φ Ξ hm q =>
  he W0 M W σ e _ _ _ hm (fun as vs W2 g al ⟨x, eb, z⟩ => by
    match as, eb with
    | [a, b], eb =>
      cases eb
      obtain ⟨v, w, rfl, p1, p2⟩ := Al.inv2 al
      have e1 := e.set (i := i) (s := .val (mp K a)) g p1 (Nat.le_of_ble_eq_true hi)
      exact ⟨v, w, rfl, q.nx W2 _ (a, b) (h (a, b) ▸ e1.set (i := j) (s := .val (mp K b)) e1.id p2 (by rw [List.length_set]; exact Nat.le_of_ble_eq_true hj)) z⟩) (q.x e)
theorem g_aug {f : Int → Int → Int} {a : PV} {k : PV → W (Fl S)} (h : ρ[i]? = some (.val (mp K a))) (he : EP K Z ρ te me) (hk : ∀ c, GP K Z (ρ.set i (.val (mp K c))) t pat (k c)) (hi : Nat.blt i ρ.length = true := by rfl) : GP K Z ρ (tSeq (tAug i te (ipI f)) t) pat (bind me fun b => bind (lift (augF f a b)) k) := fun W0 M W σ D e Φ Ξ hm q => by
  obtain ⟨u, h1, v, rfl, h2⟩ := e.ok i _ h
  refine ⟨v, h1, he W0 M W σ e _ _ _ hm (fun b y W2 g p z => ?_) (q.x e)⟩
  obtain ⟨c, ec, z⟩ := z
  match a, b, ec with
  | .int m, .int n, ec =>
    cases ec
    cases h2
    cases p
    exact ⟨m, n, rfl, rfl, hk (.int (f m n)) W0 M W2 _ D (e.set (s := .val (mp K (.int (f m n)))) g rfl (Nat.le_of_ble_eq_true hi)) _ _ z q⟩
theorem g_augL {f : Int → Int → Int} {a : PV} {pat : PV → List Sl} (h : ρ[i]? = some (.val (mp K a))) (he : EP K Z ρ te me) (hk : ∀ c, pat c = ρ.set i (.val (mp K c))) (hi : Nat.blt i ρ.length = true := by rfl) : GP K Z ρ (tAug i te (ipI f)) pat (bind me fun b => bind (lift (augF f a b)) fun c => ret (.nx c)) := fun W0 M W σ D e Φ Ξ hm q => by
  obtain ⟨u, h1, v, rfl, h2⟩ := e.ok i _ h
  refine ⟨v, h1, he W0 M W σ e _ _ _ hm (fun b y W2 g p z => ?_) (q.x e)⟩
  obtain ⟨c, ec, z⟩ := z
  match a, b, ec with
  | .int m, .int n, ec =>
    cases ec
    cases h2
    cases p
    exact ⟨m, n, rfl, rfl, q.nx W2 _ (.int (f m n)) (hk _ ▸ e.set (s := .val (mp K (.int (f m n)))) g rfl (Nat.le_of_ble_eq_true hi)) z⟩
/-- {} -/
theorem p_dic : EP K Z ρ tDNewK (ret .dic0) := fun W0 M W σ e Q Ψ Ξ hm k kx p hp => by
  have rp : W.r p = none := by
    cases c : W.r p with
    | none => rfl
    | some o => rw [e.sub _ _ c] at hp; cases hp
  have ex : Ex W.r (upd W.r p (.dK [])) := Ex.new rp
  refine k .dic0 _ ⟨upd W.r p (.dK []), upd W.h p (.dK [])⟩ ⟨fun q o hq => ?_, ⟨ex, fun q o n hq => Ex.new hp _ _ hq, fun q hq => ?_⟩, fun q b => ?_⟩ ⟨p, rfl, upd_same⟩ hm
  · by_cases c : q = p
    · subst c
      have hq' : upd W.r q (.dK []) q = some o := hq
      rw [upd_same] at hq'
      cases hq'
      exact upd_same
    · have hq' : upd W.r p (.dK []) q = some o := hq
      rw [upd_ne c] at hq'
      show upd W.h p _ q = _
      rw [upd_ne c]
      exact e.sub _ _ hq'
  · obtain ⟨⟨xs, h1, hnt⟩, h2⟩ := hq
    have c : q ≠ p := fun z => by rw [z, hp] at h1; cases h1
    exact ⟨⟨xs, by show upd W.h p _ q = _; rw [upd_ne c]; exact h1, hnt⟩, by show upd W.r p _ q = _; rw [upd_ne c]; exact h2⟩
  · obtain ⟨x, y, h1⟩ := (e.bag b).1
    exact ⟨x, y, Ex.new hp _ _ h1⟩
/-- what is own is read for a while: what comes of it is no list or the like -/
def flat : PV → Bool
  | .non => true
  | .bl _ => true
  | .int _ => true
  | .str _ => true
  | _ => false
theorem flat_p {R R2 : Hp} {a : PV} {v : V} (h : flat a = true) (p : (mp K a).p R v) : (mp K a).p R2 v := by
  cases a with
  | non => exact p
  | bl b => exact p
  | int i => exact p
  | str z => exact p
  | lst as => cases h
  | tup as => cases h
  | dic0 => cases h
  | ins c ns as => cases h
  | scr ns => cases h
def lend (m : W PV) : W PV := bind (noX m) fun a => lift (if flat a = true then some a else none)
theorem bags_calm {as : List PV} {P : MP} (h : ρ[i]? = some (.own (mps K as))) {p : Addr} : Bags σ (ρ.set i (.val P)) p ↔ Bags σ ρ p := by
  have hi : i < ρ.length := (List.getElem?_eq_some_iff.mp h).1
  constructor
  · rintro ⟨j, h1, h2⟩
    by_cases c : i = j
    · subst c
      rw [List.getElem?_set_self hi] at h1
      cases h1
    · rw [List.getElem?_set_ne c] at h1
      exact ⟨j, h1, h2⟩
  · rintro ⟨j, h1, h2⟩
    refine ⟨j, ?_, h2⟩
    have c : i ≠ j := fun z => by
      subst z
      rw [h] at h1
      cases h1
    rw [List.getElem?_set_ne c]
    exact h1
theorem p_lend {as : List PV} (h : ρ[i]? = some (.own (mps K as))) (he : EP K Z (ρ.set i (.val (mp K (.lst as)))) te me) : EP K Z ρ te (lend me) := fun W0 M W σ e Q Ψ Ξ hm k kx => by
  obtain ⟨W', e1, ex, e2⟩ := En.calm (P := mp K (.lst as)) e h fun R p vs h1 h2 => ⟨p, vs, rfl, h1, h2⟩
  rw [← e1]
  refine he W0 M W' σ e2 _ _ _ hm (fun a v W2 g p z => ?_) (fun _ _ _ _ _ _ z => z.elim)
  obtain ⟨b, eb, z⟩ := z
  split at eb
  · rename_i hf
    cases eb
    refine k a v ⟨W.r, W2.h⟩ ⟨ex.trans (g.le.r.trans g.sub), ⟨Ex.refl _, fun p o n hp => g.le.h p o (fun b => n ((bags_calm h).mp b)) (by rw [e1]; exact hp), fun p hp => ?_⟩, fun p b => g.bg p ((bags_calm h).mpr b)⟩ (flat_p hf p) z
    obtain ⟨⟨o, ho, hnt⟩, hr⟩ := hp
    by_cases b : Bags σ ρ p
    · obtain ⟨vs, _, hb⟩ := g.bg p ((bags_calm h).mpr b)
      exact ⟨⟨_, hb, rfl⟩, hr⟩
    · exact ⟨⟨o, g.le.h p o (fun b' => b ((bags_calm h).mp b')) (by rw [e1]; exact ho), hnt⟩, hr⟩
  · cases eb
end
end PL

namespace PL
open PySem PySem.Spec PyProof.Rows L2 Evl NF WL
/-- a chain of three as a test -/
theorem pt_chain3 {X : Cx} {a b c d : Expr} {pos : Pos} {ta tb tc td : TE} {o1 o2 o3 : CmpOp} {r1 r2 r3 : R2} (h1 : OpR X (compareOp o1) r1) (h2 : OpR X (compareOp o2) r2) (h3 : OpR X (compareOp o3) r3) (ha : PE X a ta) (hb : PE X b tb) (hc : PE X c tc) (hd : PE X d td)
    (hm : lastMarks [o1, o2, o3] [b, c, d] = false := by with_unfolding_all rfl) : PT X (.Compare a [o1, o2, o3] [b, c, d] pos) (tTest (tChain3 r1 r2 r3 ta tb tc td)) := by
  constructor
  intro pins s σ H Q I h
  refine isTrue_chain (thn (ha.run pins s σ H _ I h) ?_) hm
  rintro va s1 ⟨x, H1, I1, q1, p1⟩
  refine test_link (thn (hb.run pins s1 σ H1 _ I1 p1) ?_)
  rintro vb s2 ⟨y, H2, I2, q2, p2⟩
  refine thn (h1 pins s2 σ H2 x y va vb _ I2 q1 q2 p2) ?_
  rintro vz s3 ⟨z, H3, I3, q3, k, rfl, p3⟩
  cases q3
  refine wpAny_truthy_bool ?_
  cases k with
  | false =>
    obtain ⟨k', e', p'⟩ := p3
    cases e'
    exact ⟨H3, I3, p'⟩
  | true =>
    refine test_link (thn (hc.run pins s3 σ H3 _ I3 p3) ?_)
    rintro vc s4 ⟨u, H4, I4, q4, p4⟩
    refine thn (h2 pins s4 σ H4 y u vb vc _ I4 q2 q4 p4) ?_
    rintro vy s5 ⟨z2, H5, I5, q5, k2, rfl, p5⟩
    cases q5
    refine wpAny_truthy_bool ?_
    cases k2 with
    | false =>
      obtain ⟨k', e', p'⟩ := p5
      cases e'
      exact ⟨H5, I5, p'⟩
    | true =>
      refine test_last (thn (hd.run pins s5 σ H5 _ I5 p5) ?_)
      rintro vd s6 ⟨v, H6, I6, q6, p6⟩
      refine thn (h3 pins s6 σ H6 u v vc vd _ I6 q4 q6 p6) ?_
      rintro vw s7 ⟨z3, H7, I7, q7, k3, rfl, p7⟩
      cases q7
      exact wpAny_truthy_bool ⟨H7, I7, p7⟩
theorem pi_enumK {X : Cx} {K : PySem.W.Frag} {tg e : Expr} {es : List Expr} {x : Str} {p pos : Pos} {ta : TA} (h : X.K = K) (hi : PI X tg (.Call (.Name x p) (e :: es) [] pos) (iEnum X.K ta)) : PI X tg (.Call (.Name x p) (e :: es) [] pos) (iEnum K ta) := h ▸ hi
theorem pi_zipK {X : Cx} {K : PySem.W.Frag} {tg e : Expr} {es : List Expr} {x : Str} {p pos : Pos} {ta : TA} (h : X.K = K) (hi : PI X tg (.Call (.Name x p) (e :: es) [] pos) (iZip X.K ta)) : PI X tg (.Call (.Name x p) (e :: es) [] pos) (iZip K ta) := h ▸ hi
end PL

namespace PL
open PySem PySem.Spec PyProof.Rows L2 Evl NF WL
/-! ### reckoning with what comes of code -/
section
variable {α β S T A : Type}
@[simp] theorem r_bind (a : α) (k : α → W β) : bind (ret a) k = k a := rfl
@[simp] theorem r_bindF_nx (s : S) (k : S → W (Fl T)) : bindF (ret (.nx s)) k = k s := rfl
@[simp] theorem r_bindF_rt (r : RV) (k : S → W (Fl T)) : bindF (ret (.rt r)) k = ret (.rt r) := rfl
@[simp] theorem r_bb {γ : Type} (m : W α) (k : α → W β) (l : β → W γ) : bind (bind m k) l = bind m fun a => bind (k a) l := rfl
@[simp] theorem r_bFb (m : W α) (k : α → W (Fl S)) (l : S → W (Fl T)) : bindF (bind m k) l = bind m fun a => bindF (k a) l := rfl
@[simp] theorem r_bFF {U : Type} (m : W (Fl S)) (k : S → W (Fl T)) (l : T → W (Fl U)) : bindF (bindF m k) l = bindF m fun s => bindF (k s) l := by
  funext Ψ Ξ
  show m _ Ξ = m _ Ξ
  congr 1
  funext f
  cases f <;> rfl
@[simp] theorem r_lift (a : α) : lift (some a) = ret a := lift_some a
@[simp] theorem r_noX (a : α) : noX (ret a) = ret a := rfl
@[simp] theorem r_noXb (m : W α) (k : α → W β) : noX (bind m k) = bind (noX m) fun a => noX (k a) := rfl
@[simp] theorem r_noXX (m : W α) : noX (noX m) = noX m := rfl
@[simp] theorem r_noXl (o : Option α) : noX (lift o) = lift o := rfl
@[simp] theorem r_op2 (f : PV → PV → Option PV) (a b : PV) : op2 f (ret a) (ret b) = lift (f a b) := rfl
@[simp] theorem r_op1 (f : PV → Option PV) (a : PV) : op1 f (ret a) = lift (f a) := rfl
@[simp] theorem r_cb (f : List PV → Option PV) (as : List PV) : cb f (ret as) = lift (f as) := rfl
@[simp] theorem r_cbO (f : List PV → Option (List PV)) (as : List PV) : cbO f (ret as) = lift (f as) := rfl
@[simp] theorem r_vnil : vnil = ret [] := rfl
@[simp] theorem r_vcons (a : PV) (as : List PV) : vcons (ret a) (ret as) = ret (a :: as) := rfl
@[simp] theorem r_anil : anil = ret [] := rfl
@[simp] theorem r_acons (a : PV) (as : List Ar) : acons (ret a) (ret as) = ret (.v a :: as) := rfl
@[simp] theorem r_abag (as : List Ar) : abag (ret as) = ret (.bag :: as) := rfl
@[simp] theorem r_tst (b : Bool) : tst (ret (.bl b)) = ret b := by unfold tst; simp [isB]
@[simp] theorem r_andT1 (m : W Bool) : andT (ret true) m = m := rfl
@[simp] theorem r_andT0 (m : W Bool) : andT (ret false) m = ret false := rfl
@[simp] theorem r_orT1 (m : W Bool) : orT (ret true) m = ret true := rfl
@[simp] theorem r_orT0 (m : W Bool) : orT (ret false) m = m := rfl
@[simp] theorem r_notT (b : Bool) : notT (ret b) = ret !b := rfl
@[simp] theorem r_andV1 (m : W PV) : andV (ret (.bl true)) m = m := by unfold andV; simp [isB]
@[simp] theorem r_andV0 (m : W PV) : andV (ret (.bl false)) m = ret (.bl false) := by unfold andV; simp [isB]
@[simp] theorem r_orV1 (m : W PV) : orV (ret (.bl true)) m = ret (.bl true) := by unfold orV; simp [isB]
@[simp] theorem r_orV0 (m : W PV) : orV (ret (.bl false)) m = m := by unfold orV; simp [isB]
@[simp] theorem r_notV (b : Bool) : notV (ret (.bl b)) = ret (.bl !b) := by unfold notV; simp [isB]
@[simp] theorem r_ifE1 (ma mb : W PV) : ifE (ret true) ma mb = ma := rfl
@[simp] theorem r_ifE0 (ma mb : W PV) : ifE (ret false) ma mb = mb := rfl
@[simp] theorem r_chain (f1 f2 : PV → PV → Option PV) (a b : PV) (mc : W PV) : chain f1 f2 (ret a) (ret b) mc = bind (lift (f1 a b)) fun u => bind (lift (isB u)) fun t => if t = true then bind mc fun c => lift (f2 b c) else ret (.bl false) := rfl
@[simp] theorem r_chain3 (f1 f2 f3 : PV → PV → Option PV) (a b c : PV) (md : W PV) : chain3 f1 f2 f3 (ret a) (ret b) (ret c) md = bind (lift (f1 a b)) fun u => bind (lift (isB u)) fun t => if t = true then bind (lift (f2 b c)) fun u2 => bind (lift (isB u2)) fun t2 => if t2 = true then bind md fun d => lift (f3 c d) else ret (.bl false) else ret (.bl false) := rfl
@[simp] theorem r_isB (b : Bool) : isB (.bl b) = some b := rfl
@[simp] theorem r_tup (as : List PV) : tupW (ret as) = lift (if as.length ≤ 100000 then some (.tup as) else none) := rfl
@[simp] theorem r_lstO (as : List PV) : lstO (ret as) = lift (if as.length ≤ 100000 then some as else none) := rfl
@[simp] theorem r_setl (as : List PV) : setl (ret as) = ret (.lst as) := rfl
@[simp] theorem r_addO (a b : PV) : addO (ret a) (ret b) = lift (addL a b) := rfl
@[simp] theorem r_callW (F : List Ar → W RV) (ds : List PV) (as : List Ar) : callW F ds (ret as) = bind (noX (F (as ++ dAr ds))) fun r => ret r.pv := rfl
@[simp] theorem r_callO (F : List Ar → W RV) (ds : List PV) (as : List Ar) : callO F ds (ret as) = bind (noX (F (as ++ dAr ds))) fun r => lift (asO r) := rfl
@[simp] theorem r_ar1 (F : PV → W RV) (a : PV) : ar1 F [.v a] = F a := rfl
@[simp] theorem r_ar2 (F : PV → PV → W RV) (a b : PV) : ar2 F [.v a, .v b] = F a b := rfl
@[simp] theorem r_dAr0 : dAr [] = [] := rfl
@[simp] theorem r_dAr1 (d : PV) (ds : List PV) : dAr (d :: ds) = .v d :: dAr ds := rfl
@[simp] theorem r_ar3 (F : PV → PV → PV → W RV) (a b c : PV) : ar3 F [.v a, .v b, .v c] = F a b c := rfl
@[simp] theorem r_ar4 (F : PV → PV → PV → PV → W RV) (a b c d : PV) : ar4 F [.v a, .v b, .v c, .v d] = F a b c d := rfl
@[simp] theorem r_ab0 (F : W RV) : ab0 F [.bag] = F := rfl
@[simp] theorem r_ab1 (F : PV → W RV) (a : PV) : ab1 F [.bag, .v a] = F a := rfl
@[simp] theorem r_ab2 (F : PV → PV → W RV) (a b : PV) : ab2 F [.bag, .v a, .v b] = F a b := rfl
@[simp] theorem r_ab3 (F : PV → PV → PV → W RV) (a b c : PV) : ab3 F [.bag, .v a, .v b, .v c] = F a b c := rfl
@[simp] theorem r_runF_rt (r : RV) : runF (ret (.rt r)) = ret r := rfl
@[simp] theorem r_runF_nx (s : Unit) : runF (ret (.nx s)) = ret (.v .non) := rfl
@[simp] theorem r_runF_b (m : W α) (k : α → W (Fl Unit)) : runF (bind m k) = bind m fun a => runF (k a) := rfl
@[simp] theorem r_pv_v (a : PV) : (RV.v a).pv = a := rfl
@[simp] theorem r_pv_o (as : List PV) : (RV.o as).pv = .lst as := rfl
@[simp] theorem r_asO (as : List PV) : asO (.o as) = some as := rfl
@[simp] theorem r_itL (as : List PV) : itL (ret (.lst as)) = ret as := by unfold itL; simp [asL]
@[simp] theorem r_itR (n : Int) (h1 : -(2 ^ 60) < n) (h2 : n < 2 ^ 60) : itR (ret [.int n]) = ret ((List.range n.toNat).map fun i : Nat => .int (i : Int)) := by unfold itR; simp only [r_bind]; rw [show rngL [.int n] = some ((List.range n.toNat).map fun i : Nat => .int (i : Int)) by show (if -(2 ^ 60) < n ∧ n < 2 ^ 60 then some ((List.range n.toNat).map fun i : Nat => PV.int (i : Int)) else none) = _; rw [if_pos ⟨h1, h2⟩]]; exact lift_some _
@[simp] theorem r_itE (as : List PV) : itE (ret [.lst as]) = ret (enumF 0 as) := by unfold itE; simp [enumL]
@[simp] theorem r_itZ (as bs : List PV) : itZ (ret [.lst as, .lst bs]) = ret (zipF as bs) := by unfold itZ; simp [zipL]
@[simp] theorem r_lend {a : PV} (h : flat a = true) : lend (ret a) = ret a := by unfold lend; simp [h]
@[simp] theorem r_for0 (f : PV → Option A) (F : A → S → W (Fl S)) (s : S) : forW f F [] s = ret (.nx s) := rfl
@[simp] theorem r_for1 (F : PV → S → W (Fl S)) (a : PV) (l : List PV) (s : S) : forW some F (a :: l) s = bindF (F a s) (forW some F l) := by rw [forW, lift_some]; rfl
theorem r_for2 (F : PV × PV → S → W (Fl S)) (a b : PV) (l : List PV) (s : S) : forW (tupF2 some some) F (.tup [a, b] :: l) s = bindF (F (a, b) s) (forW (tupF2 some some) F l) := by
  rw [forW]
  simp [tupF2]
/-! what a piece waits for -/
@[simp] theorem b_op2a (f : PV → PV → Option PV) (m : W α) (k : α → W PV) (mb : W PV) : op2 f (bind m k) mb = bind m fun a => op2 f (k a) mb := rfl
@[simp] theorem b_op2b (f : PV → PV → Option PV) (a : PV) (m : W α) (k : α → W PV) : op2 f (ret a) (bind m k) = bind m fun b => op2 f (ret a) (k b) := rfl
@[simp] theorem b_op1 (f : PV → Option PV) (m : W α) (k : α → W PV) : op1 f (bind m k) = bind m fun a => op1 f (k a) := rfl
@[simp] theorem b_cb (f : List PV → Option PV) (m : W α) (k : α → W (List PV)) : cb f (bind m k) = bind m fun a => cb f (k a) := rfl
@[simp] theorem b_cbO (f : List PV → Option (List PV)) (m : W α) (k : α → W (List PV)) : cbO f (bind m k) = bind m fun a => cbO f (k a) := rfl
@[simp] theorem b_vcons (m : W α) (k : α → W PV) (ms : W (List PV)) : vcons (bind m k) ms = bind m fun a => vcons (k a) ms := rfl
@[simp] theorem b_vcons2 (a : PV) (m : W α) (k : α → W (List PV)) : vcons (ret a) (bind m k) = bind m fun b => vcons (ret a) (k b) := rfl
@[simp] theorem b_acons (m : W α) (k : α → W PV) (ms : W (List Ar)) : acons (bind m k) ms = bind m fun a => acons (k a) ms := rfl
@[simp] theorem b_acons2 (a : PV) (m : W α) (k : α → W (List Ar)) : acons (ret a) (bind m k) = bind m fun b => acons (ret a) (k b) := rfl
@[simp] theorem b_abag (m : W α) (k : α → W (List Ar)) : abag (bind m k) = bind m fun b => abag (k b) := rfl
@[simp] theorem b_callW (F : List Ar → W RV) (ds : List PV) (m : W α) (k : α → W (List Ar)) : callW F ds (bind m k) = bind m fun a => callW F ds (k a) := rfl
@[simp] theorem b_callO (F : List Ar → W RV) (ds : List PV) (m : W α) (k : α → W (List Ar)) : callO F ds (bind m k) = bind m fun a => callO F ds (k a) := rfl
@[simp] theorem b_tst (m : W α) (k : α → W PV) : tst (bind m k) = bind m fun a => tst (k a) := rfl
@[simp] theorem b_notT (m : W α) (k : α → W Bool) : notT (bind m k) = bind m fun a => notT (k a) := rfl
@[simp] theorem b_orT (m : W α) (k : α → W Bool) (n : W Bool) : orT (bind m k) n = bind m fun a => orT (k a) n := rfl
@[simp] theorem b_andT (m : W α) (k : α → W Bool) (n : W Bool) : andT (bind m k) n = bind m fun a => andT (k a) n := rfl
@[simp] theorem b_orV (m : W α) (k : α → W PV) (n : W PV) : orV (bind m k) n = bind m fun a => orV (k a) n := rfl
@[simp] theorem b_andV (m : W α) (k : α → W PV) (n : W PV) : andV (bind m k) n = bind m fun a => andV (k a) n := rfl
@[simp] theorem b_notV (m : W α) (k : α → W PV) : notV (bind m k) = bind m fun a => notV (k a) := rfl
@[simp] theorem b_ifE (m : W α) (k : α → W Bool) (x y : W PV) : ifE (bind m k) x y = bind m fun a => ifE (k a) x y := rfl
@[simp] theorem b_tup (m : W α) (k : α → W (List PV)) : tupW (bind m k) = bind m fun a => tupW (k a) := rfl
@[simp] theorem b_lstO (m : W α) (k : α → W (List PV)) : lstO (bind m k) = bind m fun a => lstO (k a) := rfl
@[simp] theorem b_setl (m : W α) (k : α → W (List PV)) : setl (bind m k) = bind m fun a => setl (k a) := rfl
@[simp] theorem b_itL (m : W α) (k : α → W PV) : itL (bind m k) = bind m fun a => itL (k a) := rfl
@[simp] theorem b_itR (m : W α) (k : α → W (List PV)) : itR (bind m k) = bind m fun a => itR (k a) := rfl
/-! operations on ints and the like -/
@[simp] theorem r_addI (a b : Int) : addF (.int a) (.int b) = some (.int (a + b)) := rfl
@[simp] theorem r_subI (a b : Int) : subF (.int a) (.int b) = some (.int (a - b)) := rfl
@[simp] theorem r_ltI (a b : Int) : ltF (.int a) (.int b) = some (.bl (decide (a < b))) := rfl
@[simp] theorem r_leI (a b : Int) : leF (.int a) (.int b) = some (.bl (decide (a ≤ b))) := rfl
@[simp] theorem r_gtI (a b : Int) : gtF (.int a) (.int b) = some (.bl (decide (a > b))) := rfl
@[simp] theorem r_geI (a b : Int) : geF (.int a) (.int b) = some (.bl (decide (a ≥ b))) := rfl
@[simp] theorem r_negI (a : Int) : negF (.int a) = some (.int (-a)) := rfl
@[simp] theorem r_absI (a : Int) : absF [.int a] = some (.int (if a < 0 then -a else a)) := rfl
@[simp] theorem r_max2 (a b : Int) : max2F [.int a, .int b] = some (.int (if b > a then b else a)) := rfl
@[simp] theorem r_min2 (a b : Int) : min2F [.int a, .int b] = some (.int (if b < a then b else a)) := rfl
@[simp] theorem r_lenL (as : List PV) : lenF [.lst as] = some (.int (as.length : Int)) := rfl
@[simp] theorem r_lenT (as : List PV) : lenF [.tup as] = some (.int (as.length : Int)) := rfl
@[simp] theorem r_lenS (ns : List Int) : lenF [.scr ns] = some (.int (ns.length : Int)) := rfl
theorem r_modI {a b : Int} (h : b ≠ 0) : modF (.int a) (.int b) = some (.int (a.fmod b)) := by simp only [modF]; rw [if_pos h]
theorem r_fdivI {a b : Int} (h : b ≠ 0) (h2 : b.natAbs.log2 < 9000) : fdivF (.int a) (.int b) = some (.int (a.fdiv b)) := by simp only [fdivF]; rw [if_pos ⟨h, h2⟩]
theorem r_mulI {a b : Int} (h : a.natAbs.log2 + b.natAbs.log2 < 1000000) : mulF (.int a) (.int b) = some (.int (a * b)) := by simp only [mulF]; rw [if_pos h]
theorem atI_nat' {α : Type} (as : List α) (n : Nat) (h : n < as.length) : atI as (n : Int) = some as[n] := atI_nat (List.getElem?_eq_getElem h)
@[simp] theorem r_ixL0 (a : PV) (as : List PV) : ixF (.lst (a :: as)) (.int 0) = some a := atI_nat (j := 0) rfl
@[simp] theorem r_ixT0 (a : PV) (as : List PV) : ixF (.tup (a :: as)) (.int 0) = some a := atI_nat (j := 0) rfl
@[simp] theorem r_ixL1 (a b : PV) (as : List PV) : ixF (.lst (a :: b :: as)) (.int 1) = some b := atI_nat (j := 1) rfl
@[simp] theorem r_ixT1 (a b : PV) (as : List PV) : ixF (.tup (a :: b :: as)) (.int 1) = some b := atI_nat (j := 1) rfl
@[simp] theorem r_ixT2 (a b c : PV) (as : List PV) : ixF (.tup (a :: b :: c :: as)) (.int 2) = some c := atI_nat (j := 2) rfl
theorem r_ixL {as : List PV} {n : Nat} {a : PV} (h : as[n]? = some a) : ixF (.lst as) (.int (n : Int)) = some a := atI_nat h
theorem r_ixT {as : List PV} {n : Nat} {a : PV} (h : as[n]? = some a) : ixF (.tup as) (.int (n : Int)) = some a := atI_nat h
/-! == of scalars -/
theorem shaped_int (i : Int) : SeqAt.shaped (.int i) = true := rfl
@[simp] theorem r_eqI (a b : Int) : eqF (.int a) (.int b) = some (.bl (decide (a = b))) := by
  unfold eqF eqD
  simp only [toD]
  rw [if_pos ⟨rfl, rfl, rfl, rfl⟩]
  simp only [PyData.eqv]
  rfl
@[simp] theorem r_neI (a b : Int) : neF (.int a) (.int b) = some (.bl (!decide (a = b))) := by
  unfold neF neD
  simp only [toD]
  rw [if_pos ⟨rfl, rfl, rfl, rfl⟩]
  simp only [PyData.eqv]
  rfl
@[simp] theorem r_eqS (a b : Str) : eqF (.str a) (.str b) = some (.bl (decide (a = b))) := rfl
@[simp] theorem r_neS (a b : Str) : neF (.str a) (.str b) = some (.bl (!decide (a = b))) := rfl
/-! loops -/
theorem for_inv {f : PV → Option A} {F : A → S → W (Fl S)} {Φ : Fl S → Prop} {Ξ : XV → Prop} (I : S → Prop) : ∀ (as : List PV) (s : S), I s → (∀ a ∈ as, ∀ s Φ', I s → (∀ s', I s' → Φ' (.nx s')) → (bind (lift (f a)) fun x => F x s) Φ' Ξ) → (∀ s, I s → Φ (.nx s)) → forW f F as s Φ Ξ
  | [], s, i, _, k => k s i
  | a :: as, s, i, h, k => by
    have := h a (List.mem_cons_self ..) s (fun fl => match fl with | .nx s' => forW f F as s' Φ Ξ | .rt r => Φ (.rt r)) i fun s' i' => for_inv I as s' i' (fun b hb => h b (List.mem_cons_of_mem _ hb)) k
    obtain ⟨x, ex, z⟩ := this
    refine ⟨x, ex, ?_⟩
    show F x s _ Ξ
    have e : (fun fl : Fl S => (match fl with | .nx s' => forW f F as s' | .rt r => ret (.rt r) : W (Fl S)) Φ Ξ) = fun fl => match fl with | .nx s' => forW f F as s' Φ Ξ | .rt r => Φ (.rt r) := by
      funext fl
      cases fl <;> rfl
    show F x s (fun fl => (match fl with | .nx s' => forW f F as s' | .rt r => ret (.rt r) : W (Fl S)) Φ Ξ) Ξ
    rw [e]
    exact z
theorem while_no {c : S → W Bool} {F : S → W (Fl S)} {s : S} (hc : c s = ret false) : whileW c F s = ret (.nx s) := by
  funext Φ Ξ
  apply propext
  constructor
  · rintro ⟨n, h⟩
    cases n with
    | zero => exact h.elim
    | succ n =>
      rw [iterW, hc] at h
      exact h
  · intro h
    refine ⟨1, ?_⟩
    rw [iterW, hc]
    exact h
theorem while_go {c : S → W Bool} {F : S → W (Fl S)} {s s' : S} (hc : c s = ret true) (hF : F s = ret (.nx s')) : whileW c F s = whileW c F s' := by
  funext Φ Ξ
  apply propext
  constructor
  · rintro ⟨n, h⟩
    cases n with
    | zero => exact h.elim
    | succ n =>
      rw [iterW, hc, r_bind, if_pos rfl, hF] at h
      exact ⟨n, h⟩
  · rintro ⟨n, h⟩
    refine ⟨n + 1, ?_⟩
    rw [iterW, hc, r_bind, if_pos rfl, hF]
    exact h
end
end PL

namespace NT
open PySem PL
def B_is_whole (v1thing : PV) : W (Fl Unit) :=
  (bind (andV (op1 (isiF "int") (ret v1thing)) (notV (op1 (isiF "bool") (ret v1thing)))) fun v2r => ret (.rt (.v v2r)))
def F_is_whole (v1thing : PV) : W RV := runF (B_is_whole v1thing)

def W_greatest_divisor_1  (v4s : PV × PV) : W (Fl (PV × PV)) :=
  whileW (fun v4s => (tst (op2 neF (ret v4s.2) (ret (.int 0))))) (fun v4s =>
  (bindF (bind (vcons (ret v4s.2) (vcons (op2 modF (ret v4s.1) (ret v4s.2)) vnil)) fun as => bind (lift (two as)) fun x => ret (.nx x)) fun v5s => ret (.nx (v5s.1, v5s.2)))) v4s
def B_greatest_divisor (v1one : PV) (v2other : PV) : W (Fl Unit) :=
  (bindF (W_greatest_divisor_1 (v1one, v2other)) fun v3s =>
  (bind (cb absF (vcons (ret v3s.1) vnil)) fun v6r => ret (.rt (.v v6r))))
def F_greatest_divisor (v1one : PV) (v2other : PV) : W RV := runF (B_greatest_divisor v1one v2other)

def B_is_fraction (v1thing : PV) : W (Fl Unit) :=
  (bind (orT (notT (tst (op1 (isiF "tuple") (ret v1thing)))) (tst (op2 neF (cb lenF (vcons (ret v1thing) vnil)) (ret (.int 2))))) fun v8b => if v8b = true then bindF (S := Empty) (bind (ret (.bl false)) fun v2r => ret (.rt (.v v2r))) (fun s => s.elim) else
  (bind (ret v1thing) fun v7a => bind (lift ((tupF2 some some) v7a)) fun v3x =>
  (bind (orT (notT (tst (callW (ar1 F_is_whole) [] (acons (ret v3x.1) anil)))) (orT (notT (tst (callW (ar1 F_is_whole) [] (acons (ret v3x.2) anil)))) (tst (op2 ltF (ret v3x.2) (ret (.int 1)))))) fun v6b => if v6b = true then bindF (S := Empty) (bind (ret (.bl false)) fun v4r => ret (.rt (.v v4r))) (fun s => s.elim) else
  (bind (op2 eqF (callW (ar2 F_greatest_divisor) [] (acons (ret v3x.1) (acons (ret v3x.2) anil))) (ret (.int 1))) fun v5r => ret (.rt (.v v5r))))))
def F_is_fraction (v1thing : PV) : W RV := runF (B_is_fraction v1thing)

def B_reduced (v1top : PV) (v2bottom : PV) : W (Fl Unit) :=
  (bind (callW (ar2 F_greatest_divisor) [] (acons (ret v1top) (acons (ret v2bottom) anil))) fun v3divisor =>
  (bindF (bind (tst (op2 ltF (ret v2bottom) (ret (.int 0)))) fun v7b => if v7b = true then ((bindF (bind (op1 negF (ret v3divisor)) fun v6a => ret (.nx v6a)) fun v5s => ret (.nx v5s)) : W (Fl (PV))) else (ret (.nx v3divisor))) fun v4s =>
  (bind (tupW (vcons (op2 fdivF (ret v1top) (ret v4s)) (vcons (op2 fdivF (ret v2bottom) (ret v4s)) vnil))) fun v8r => ret (.rt (.v v8r)))))
def F_reduced (v1top : PV) (v2bottom : PV) : W RV := runF (B_reduced v1top v2bottom)

def B_plus (v1one : PV) (v2other : PV) : W (Fl Unit) :=
  (bind (callW (ar2 F_reduced) [] (acons (op2 addF (op2 mulF (op2 ixF (ret v1one) (ret (.int 0))) (op2 ixF (ret v2other) (ret (.int 1)))) (op2 mulF (op2 ixF (ret v2other) (ret (.int 0))) (op2 ixF (ret v1one) (ret (.int 1))))) (acons (op2 mulF (op2 ixF (ret v1one) (ret (.int 1))) (op2 ixF (ret v2other) (ret (.int 1)))) anil))) fun v3r => ret (.rt (.v v3r)))
def F_plus (v1one : PV) (v2other : PV) : W RV := runF (B_plus v1one v2other)

def B_minus (v1one : PV) (v2other : PV) : W (Fl Unit) :=
  (bind (callW (ar2 F_reduced) [] (acons (op2 subF (op2 mulF (op2 ixF (ret v1one) (ret (.int 0))) (op2 ixF (ret v2other) (ret (.int 1)))) (op2 mulF (op2 ixF (ret v2other) (ret (.int 0))) (op2 ixF (ret v1one) (ret (.int 1))))) (acons (op2 mulF (op2 ixF (ret v1one) (ret (.int 1))) (op2 ixF (ret v2other) (ret (.int 1)))) anil))) fun v3r => ret (.rt (.v v3r)))
def F_minus (v1one : PV) (v2other : PV) : W RV := runF (B_minus v1one v2other)

def B_times (v1one : PV) (v2other : PV) : W (Fl Unit) :=
  (bind (callW (ar2 F_reduced) [] (acons (op2 mulF (op2 ixF (ret v1one) (ret (.int 0))) (op2 ixF (ret v2other) (ret (.int 0)))) (acons (op2 mulF (op2 ixF (ret v1one) (ret (.int 1))) (op2 ixF (ret v2other) (ret (.int 1)))) anil))) fun v3r => ret (.rt (.v v3r)))
def F_times (v1one : PV) (v2other : PV) : W RV := runF (B_times v1one v2other)

def B_under (v1one : PV) (v2other : PV) : W (Fl Unit) :=
  (bind (op2 ltF (op2 mulF (op2 ixF (ret v1one) (ret (.int 0))) (op2 ixF (ret v2other) (ret (.int 1)))) (op2 mulF (op2 ixF (ret v2other) (ret (.int 0))) (op2 ixF (ret v1one) (ret (.int 1))))) fun v3r => ret (.rt (.v v3r)))
def F_under (v1one : PV) (v2other : PV) : W RV := runF (B_under v1one v2other)

def B_apart (v1one : PV) (v2other : PV) : W (Fl Unit) :=
  (bind (tst (callW (ar2 F_under) [] (acons (ret v1one) (acons (ret v2other) anil)))) fun v5b => if v5b = true then bindF (S := Empty) (bind (callW (ar2 F_minus) [] (acons (ret v2other) (acons (ret v1one) anil))) fun v3r => ret (.rt (.v v3r))) (fun s => s.elim) else
  (bind (callW (ar2 F_minus) [] (acons (ret v1one) (acons (ret v2other) anil))) fun v4r => ret (.rt (.v v4r))))
def F_apart (v1one : PV) (v2other : PV) : W RV := runF (B_apart v1one v2other)

def L_common_1  (v5x : PV) (v4s : PV) : W (Fl (PV)) :=
  (bindF (bind (op2 mulF (ret v4s) (op2 fdivF (op2 ixF (ret v5x) (ret (.int 1))) (callW (ar2 F_greatest_divisor) [] (acons (ret v4s) (acons (op2 ixF (ret v5x) (ret (.int 1))) anil))))) fun v7a => ret (.nx v7a)) fun v6s => ret (.nx v6s))
def E_common_2 (v3s : PV) (v9x : PV) : W PV :=
  (op2 mulF (op2 ixF (ret v9x) (ret (.int 0))) (op2 fdivF (ret v3s) (op2 ixF (ret v9x) (ret (.int 1)))))
def B_common (v1some : PV) : W (Fl Unit) :=
  (bind (ret (.int 1)) fun v2bottom =>
  (bindF (bind (itL (ret v1some)) fun as => forW some L_common_1 as v2bottom) fun v3s =>
  (bind (tupW (vcons (setl (lcO some (fun _ => ret true) (E_common_2 v3s) (itL (ret v1some)))) (vcons (ret v3s) vnil))) fun v8r => ret (.rt (.v v8r)))))
def F_common (v1some : PV) : W RV := runF (B_common v1some)

def B_total (v1some : PV) (v2start : PV) : W (Fl Unit) :=
  (bind (callW (ar1 F_common) [] (acons (ifE (tst (op2 isF (ret v2start) (ret .non))) (setl (cbO listF (vcons (ret v1some) vnil))) (op2 addF (setl (lstO (vcons (ret v2start) vnil))) (setl (cbO listF (vcons (ret v1some) vnil))))) anil)) fun v5a => bind (lift ((tupF2 some some) v5a)) fun v3x =>
  (bind (callW (ar2 F_reduced) [] (acons (cb sumF1 (vcons (ret v3x.1) vnil)) (acons (ret v3x.2) anil))) fun v4r => ret (.rt (.v v4r))))
def F_total (v1some : PV) (v2start : PV) : W RV := runF (B_total v1some v2start)

def B_is_whole_within (v1thing : PV) (v2least : PV) (v3most : PV) : W (Fl Unit) :=
  (bind (andV (callW (ar1 F_is_whole) [] (acons (ret v1thing) anil)) (chain leF leF (ret v2least) (ret v1thing) (ret v3most))) fun v4r => ret (.rt (.v v4r)))
def F_is_whole_within (v1thing : PV) (v2least : PV) (v3most : PV) : W RV := runF (B_is_whole_within v1thing v2least v3most)

def E_is_mark_1  (v4x : PV) : W PV :=
  (chain leF leF (ret (.str (PySem.Str.ofString "a"))) (ret v4x) (ret (.str (PySem.Str.ofString "z"))))
def B_is_mark (v1thing : PV) : W (Fl Unit) :=
  (bind (orT (notT (tst (op1 (isiF "str") (ret v1thing)))) (notT (tst (chain leF leF (ret (.int 1)) (cb lenF (vcons (ret v1thing) vnil)) (ret (.int 4)))))) fun v5b => if v5b = true then bindF (S := Empty) (bind (ret (.bl false)) fun v2r => ret (.rt (.v v2r))) (fun s => s.elim) else
  (bind (cb allF (vcons (setl (lcO some (fun _ => ret true) E_is_mark_1 (itL (ret v1thing)))) vnil)) fun v3r => ret (.rt (.v v3r))))
def F_is_mark (v1thing : PV) : W RV := runF (B_is_mark v1thing)

def B_is_share (v1thing : PV) : W (Fl Unit) :=
  (bind (andV (callW (ar1 F_is_fraction) [] (acons (ret v1thing) anil)) (chain3 leF leF leF (ret (.int 0)) (op2 ixF (ret v1thing) (ret (.int 0))) (op2 ixF (ret v1thing) (ret (.int 1))) (ret (.int 999)))) fun v2r => ret (.rt (.v v2r)))
def F_is_share (v1thing : PV) : W RV := runF (B_is_share v1thing)

def E_are_room_shares_1  (v5x : PV) : W PV :=
  (callW (ar1 F_is_share) [] (acons (ret v5x) anil))
def B_are_room_shares (v1many : PV) (v2thing : PV) : W (Fl Unit) :=
  (bind (orT (notT (tst (op1 (isiF "list") (ret v2thing)))) (tst (op2 neF (cb lenF (vcons (ret v2thing) vnil)) (ret v1many)))) fun v6b => if v6b = true then bindF (S := Empty) (bind (ret (.bl false)) fun v3r => ret (.rt (.v v3r))) (fun s => s.elim) else
  (bind (andV (cb allF (vcons (setl (lcO some (fun _ => ret true) E_are_room_shares_1 (itL (ret v2thing)))) vnil)) (op2 eqF (callW (ar2 F_total) [.non] (acons (ret v2thing) anil)) (ret (.tup [(.int 1), (.int 1)])))) fun v4r => ret (.rt (.v v4r))))
def F_are_room_shares (v1many : PV) (v2thing : PV) : W RV := runF (B_are_room_shares v1many v2thing)

def E_standing_in_1 (v2room : PV) (v4x : PV) : W PV :=
  (ifE (tst (op2 eqF (ret v4x) (ret v2room))) (ret (.tup [(.int 1), (.int 1)])) (ret (.tup [(.int 0), (.int 1)])))
def B_standing_in (v1many : PV) (v2room : PV) : W (Fl Unit) :=
  (bind (lcO some (fun _ => ret true) (E_standing_in_1 v2room) (itR (vcons (ret v1many) vnil))) fun v3r => ret (.rt (.o v3r)))
def F_standing_in (v1many : PV) (v2room : PV) : W RV := runF (B_standing_in v1many v2room)

def E_stepped_1 (v2chances : PV) (v1shares : PV) (v5x : PV) (v6x : PV) : W PV :=
  (callW (ar2 F_times) [] (acons (op2 ixF (ret v2chances) (ret v6x)) (acons (op2 ixF (op2 ixF (ret v1shares) (ret v6x)) (ret v5x)) anil)))
def E_stepped_2 (v2chances : PV) (v1shares : PV) (v3rooms : PV) (v5x : PV) : W PV :=
  (callW (ar2 F_total) [.non] (acons (setl (lcO some (fun _ => ret true) (E_stepped_1 v2chances v1shares v5x) (itL (ret v3rooms)))) anil))
def B_stepped (v1shares : PV) (v2chances : PV) : W (Fl Unit) :=
  (bind (setl (lrO (cb lenF (vcons (ret v1shares) vnil)))) fun v3rooms =>
  (bind (lcO some (fun _ => ret true) (E_stepped_2 v2chances v1shares v3rooms) (itL (ret v3rooms))) fun v4r => ret (.rt (.o v4r))))
def F_stepped (v1shares : PV) (v2chances : PV) : W RV := runF (B_stepped v1shares v2chances)

def E_is_row_1  (v4x : PV) : W PV :=
  (callW (ar1 F_is_mark) [] (acons (ret v4x) anil))
def B_is_row (v1thing : PV) : W (Fl Unit) :=
  (bind (orT (notT (tst (op1 (isiF "list") (ret v1thing)))) (notT (tst (chain leF leF (ret (.int 1)) (cb lenF (vcons (ret v1thing) vnil)) (ret (.int 8)))))) fun v5b => if v5b = true then bindF (S := Empty) (bind (ret (.bl false)) fun v2r => ret (.rt (.v v2r))) (fun s => s.elim) else
  (bind (cb allF (vcons (setl (lcO some (fun _ => ret true) E_is_row_1 (itL (ret v1thing)))) vnil)) fun v3r => ret (.rt (.v v3r))))
def F_is_row (v1thing : PV) : W RV := runF (B_is_row v1thing)

def E_only_marked_1 (v2mark : PV) (v5x : PV × PV) : W PV :=
  (ifE (tst (op2 eqF (ret v5x.1) (ret v2mark))) (ret v5x.2) (ret (.tup [(.int 0), (.int 1)])))
def B_only_marked (v1marks : PV) (v2mark : PV) (v3chances : PV) : W (Fl Unit) :=
  (bind (lcO (tupF2 some some) (fun _ => ret true) (E_only_marked_1 v2mark) (itZ (vcons (ret v1marks) (vcons (ret v3chances) vnil)))) fun v4r => ret (.rt (.o v4r)))
def F_only_marked (v1marks : PV) (v2mark : PV) (v3chances : PV) : W RV := runF (B_only_marked v1marks v2mark v3chances)

def B_is_amount (v1thing : PV) : W (Fl Unit) :=
  (bind (andV (callW (ar1 F_is_fraction) [] (acons (ret v1thing) anil)) (op2 geF (op2 ixF (ret v1thing) (ret (.int 0))) (ret (.int 0)))) fun v2r => ret (.rt (.v v2r)))
def F_is_amount (v1thing : PV) : W RV := runF (B_is_amount v1thing)

def B_is_gap (v1thing : PV) : W (Fl Unit) :=
  (bind (andV (callW (ar1 F_is_amount) [] (acons (ret v1thing) anil)) (op2 leF (op2 ixF (ret v1thing) (ret (.int 0))) (op2 ixF (ret v1thing) (ret (.int 1))))) fun v2r => ret (.rt (.v v2r)))
def F_is_gap (v1thing : PV) : W RV := runF (B_is_gap v1thing)

def E_are_shares_1  (v4x : PV) : W PV :=
  (callW (ar1 F_is_amount) [] (acons (ret v4x) anil))
def B_are_shares (v1thing : PV) : W (Fl Unit) :=
  (bind (orT (notT (tst (op1 (isiF "list") (ret v1thing)))) (notT (tst (chain leF leF (ret (.int 1)) (cb lenF (vcons (ret v1thing) vnil)) (ret (.int 6)))))) fun v5b => if v5b = true then bindF (S := Empty) (bind (ret (.bl false)) fun v2r => ret (.rt (.v v2r))) (fun s => s.elim) else
  (bind (andV (cb allF (vcons (setl (lcO some (fun _ => ret true) E_are_shares_1 (itL (ret v1thing)))) vnil)) (op2 eqF (callW (ar2 F_total) [.non] (acons (ret v1thing) anil)) (ret (.tup [(.int 1), (.int 1)])))) fun v3r => ret (.rt (.v v3r))))
def F_are_shares (v1thing : PV) : W RV := runF (B_are_shares v1thing)

def E_is_square_1 (v1many : PV) (v5x : PV) : W PV :=
  (andV (op1 (isiF "list") (ret v5x)) (op2 eqF (cb lenF (vcons (ret v5x) vnil)) (ret v1many)))
def B_is_square (v1many : PV) (v2thing : PV) : W (Fl Unit) :=
  (bind (orT (notT (tst (op1 (isiF "list") (ret v2thing)))) (tst (op2 neF (cb lenF (vcons (ret v2thing) vnil)) (ret v1many)))) fun v6b => if v6b = true then bindF (S := Empty) (bind (ret (.bl false)) fun v3r => ret (.rt (.v v3r))) (fun s => s.elim) else
  (bind (cb allF (vcons (setl (lcO some (fun _ => ret true) (E_is_square_1 v1many) (itL (ret v2thing)))) vnil)) fun v4r => ret (.rt (.v v4r))))
def F_is_square (v1many : PV) (v2thing : PV) : W RV := runF (B_is_square v1many v2thing)

def B_is_fade (v1thing : PV) : W (Fl Unit) :=
  (bind (andV (callW (ar1 F_is_fraction) [] (acons (ret v1thing) anil)) (chain3 ltF ltF leF (ret (.int 0)) (op2 ixF (ret v1thing) (ret (.int 0))) (op2 ixF (ret v1thing) (ret (.int 1))) (ret (.int 999)))) fun v2r => ret (.rt (.v v2r)))
def F_is_fade (v1thing : PV) : W RV := runF (B_is_fade v1thing)

def B_gap_within (v1marks : PV) (v2gaps : PV) (v3one : PV) (v4other : PV) : W (Fl Unit) :=
  (bind (tst (op2 eqF (ret v3one) (ret v4other))) fun v9b => if v9b = true then bindF (S := Empty) (bind (ret (.tup [(.int 0), (.int 1)])) fun v5r => ret (.rt (.v v5r))) (fun s => s.elim) else
  (bind (tst (op2 neF (op2 ixF (ret v1marks) (ret v3one)) (op2 ixF (ret v1marks) (ret v4other)))) fun v8b => if v8b = true then bindF (S := Empty) (bind (ret (.tup [(.int 1), (.int 1)])) fun v6r => ret (.rt (.v v6r))) (fun s => s.elim) else
  (bind (op2 ixF (ret v2gaps) (tupW (vcons (cb min2F (vcons (ret v3one) (vcons (ret v4other) vnil))) (vcons (cb max2F (vcons (ret v3one) (vcons (ret v4other) vnil))) vnil)))) fun v7r => ret (.rt (.v v7r)))))
def F_gap_within (v1marks : PV) (v2gaps : PV) (v3one : PV) (v4other : PV) : W RV := runF (B_gap_within v1marks v2gaps v3one v4other)

def E_table_of_1 (v1marks : PV) (v2gaps : PV) (v5x : PV) (v6x : PV) : W PV :=
  (callW (ar4 F_gap_within) [] (acons (ret v1marks) (acons (ret v2gaps) (acons (ret v5x) (acons (ret v6x) anil)))))
def E_table_of_2 (v1marks : PV) (v2gaps : PV) (v3rooms : PV) (v5x : PV) : W PV :=
  (setl (lcO some (fun _ => ret true) (E_table_of_1 v1marks v2gaps v5x) (itL (ret v3rooms))))
def B_table_of (v1marks : PV) (v2gaps : PV) : W (Fl Unit) :=
  (bind (setl (lrO (cb lenF (vcons (ret v1marks) vnil)))) fun v3rooms =>
  (bind (lcO some (fun _ => ret true) (E_table_of_2 v1marks v2gaps v3rooms) (itL (ret v3rooms))) fun v4r => ret (.rt (.o v4r))))
def F_table_of (v1marks : PV) (v2gaps : PV) : W RV := runF (B_table_of v1marks v2gaps)

def E_cleared_1 (v3pivot : PV) (v2own : PV) (v1row : PV) (v4divisor : PV) (v6x : PV × PV) : W PV :=
  (op2 fdivF (op2 subF (op2 mulF (op2 ixF (ret v3pivot) (ret v2own)) (ret v6x.1)) (op2 mulF (op2 ixF (ret v1row) (ret v2own)) (ret v6x.2))) (ret v4divisor))
def B_cleared (v1row : PV) (v2own : PV) (v3pivot : PV) (v4divisor : PV) : W (Fl Unit) :=
  (bind (lcO (tupF2 some some) (fun _ => ret true) (E_cleared_1 v3pivot v2own v1row v4divisor) (itZ (vcons (ret v1row) (vcons (ret v3pivot) vnil)))) fun v5r => ret (.rt (.o v5r)))
def F_cleared (v1row : PV) (v2own : PV) (v3pivot : PV) (v4divisor : PV) : W RV := runF (B_cleared v1row v2own v3pivot v4divisor)

def E_solution_1 (v6x : PV) (v7pivot : PV) (v5s : PV × PV) (v9x : PV × PV) : W PV :=
  (ifE (tst (op2 eqF (ret v9x.1) (ret v6x))) (ret v9x.2) (setl (callO (ar4 F_cleared) [] (acons (ret v9x.2) (acons (ret v6x) (acons (ret v7pivot) (acons (ret v5s.2) anil)))))))
def L_solution_2  (v6x : PV) (v5s : PV × PV) : W (Fl (PV × PV)) :=
  (bind (op2 ixF (ret v5s.1) (ret v6x)) fun v7pivot =>
  (bind (setl (lcO (tupF2 some some) (fun _ => ret true) (E_solution_1 v6x v7pivot v5s) (itE (vcons (ret v5s.1) vnil)))) fun v8rows =>
  (bindF (bind (op2 ixF (ret v7pivot) (ret v6x)) fun v11a => ret (.nx v11a)) fun v10s => ret (.nx (v8rows, v10s)))))
def E_solution_3 (v4s : PV × PV) (v13x : PV) : W PV :=
  (callW (ar2 F_reduced) [] (acons (op2 ixF (ret v13x) (op1 negF (ret (.int 1)))) (acons (ret v4s.2) anil)))
def B_solution (v1equations : PV) : W (Fl Unit) :=
  (bind (ret v1equations) fun v2rows =>
  (bind (ret (.int 1)) fun v3divisor =>
  (bindF (bind (itR (vcons (cb lenF (vcons (ret v1equations) vnil)) vnil)) fun as => forW some L_solution_2 as (v2rows, v3divisor)) fun v4s =>
  (bind (lcO some (fun _ => ret true) (E_solution_3 v4s) (itL (ret v4s.1))) fun v12r => ret (.rt (.o v12r))))))
def F_solution (v1equations : PV) : W RV := runF (B_solution v1equations)
end NT

namespace A25
open PySem PL
abbrev F__law_begun := PL.begunW
abbrev F__law_take := PL.takeW
def B__law_whole (v1thing : PV) : W (Fl Unit) :=
  (bind (andV (op1 (isiF "int") (ret v1thing)) (notV (op1 (isiF "bool") (ret v1thing)))) fun v2r => ret (.rt (.v v2r)))
def F__law_whole (v1thing : PV) : W RV := runF (B__law_whole v1thing)

def W__law_is_fade_1  (v6s : PV × PV) : W (Fl (PV × PV)) :=
  whileW (fun v6s => (tst (op2 gtF (ret v6s.2) (ret (.int 0))))) (fun v6s =>
  (bindF (bind (vcons (ret v6s.2) (vcons (op2 modF (ret v6s.1) (ret v6s.2)) vnil)) fun as => bind (lift (two as)) fun x => ret (.nx x)) fun v7s => ret (.nx (v7s.1, v7s.2)))) v6s
def B__law_is_fade (v1thing : PV) : W (Fl Unit) :=
  (bind (orT (notT (tst (op1 (isiF "tuple") (ret v1thing)))) (orT (tst (op2 neF (cb lenF (vcons (ret v1thing) vnil)) (ret (.int 2)))) (orT (notT (tst (callW (ar1 F__law_whole) [] (acons (op2 ixF (ret v1thing) (ret (.int 0))) anil)))) (notT (tst (callW (ar1 F__law_whole) [] (acons (op2 ixF (ret v1thing) (ret (.int 1))) anil))))))) fun v11b => if v11b = true then bindF (S := Empty) (bind (ret (.bl false)) fun v2r => ret (.rt (.v v2r))) (fun s => s.elim) else
  (bind (notT (tst (chain3 ltF ltF ltF (ret (.int 0)) (op2 ixF (ret v1thing) (ret (.int 0))) (op2 ixF (ret v1thing) (ret (.int 1))) (ret (.int 1000))))) fun v10b => if v10b = true then bindF (S := Empty) (bind (ret (.bl false)) fun v3r => ret (.rt (.v v3r))) (fun s => s.elim) else
  (bind (ret v1thing) fun v9a => bind (lift ((tupF2 some some) v9a)) fun v4x =>
  (bindF (W__law_is_fade_1 (v4x.1, v4x.2)) fun v5s =>
  (bind (op2 eqF (ret v5s.1) (ret (.int 1))) fun v8r => ret (.rt (.v v8r)))))))
def F__law_is_fade (v1thing : PV) : W RV := runF (B__law_is_fade v1thing)

def B__law_odd (v2top : PV) (v3base : PV) : W (Fl Unit) :=
  (bind (setl (lstO (vcons (ret .non) (vcons (setl (lstO (vcons (ret v2top) (vcons (ret v3base) vnil)))) (vcons (tupW (vcons (ret v2top) vnil)) (vcons (tupW (vcons (ret v2top) (vcons (ret v3base) (vcons (ret (.int 1)) vnil)))) (vcons (tupW (vcons (ret (.bl true)) (vcons (ret (.int 2)) vnil))) (vcons (tupW (vcons (ret (.int 1)) (vcons (ret (.bl true)) vnil))) (vcons (tupW (vcons (ret (.int 1)) (vcons (ret .non) vnil))) (vcons (tupW (vcons (ret (.str (PySem.Str.ofString "1"))) (vcons (ret (.int 2)) vnil))) (vcons (ret (.int 1)) (vcons (ret (.str (PySem.Str.ofString "1/2"))) (vcons (ret .dic0) (vcons (tupW vnil) vnil)))))))))))))) fun v4some =>
  (bind (op2 ixF (op2 addF (ret v4some) (setl (lstO (vcons (tupW (vcons (ret (.int 1)) (vcons (ret (.int 1000)) vnil))) (vcons (tupW (vcons (ret (.int 999)) (vcons (ret (.int 1000)) vnil))) (vcons (tupW (vcons (ret (.int 998)) (vcons (ret (.int 999)) vnil))) (vcons (tupW (vcons (ret (.int 0)) (vcons (ret (.int 1)) vnil))) (vcons (tupW (vcons (ret (.int 1)) (vcons (ret (.int 1)) vnil))) (vcons (tupW (vcons (ret (.int 1)) (vcons (ret (.int 0)) vnil))) (vcons (tupW (vcons (op1 negF (ret (.int 1))) (vcons (ret (.int 2)) vnil))) (vcons (tupW (vcons (ret (.int 2)) (vcons (ret (.int 4)) vnil))) vnil))))))))))) (callW (ab1 F__law_take) [] (abag (acons (ret (.int 20)) anil)))) fun v5r => ret (.rt (.v v5r))))
def F__law_odd (v2top : PV) (v3base : PV) : W RV := runF (B__law_odd v2top v3base)

def L_law_1  (v10x : PV) (v9s : Unit) : W (Fl (Unit)) :=
  (bind (cb repF (vcons (ret v10x) vnil)) fun v11kept =>
  (bindF (bind (orT (tst (op2 neF (cb repF (vcons (callW (ar1 NT.F_is_fade) [] (acons (ret v10x) anil)) vnil)) (cb repF (vcons (callW (ar1 F__law_is_fade) [] (acons (ret v10x) anil)) vnil)))) (tst (op2 neF (cb repF (vcons (ret v10x) vnil)) (ret v11kept)))) fun v14b => if v14b = true then ((bind (ret (.bl false)) fun v13r => ret (.rt (.v v13r))) : W (Fl (Unit))) else (ret (.nx ()))) fun _ => ret (.nx ())))
def L_law_2 (v1script : PV) (v4x : PV) (v3s : Unit) : W (Fl (Unit)) :=
  (bind (callO (ar2 F__law_begun) [] (acons (ret v1script) (acons (ret v4x) anil))) fun v5state => bind (lift (isBag v5state)) fun _ =>
  (bind (op2 addF (ret (.int 1)) (callW (ab1 F__law_take) [] (abag (acons (op2 ixF (setl (lstO (vcons (ret (.int 2)) (vcons (ret (.int 12)) (vcons (ret (.int 999)) (vcons (ret (.int 9999)) vnil)))))) (callW (ab1 F__law_take) [] (abag (acons (ret (.int 4)) anil)))) anil)))) fun v6base =>
  (bind (op2 subF (callW (ab1 F__law_take) [] (abag (acons (op2 addF (ret v6base) (ret (.int 3))) anil))) (ret (.int 1))) fun v7top =>
  (bindF (bind (itL (setl (lstO (vcons (tupW (vcons (ret v7top) (vcons (ret v6base) vnil))) (vcons (tupW (vcons (ret v6base) (vcons (ret v7top) vnil))) (vcons (tupW (vcons (op2 mulF (ret (.int 2)) (ret v7top)) (vcons (op2 mulF (ret (.int 2)) (ret v6base)) vnil))) (vcons (tupW (vcons (ret (.int 1)) (vcons (op2 addF (ret v6base) (ret (.int 1))) vnil))) (vcons (callW (ab2 F__law_odd) [] (abag (acons (ret v7top) (acons (ret v6base) anil)))) (vcons (setl (lstO (vcons (ret v7top) vnil))) vnil))))))))) fun as => forW some L_law_1 as ()) fun _ => ret (.nx ())))))
def B_law (v1script : PV) : W (Fl Unit) :=
  (bindF (bind (itR (vcons (cb max2F (vcons (ret (.int 1)) (vcons (cb min2F (vcons (ret (.int 40)) (vcons (cb lenF (vcons (ret v1script) vnil)) vnil))) vnil))) vnil)) fun as => forW some (L_law_2 v1script) as ()) fun _ =>
  (bind (ret (.bl true)) fun v15r => ret (.rt (.v v15r))))
def F_law (v1script : PV) : W RV := runF (B_law v1script)
end A25

namespace A25
open PySem PySem.Spec PyProof.Rows L2 Evl NF
def topS (i : Nat) : Stmt := PySem.Challenge.pw_neartwins_k25_what_is_a_fade.main.body.getD i (.Pass ⟨0, 0, 0, 0⟩)
abbrev s__law_begun : Stmt := topS 8
theorem sc__law_begun : FnScope ["_law_script", "_law_k", "_law_cell", "_law_number", "_law_mixed"] ["_law_script", "_law_k"] (defScope s__law_begun) := ⟨rfl, rfl, rfl, by decide +kernel, rfl, by decide +kernel, by decide +kernel⟩
abbrev s__law_take : Stmt := topS 9
theorem sc__law_take : FnScope ["_law_state", "_law_many", "_law_digit", "_law_made", "_law_turn"] ["_law_state", "_law_many"] (defScope s__law_take) := ⟨rfl, rfl, rfl, by decide +kernel, rfl, by decide +kernel, by decide +kernel⟩
section
variable {P : Program} {w : World} {K : PySem.W.Frag} {mg : Str → Option Value} {base : Heap} {f : Addr} {fd : FuncData}
theorem cell_ok (ns : List Int) (k : Nat) : ∃ c : Int, (cutV (ns.map V.int) (some (k : Int)) (some ((k : Int) + 1)) ++ [V.int 0])[0]? = some (.int c) := by
  have h : ∀ v ∈ cutV (ns.map V.int) (some (k : Int)) (some ((k : Int) + 1)), ∃ c, v = V.int c := by
    intro v hv
    have h1 : v ∈ ns.map V.int := List.mem_of_mem_drop (List.mem_of_mem_take hv)
    obtain ⟨c, _, e⟩ := List.mem_map.mp h1
    exact ⟨c, e.symm⟩
  cases e : cutV (ns.map V.int) (some (k : Int)) (some ((k : Int) + 1)) with
  | nil => exact ⟨0, rfl⟩
  | cons v r =>
    rw [e] at h
    obtain ⟨c, hc⟩ := h v (List.mem_cons_self ..)
    exact ⟨c, by rw [hc]; rfl⟩
theorem cut_len (xs : List V) (a b : Option Int) : (cutV xs a b).length ≤ xs.length := by
  unfold cutV
  rw [List.length_take, List.length_drop]
  omega
theorem ok_begun (F : Fun K "_law_begun" "_law_begun" s__law_begun f fd) (n_max : mg "max" = none) : FnOk P w K mg base CX0 1 f fd ["_law_script", "_law_k"] (spBegun K) := by
  refine F.ok sc__law_begun (fun vs H Q E h => ?_) (fun cdv A outer s H vs Q E hr h => ?_)
  · obtain ⟨_, _, _, rfl, _⟩ := h
    rfl
  · obtain ⟨a, ns, k, rfl, ha, hl, hk, q⟩ := h
    refine ⟨_, (pss_cons (ps_set (i := 2) sc__law_begun.nd rfl (.inl rfl) (pe_ix ix_list (pe_op op_cat (pe_slice sl_list (pv 0) (po_some (pv 1)) (po_some (pe_op op_add (pv 1) pe_int))) (pe_lst (pa_cons pe_int pa_nil))) pe_int (fun _ _ => rfl)))
      (pss_cons (ps_set (i := 3) sc__law_begun.nd rfl (.inl rfl) (pe_callB (call_max2 rfl) (by rfl) n_max PyProof.Rows.boot_max (pa_cons (pv 2) (pa_cons (pe_op op_sub (pe_un un_neg pe_int) (pv 2)) pa_nil))))
      (pss_cons (ps_set (i := 4) sc__law_begun.nd rfl (.inl rfl) (pe_op op_modN (pe_op op_add (pe_op op_add (pe_op op_add (pe_op op_modN (pv 3) pe_int) (pe_op op_mul pe_int (pv 1))) (pe_op op_mul (pe_op op_mul pe_int (pv 1)) (pv 1))) pe_int) pe_int))
      (pss_one (ps_ret (pe_lst (pa_cons (pv 3) (pa_cons (pv 4) (pa_cons (pe_cmpR op_ge (pv 3) (pe_op op_pow pe_int pe_int) (nomark _)) pa_nil))))))))), ?_⟩
    obtain ⟨c, hc⟩ := cell_ok ns k
    have hlen := cut_len (ns.map V.int) (some (k : Int)) (some ((k : Int) + 1))
    rw [List.length_map] at hlen
    have e1 : Ev (tOp (rIxL K) (tOp rCat (tSl (rSlL K) (tVar 0) (tPart (tVar 1)) (tPart (tOp (rI0 fun i j => .int (i + j)) (tVar 1) (tC (.int 1))))) (tLst (tCons (tC (.int 0)) tNil))) (tC (.int 0))) (start ["_law_script", "_law_k", "_law_cell", "_law_number", "_law_mixed"] [.ref a, .int (k : Int)]) H (.int c) := by
      intro H1 x1 Q' q'
      refine el_sl (ev_var rfl) (eo_some (ev_var rfl)) (eo_some (ev_op (ev_var rfl) ev_c rv_I0)) ha H1 x1 _ fun p H2 np x2 hp => ?_
      refine el_lst (H := H2) (ea_cons ev_c ea_nil) (by show 1 ≤ 100000; decide) H2 (Ex.refl H2) _ fun r H3 nr x3 h3 => ?_
      refine ⟨p, r, _, _, rfl, rfl, x3 _ _ hp, h3, sz_of (by show (cutV (ns.map V.int) (some (k : Int)) (some ((k : Int) + 1))).length + 1 ≤ 100000; omega), fun t nt => ?_⟩
      exact ⟨t, _, 0, .int c, rfl, rfl, SqL.of upd_same, atI_nat (j := 0) hc, q' _ ((x2.trans x3).trans (Ex.new nt))⟩
    refine q_asg e1 fun H1 x1 => ?_
    refine q_asg (ev_max2 (ev_var rfl) (ev_op (ev_un ev_c ru_neg) (ev_var rfl) rv_I0)) fun H2 x2 => ?_
    refine q_asg (ev_op (ev_op (ev_op (ev_op (ev_op (ev_var rfl) ev_c (rv_I (by decide))) (ev_op ev_c (ev_var rfl) (rv_I (.inl ⟨by decide, by decide⟩))) rv_I0)
      (ev_op (ev_op ev_c (ev_var rfl) (rv_I (.inl ⟨by decide, by decide⟩))) (ev_var rfl) (rv_I (.inr ⟨by omega, by omega⟩))) rv_I0) ev_c rv_I0) ev_c (rv_I (by decide))) fun H3 x3 => ?_
    refine s_retL (el_lst (ea_cons (ev_var rfl) (ea_cons (ev_var rfl) (ea_cons (ev_op (ev_var rfl) (ev_op ev_c ev_c (rv_I ⟨by decide, by decide, by decide⟩)) rv_I0) ea_nil))) (by show 3 ≤ 100000; decide)) fun p H4 np x4 hp => ?_
    exact q p H4 (fresh_back ((x1.trans x2).trans x3) np) (((x1.trans x2).trans x3).trans x4) ⟨_, _, _, hp⟩
theorem ok_take (F : Fun K "_law_take" "_law_take" s__law_take f fd) (n_int : mg "int" = none) (n_range : mg "range" = none) : FnOk P w K mg base CX0 1 f fd ["_law_state", "_law_many"] spTake := by
  refine F.ok sc__law_take (fun vs H Q E h => ?_) (fun cdv A outer s H vs Q E hr h => ?_)
  · obtain ⟨_, _, rfl, _⟩ := h
    rfl
  · obtain ⟨st, many, rfl, ⟨n, m, c, hs⟩, h0, hm, q⟩ := h
    refine ⟨_, (pss_cons (ps_if (pt_val (pe_ix ix_list (pv 0) pe_int (fun _ _ => rfl))) (pss_cons (ps_set (i := 2) sc__law_take.nd rfl (.inl rfl) (pe_op op_modN (pe_ix ix_list (pv 0) pe_int (fun _ _ => rfl)) (pv 1)))
      (pss_cons (ps_asg (pe_op op_fdivX (pe_ix ix_list (pv 0) pe_int (fun _ _ => rfl)) (pv 1)) (pg_sub (pv 0) pe_int set_list))
      (pss_cons (ps_asg (pe_cmpR op_gt (pe_ix ix_list (pv 0) pe_int (fun _ _ => rfl)) pe_int (nomark _)) (pg_sub (pv 0) pe_int set_list))
      (pss_one (ps_ret (pv 2)))))) pss_nil)
      (pss_cons (ps_set (i := 3) sc__law_take.nd rfl (.inl rfl) pe_int)
      (pss_cons (ps_for PassesOwn.never rfl (pi_range1 (by rfl) n_range (pa_cons (pe_op op_add pe_int (pe_callTy call_int1 (by rfl) n_int PyProof.Rows.boot_int (pa_cons (pe_cmpR op_gt (pv 1) (pe_op op_pow pe_int pe_int) (nomark _)) pa_nil))) pa_nil)) (pg_name (i := 4) sc__law_take.nd rfl (.inl rfl)) (pss_cons (ps_asg (pe_op op_modN (pe_op op_add (pe_op op_mul (pe_ix ix_list (pv 0) pe_int (fun _ _ => rfl)) pe_int) pe_int) pe_int) (pg_sub (pv 0) pe_int set_list))
      (pss_one (ps_set (i := 3) sc__law_take.nd rfl (.inl rfl) (pe_op op_add (pe_op op_mul (pv 3) pe_int) (pe_op op_modN (pe_op op_mul (pe_ix ix_list (pv 0) pe_int (fun _ _ => rfl)) (pe_ix ix_list (pv 0) pe_int (fun _ _ => rfl))) pe_int))))))
      (pss_one (ps_ret (pe_op op_modN (pe_op op_fdivX (pv 3) pe_int) (pv 1))))))), ?_⟩
    have i0 : ∀ {σ : L2.St} {H : Hp} {a b c : V}, σ[0]? = some (some (.ref st)) → H st = some (.lst [a, b, c]) → Ev (tOp (rIxL K) (tVar 0) (tC (.int 0))) σ H a := fun hσ h => ev_op (ev_var hσ) ev_c (rv_ixL (SqL.of h) (atI_nat (j := 0) rfl))
    have i1 : ∀ {σ : L2.St} {H : Hp} {a b c : V}, σ[0]? = some (some (.ref st)) → H st = some (.lst [a, b, c]) → Ev (tOp (rIxL K) (tVar 0) (tC (.int 1))) σ H b := fun hσ h => ev_op (ev_var hσ) ev_c (rv_ixL (SqL.of h) (atI_nat (j := 1) rfl))
    have i2 : ∀ {σ : L2.St} {H : Hp} {a b c : V}, σ[0]? = some (some (.ref st)) → H st = some (.lst [a, b, c]) → Ev (tOp (rIxL K) (tVar 0) (tC (.int 2))) σ H c := fun hσ h => ev_op (ev_var hσ) ev_c (rv_ixL (SqL.of h) (atI_nat (j := 2) rfl))
    refine q_when (et_B (i2 rfl hs)) (fun hb H1 x1 => ?_) fun hb H1 x1 => ?_
    · refine q_asg (ev_op (i0 rfl (x1 _ _ hs)) (ev_var rfl) (rv_I (Int.ne_of_gt h0))) fun H2 x2 => ?_
      refine q_setL (j := 0) ((x1.trans x2) _ _ hs) (ev_op (i0 rfl ((x1.trans x2) _ _ hs)) (ev_var rfl) (rv_I (divX (Int.ne_of_gt h0) hm (by decide) (by decide)))) (ev_var rfl) ev_c (by show 0 < 3; decide) fun H3 x3 => ?_
      refine q_setL (j := 2) upd_same (ev_op (i0 rfl upd_same) ev_c rv_I0) (ev_var rfl) ev_c (by show 2 < 3; decide) fun H4 x4 => ?_
      have y3 : Exs st H (upd H3 st (.lst [.int (n.fdiv many), .int m, .bl c])) := (Exs.of ((x1.trans x2).trans x3)).trans Exs.upd
      exact s_ret (ev_var rfl) fun H5 x5 => q _ H5 (Int.fmod_nonneg_of_pos n h0) (Int.fmod_lt_of_pos n h0) ⟨_, _, _, x5 _ _ upd_same⟩ (((y3.trans (Exs.of x4)).trans Exs.upd).trans (Exs.of x5))
    · refine q_asg ev_c fun H2 x2 => ?_
      have en : RC (fun xs H Q => (∃ i, xs = [V.int i] ∧ Q (.int i) H) ∨ ∃ k, xs = [V.bl k] ∧ Q (.int (if k then 1 else 0)) H) [.bl (decide ((10 : Int) ^ (6 : Int).toNat < many))] H2 (.int (if decide ((10 : Int) ^ (6 : Int).toNat < many) = true then 1 else 0)) := fun H1 _ _ q => .inr ⟨_, rfl, q H1 (Ex.refl H1)⟩
      refine q_forR1 (n := 1 + (if decide ((10 : Int) ^ (6 : Int).toNat < many) = true then 1 else 0)) (ea_cons (ev_op ev_c (ev_cb (ea_cons (ev_op (ev_var rfl) (ev_op ev_c ev_c (rv_I ⟨by decide, by decide, by decide⟩)) rv_I0) ea_nil) en) rv_I0) ea_nil) (by split <;> omega)
        (fun i σ' H' => ∃ (g : Int) (y2 y4 : Option V), σ' = [some (.ref st), some (.int many), y2, some (.int g), y4] ∧ StA st H' ∧ Exs st H H') (fun H3 x3 => ⟨0, none, none, rfl, ⟨n, m, c, ((x1.trans x2).trans x3) _ _ hs⟩, Exs.of ((x1.trans x2).trans x3)⟩) ?_ ?_
      · rintro i σ' H' hi ⟨g, y2, y4, rfl, ⟨n', m', c', hs'⟩, x⟩
        have p0 : 0 ≤ (m' * 48271 + 11).fmod 2147483647 := Int.fmod_nonneg_of_pos _ (by decide)
        have p1 : (m' * 48271 + 11).fmod 2147483647 < 2147483647 := Int.fmod_lt_of_pos _ (by decide)
        refine q_setL (j := 1) hs' (ev_op (ev_op (ev_op (i1 rfl hs') ev_c (rv_I (.inr ⟨by decide, by decide⟩))) ev_c rv_I0) ev_c (rv_I (by decide))) (ev_var rfl) ev_c (by show 1 < 3; decide) fun H3 x3 => ?_
        refine s_asg (ev_op (ev_op (ev_var rfl) ev_c (rv_I (.inr ⟨by decide, by decide⟩))) (ev_op (ev_op (i1 rfl upd_same) (i1 rfl upd_same) (rv_I (.inl ⟨by omega, by omega⟩))) ev_c (rv_I (by decide))) rv_I0) fun H4 x4 => ?_
        exact ⟨_, _, _, rfl, ⟨_, _, _, x4 _ _ upd_same⟩, ((x.trans (Exs.of x3)).trans Exs.upd).trans (Exs.of x4)⟩
      · rintro σ' H' ⟨g, y2, y4, rfl, hs', x⟩
        exact s_ret (ev_op (ev_op (ev_var rfl) ev_c (rv_I (divX (b := 7) (by decide) (by decide) (by decide) (by decide)))) (ev_var rfl) (rv_I (Int.ne_of_gt h0))) fun H3 x3 => q _ H3 (Int.fmod_nonneg_of_pos _ h0) (Int.fmod_lt_of_pos _ h0) (hs'.mono x3) (x.trans (Exs.of x3))
/-- the law's bag by our promises -/
theorem ok__law_begun (F : Fun K "_law_begun" "_law_begun" s__law_begun f fd) (n_max : mg "max" = none) : FnG P w K mg base CX0 1 f fd ["_law_script", "_law_k"] (PL.spW K (PL.ar2 PL.begunW)) := PL.ad_begun (.of (ok_begun F n_max))
theorem ok__law_take (F : Fun K "_law_take" "_law_take" s__law_take f fd) (n_int : mg "int" = none) (n_range : mg "range" = none) : FnG P w K mg base CX0 1 f fd ["_law_state", "_law_many"] (PL.spW K (PL.ab1 PL.takeW)) := PL.ad_take (.of (ok_take F n_int n_range)) rfl
end
end A25

namespace A25
open PySem PySem.Spec PyProof.Rows L2 Evl NF WL PL
abbrev s_is_whole : Stmt := topS 1
theorem sc_is_whole : FnScope ["thing"] ["thing"] (defScope s_is_whole) := ⟨rfl, rfl, rfl, by decide +kernel, rfl, by decide +kernel, by decide +kernel⟩
theorem ok_is_whole {P : Program} {w : World} {K : PySem.W.Frag} {mg : Str → Option Value} {base : Heap} {f : Addr} {fd : FuncData} (Fn : Fun K "is_whole" "is_whole" s_is_whole f fd) (n_bool : mg "bool" = none) (n_int : mg "int" = none) (n_isinstance : mg "isinstance" = none) : FnG P w K mg base CX0 1 f fd ["thing"] (spW K (ar1 NT.F_is_whole)) := by
  refine fnW (k := 0) Fn sc_is_whole (by decide) le_ar1 fun cdv A outer s H E gd hr => ⟨_, (pss_one (ps_ret (pe_and (pe_callB (call_isP (K := K) rfl) (by rfl) n_isinstance PyProof.Rows.boot_isinstance (pa_cons (pv 0) (pa_cons (c_ty (n := "int") n_int (by rfl) (by decide +kernel) (by decide)) pa_nil))) (pe_one (pe_not (pe_callB (call_isP (K := K) rfl) (by rfl) n_isinstance PyProof.Rows.boot_isinstance (pa_cons (pv 0) (pa_cons (c_ty (n := "bool") n_bool (by rfl) (by decide +kernel) (by decide)) pa_nil)))))))), fun as Ψ Ξ h => ?_⟩
  obtain ⟨v1thing, rfl, h⟩ := ar1_inv h
  exact ⟨NT.B_is_whole v1thing, h,
  (gp_ret (p_and (p_isi (ep_var rfl)) (p_not (p_isi (ep_var rfl)))))⟩

abbrev s_greatest_divisor : Stmt := topS 2
theorem sc_greatest_divisor : FnScope ["one", "other"] ["one", "other"] (defScope s_greatest_divisor) := ⟨rfl, rfl, rfl, by decide +kernel, rfl, by decide +kernel, by decide +kernel⟩
theorem ok_greatest_divisor {P : Program} {w : World} {K : PySem.W.Frag} {mg : Str → Option Value} {base : Heap} {f : Addr} {fd : FuncData} (Fn : Fun K "greatest_divisor" "greatest_divisor" s_greatest_divisor f fd) (n_abs : mg "abs" = none) : FnG P w K mg base CX0 1 f fd ["one", "other"] (spW K (ar2 NT.F_greatest_divisor)) := by
  refine fnW (k := 0) Fn sc_greatest_divisor (by decide) le_ar2 fun cdv A outer s H E gd hr => ⟨_, (pss_cons (ps_while PassesOwn.never (pt_cmpR (op_neP (K := K) rfl hr.units) (pv 1) pe_int (nomark _)) (pss_one (ps_par (i := 0) (j := 1) (by rfl) sc_greatest_divisor.nd rfl rfl (by decide) rfl rfl (pa_cons (pv 1) (pa_cons (pe_op op_modN (pv 0) (pv 1)) pa_nil)) (by rfl))))
      (pss_one (ps_ret (pe_callB call_abs (by rfl) n_abs PyProof.Rows.boot_abs (pa_cons (pv 0) pa_nil))))), fun as Ψ Ξ h => ?_⟩
  obtain ⟨v1one, v2other, rfl, h⟩ := ar2_inv h
  exact ⟨NT.B_greatest_divisor v1one v2other, h,
  (gp_seq (gp_while (pat := (fun v3s => [.val (mp K v3s.1), .val (mp K v3s.2)])) (s0 := (v1one, v2other)) (by exact ⟨.inr rfl, ⟨.inr rfl, trivial⟩⟩) (fun v4s => (t_tst (p_op ow_ne (ep_var rfl) ep_int))) (fun v4s =>
  (g_last (fun v5s => (v5s.1, v5s.2)) (fun v5s => (by exact ⟨.inr rfl, ⟨.inr rfl, trivial⟩⟩)) (g_par2L (pat := (fun v5s => [.val (mp K v5s.1), .val (mp K v5s.2)])) (v_cons (ep_var rfl) (v_cons (p_op ow_mod (ep_var rfl) (ep_var rfl)) v_nil)) fun _ => rfl)))) fun v3s =>
  (gp_ret (p_cb cw_abs (v_cons (ep_var rfl) v_nil))))⟩

abbrev s_is_fraction : Stmt := topS 3
theorem sc_is_fraction : FnScope ["thing", "top", "bottom"] ["thing"] (defScope s_is_fraction) := ⟨rfl, rfl, rfl, by decide +kernel, rfl, by decide +kernel, by decide +kernel⟩
theorem ok_is_fraction {P : Program} {w : World} {K : PySem.W.Frag} {mg : Str → Option Value} {base : Heap} {f : Addr} {fd : FuncData} (Fn : Fun K "is_fraction" "is_fraction" s_is_fraction f fd) (n_isinstance : mg "isinstance" = none) (n_len : mg "len" = none) (n_tuple : mg "tuple" = none) (C_greatest_divisor : CaG P w K mg base CX0 1 "greatest_divisor" ["one", "other"] [] (spW K (ar2 NT.F_greatest_divisor))) (C_is_whole : CaG P w K mg base CX0 1 "is_whole" ["thing"] [] (spW K (ar1 NT.F_is_whole))) : FnG P w K mg base CX0 2 f fd ["thing"] (spW K (ar1 NT.F_is_fraction)) := by
  refine fnW (k := 1) Fn sc_is_fraction (by decide) le_ar1 fun cdv A outer s H E gd hr => ⟨_, (pss_cons (ps_if (PW.pt (pw_or (pt_not (pt_val (pe_callB (call_isP (K := K) rfl) (by rfl) n_isinstance PyProof.Rows.boot_isinstance (pa_cons (pv 0) (pa_cons (c_ty (n := "tuple") n_tuple (by rfl) (by decide +kernel) (by decide)) pa_nil))))) (pw_or1 (pt_cmpR (op_neP (K := K) rfl hr.units) (pe_callB (call_lenU (K := K) rfl) (by rfl) n_len PySem.boot_len (pa_cons (pv 0) pa_nil)) pe_int (nomark _))))) (pss_one (ps_ret pe_bl)) pss_nil)
      (pss_cons (ps_asg (pv 0) (pg_tup rfl (pgs_cons (pg_name (i := 1) sc_is_fraction.nd rfl (.inl rfl)) (pgs_cons (pg_name (i := 2) sc_is_fraction.nd rfl (.inl rfl)) pgs_nil))))
      (pss_cons (ps_if (PW.pt (pw_or (pt_not (pt_val (pe_caG C_is_whole gd hr (by decide) (by rfl) (pa_cons (pv 1) pa_nil)))) (pw_or (pt_not (pt_val (pe_caG C_is_whole gd hr (by decide) (by rfl) (pa_cons (pv 2) pa_nil)))) (pw_or1 (pt_cmpR op_lt (pv 2) pe_int (nomark _)))))) (pss_one (ps_ret pe_bl)) pss_nil)
      (pss_one (ps_ret (pe_cmpR (op_eqP (K := K) rfl hr.units) (pe_caG C_greatest_divisor gd hr (by decide) (by rfl) (pa_cons (pv 1) (pa_cons (pv 2) pa_nil))) pe_int (nomark _))))))), fun as Ψ Ξ h => ?_⟩
  obtain ⟨v1thing, rfl, h⟩ := ar1_inv h
  exact ⟨NT.B_is_fraction v1thing, h,
  (gp_when (pe := fun s => s.elim) (t_orT (t_notT (t_tB (p_isi (ep_var rfl)))) (t_tst (p_op ow_ne (p_cb cw_len (v_cons (ep_var rfl) v_nil)) ep_int))) (gp_ret ep_bl)
  (gp_unpack (ep_var rfl) (tg_tup2 tg_name tg_name) fun v3x => ⟨rfl,
  (gp_when (pe := fun s => s.elim) (t_orT (t_notT (t_tB (p_call ob_ar1 (fun _ => .nil) (a_cons (ep_var rfl) a_nil)))) (t_orT (t_notT (t_tB (p_call ob_ar1 (fun _ => .nil) (a_cons (ep_var rfl) a_nil)))) (t_tst (p_op ow_lt (ep_var rfl) ep_int)))) (gp_ret ep_bl)
  (gp_ret (p_op ow_eq (p_call ob_ar2 (fun _ => .nil) (a_cons (ep_var rfl) (a_cons (ep_var rfl) a_nil))) ep_int)))⟩))⟩

abbrev s_is_fade : Stmt := topS 6
theorem sc_is_fade : FnScope ["thing"] ["thing"] (defScope s_is_fade) := ⟨rfl, rfl, rfl, by decide +kernel, rfl, by decide +kernel, by decide +kernel⟩
theorem ok_is_fade {P : Program} {w : World} {K : PySem.W.Frag} {mg : Str → Option Value} {base : Heap} {f : Addr} {fd : FuncData} (Fn : Fun K "is_fade" "is_fade" s_is_fade f fd) {tk_GREATEST_BOTTOM : Tok} (g_GREATEST_BOTTOM : mg "GREATEST_BOTTOM" = some (.int 999 tk_GREATEST_BOTTOM)) (C_is_fraction : CaG P w K mg base CX0 2 "is_fraction" ["thing"] [] (spW K (ar1 NT.F_is_fraction))) : FnG P w K mg base CX0 3 f fd ["thing"] (spW K (ar1 NT.F_is_fade)) := by
  refine fnW (k := 2) Fn sc_is_fade (by decide) le_ar1 fun cdv A outer s H E gd hr => ⟨_, (pss_one (ps_ret (pe_and (pe_caG C_is_fraction gd hr (by decide) (by rfl) (pa_cons (pv 0) pa_nil)) (pe_one (pe_chain3 op_lt op_lt op_le pe_int (pe_ix (ix_U (K := K) rfl) (pv 0) pe_int (fun _ _ => rfl)) (pe_ix (ix_U (K := K) rfl) (pv 0) pe_int (fun _ _ => rfl)) (pe_glob (v := .int 999) (by rfl) g_GREATEST_BOTTOM ⟨_, rfl⟩)))))), fun as Ψ Ξ h => ?_⟩
  obtain ⟨v1thing, rfl, h⟩ := ar1_inv h
  exact ⟨NT.B_is_fade v1thing, h,
  (gp_ret (p_and (p_call ob_ar1 (fun _ => .nil) (a_cons (ep_var rfl) a_nil)) (p_chain3 ow_lt ow_lt ow_le ep_int (p_op ow_ix (ep_var rfl) ep_int) (p_op ow_ix (ep_var rfl) ep_int) ep_int)))⟩

abbrev s__law_whole : Stmt := topS 10
theorem sc__law_whole : FnScope ["_law_thing"] ["_law_thing"] (defScope s__law_whole) := ⟨rfl, rfl, rfl, by decide +kernel, rfl, by decide +kernel, by decide +kernel⟩
theorem ok__law_whole {P : Program} {w : World} {K : PySem.W.Frag} {mg : Str → Option Value} {base : Heap} {f : Addr} {fd : FuncData} (Fn : Fun K "_law_whole" "_law_whole" s__law_whole f fd) (n_bool : mg "bool" = none) (n_int : mg "int" = none) (n_isinstance : mg "isinstance" = none) : FnG P w K mg base CX0 1 f fd ["_law_thing"] (spW K (ar1 F__law_whole)) := by
  refine fnW (k := 0) Fn sc__law_whole (by decide) le_ar1 fun cdv A outer s H E gd hr => ⟨_, (pss_one (ps_ret (pe_and (pe_callB (call_isP (K := K) rfl) (by rfl) n_isinstance PyProof.Rows.boot_isinstance (pa_cons (pv 0) (pa_cons (c_ty (n := "int") n_int (by rfl) (by decide +kernel) (by decide)) pa_nil))) (pe_one (pe_not (pe_callB (call_isP (K := K) rfl) (by rfl) n_isinstance PyProof.Rows.boot_isinstance (pa_cons (pv 0) (pa_cons (c_ty (n := "bool") n_bool (by rfl) (by decide +kernel) (by decide)) pa_nil)))))))), fun as Ψ Ξ h => ?_⟩
  obtain ⟨v1thing, rfl, h⟩ := ar1_inv h
  exact ⟨B__law_whole v1thing, h,
  (gp_ret (p_and (p_isi (ep_var rfl)) (p_not (p_isi (ep_var rfl)))))⟩

abbrev s__law_is_fade : Stmt := topS 11
theorem sc__law_is_fade : FnScope ["_law_thing", "_law_one", "_law_other"] ["_law_thing"] (defScope s__law_is_fade) := ⟨rfl, rfl, rfl, by decide +kernel, rfl, by decide +kernel, by decide +kernel⟩
theorem ok__law_is_fade {P : Program} {w : World} {K : PySem.W.Frag} {mg : Str → Option Value} {base : Heap} {f : Addr} {fd : FuncData} (Fn : Fun K "_law_is_fade" "_law_is_fade" s__law_is_fade f fd) (n_isinstance : mg "isinstance" = none) (n_len : mg "len" = none) (n_tuple : mg "tuple" = none) (C__law_whole : CaG P w K mg base CX0 1 "_law_whole" ["_law_thing"] [] (spW K (ar1 F__law_whole))) : FnG P w K mg base CX0 2 f fd ["_law_thing"] (spW K (ar1 F__law_is_fade)) := by
  refine fnW (k := 1) Fn sc__law_is_fade (by decide) le_ar1 fun cdv A outer s H E gd hr => ⟨_, (pss_cons (ps_if (PW.pt (pw_or (pt_not (pt_val (pe_callB (call_isP (K := K) rfl) (by rfl) n_isinstance PyProof.Rows.boot_isinstance (pa_cons (pv 0) (pa_cons (c_ty (n := "tuple") n_tuple (by rfl) (by decide +kernel) (by decide)) pa_nil))))) (pw_or (pt_cmpR (op_neP (K := K) rfl hr.units) (pe_callB (call_lenU (K := K) rfl) (by rfl) n_len PySem.boot_len (pa_cons (pv 0) pa_nil)) pe_int (nomark _)) (pw_or (pt_not (pt_val (pe_caG C__law_whole gd hr (by decide) (by rfl) (pa_cons (pe_ix (ix_U (K := K) rfl) (pv 0) pe_int (fun _ _ => rfl)) pa_nil)))) (pw_or1 (pt_not (pt_val (pe_caG C__law_whole gd hr (by decide) (by rfl) (pa_cons (pe_ix (ix_U (K := K) rfl) (pv 0) pe_int (fun _ _ => rfl)) pa_nil))))))))) (pss_one (ps_ret pe_bl)) pss_nil)
      (pss_cons (ps_if (pt_not (pt_chain3 op_lt op_lt op_lt pe_int (pe_ix (ix_U (K := K) rfl) (pv 0) pe_int (fun _ _ => rfl)) (pe_ix (ix_U (K := K) rfl) (pv 0) pe_int (fun _ _ => rfl)) pe_int)) (pss_one (ps_ret pe_bl)) pss_nil)
      (pss_cons (ps_asg (pv 0) (pg_tup rfl (pgs_cons (pg_name (i := 1) sc__law_is_fade.nd rfl (.inl rfl)) (pgs_cons (pg_name (i := 2) sc__law_is_fade.nd rfl (.inl rfl)) pgs_nil))))
      (pss_cons (ps_while PassesOwn.never (pt_cmpR op_gt (pv 2) pe_int (nomark _)) (pss_one (ps_par (i := 1) (j := 2) (by rfl) sc__law_is_fade.nd rfl rfl (by decide) rfl rfl (pa_cons (pv 2) (pa_cons (pe_op op_modN (pv 1) (pv 2)) pa_nil)) (by rfl))))
      (pss_one (ps_ret (pe_cmpR (op_eqP (K := K) rfl hr.units) (pv 1) pe_int (nomark _)))))))), fun as Ψ Ξ h => ?_⟩
  obtain ⟨v1thing, rfl, h⟩ := ar1_inv h
  exact ⟨B__law_is_fade v1thing, h,
  (gp_when (pe := fun s => s.elim) (t_orT (t_notT (t_tB (p_isi (ep_var rfl)))) (t_orT (t_tst (p_op ow_ne (p_cb cw_len (v_cons (ep_var rfl) v_nil)) ep_int)) (t_orT (t_notT (t_tB (p_call ob_ar1 (fun _ => .nil) (a_cons (p_op ow_ix (ep_var rfl) ep_int) a_nil)))) (t_notT (t_tB (p_call ob_ar1 (fun _ => .nil) (a_cons (p_op ow_ix (ep_var rfl) ep_int) a_nil))))))) (gp_ret ep_bl)
  (gp_when (pe := fun s => s.elim) (t_notT (t_tst (p_chain3 ow_lt ow_lt ow_lt ep_int (p_op ow_ix (ep_var rfl) ep_int) (p_op ow_ix (ep_var rfl) ep_int) ep_int))) (gp_ret ep_bl)
  (gp_unpack (ep_var rfl) (tg_tup2 tg_name tg_name) fun v4x => ⟨rfl,
  (gp_seq (gp_while (pat := (fun v5s => [.val (mp K v1thing), .val (mp K v5s.1), .val (mp K v5s.2)])) (s0 := (v4x.1, v4x.2)) (by exact ⟨.inr rfl, ⟨.inr rfl, ⟨.inr rfl, trivial⟩⟩⟩) (fun v6s => (t_tst (p_op ow_gt (ep_var rfl) ep_int))) (fun v6s =>
  (g_last (fun v7s => (v7s.1, v7s.2)) (fun v7s => (by exact ⟨.inr rfl, ⟨.inr rfl, ⟨.inr rfl, trivial⟩⟩⟩)) (g_par2L (pat := (fun v7s => [.val (mp K v1thing), .val (mp K v7s.1), .val (mp K v7s.2)])) (v_cons (ep_var rfl) (v_cons (p_op ow_mod (ep_var rfl) (ep_var rfl)) v_nil)) fun _ => rfl)))) fun v5s =>
  (gp_ret (p_op ow_eq (ep_var rfl) ep_int)))⟩)))⟩

abbrev s__law_odd : Stmt := topS 12
theorem sc__law_odd : FnScope ["_law_state", "_law_top", "_law_base", "_law_some"] ["_law_state", "_law_top", "_law_base"] (defScope s__law_odd) := ⟨rfl, rfl, rfl, by decide +kernel, rfl, by decide +kernel, by decide +kernel⟩
theorem ok__law_odd {P : Program} {w : World} {K : PySem.W.Frag} {mg : Str → Option Value} {base : Heap} {f : Addr} {fd : FuncData} (Fn : Fun K "_law_odd" "_law_odd" s__law_odd f fd) (C__law_take : CaG P w K mg base CX0 1 "_law_take" ["_law_state", "_law_many"] [] (spW K (ab1 F__law_take))) : FnG P w K mg base CX0 2 f fd ["_law_state", "_law_top", "_law_base"] (spW K (ab2 F__law_odd)) := by
  refine fnW (k := 1) Fn sc__law_odd (by decide) le_ab2 fun cdv A outer s H E gd hr => ⟨_, (pss_cons (ps_set (i := 3) sc__law_odd.nd rfl (.inl rfl) (pe_lst (pa_cons pe_non (pa_cons (pe_lst (pa_cons (pv 1) (pa_cons (pv 2) pa_nil))) (pa_cons (pe_tup (pa_cons (pv 1) pa_nil)) (pa_cons (pe_tup (pa_cons (pv 1) (pa_cons (pv 2) (pa_cons pe_int pa_nil)))) (pa_cons (pe_tup (pa_cons pe_bl (pa_cons pe_int pa_nil))) (pa_cons (pe_tup (pa_cons pe_int (pa_cons pe_bl pa_nil))) (pa_cons (pe_tup (pa_cons pe_int (pa_cons pe_non pa_nil))) (pa_cons (pe_tup (pa_cons pe_str (pa_cons pe_int pa_nil))) (pa_cons pe_int (pa_cons pe_str (pa_cons pe_dnewK (pa_cons (pe_tup pa_nil) pa_nil))))))))))))))
      (pss_one (ps_ret (pe_ix (ix_U (K := K) rfl) (pe_op op_addU (pv 3) (pe_lst (pa_cons (pe_tup (pa_cons pe_int (pa_cons pe_int pa_nil))) (pa_cons (pe_tup (pa_cons pe_int (pa_cons pe_int pa_nil))) (pa_cons (pe_tup (pa_cons pe_int (pa_cons pe_int pa_nil))) (pa_cons (pe_tup (pa_cons pe_int (pa_cons pe_int pa_nil))) (pa_cons (pe_tup (pa_cons pe_int (pa_cons pe_int pa_nil))) (pa_cons (pe_tup (pa_cons pe_int (pa_cons pe_int pa_nil))) (pa_cons (pe_tup (pa_cons (pe_un un_neg pe_int) (pa_cons pe_int pa_nil))) (pa_cons (pe_tup (pa_cons pe_int (pa_cons pe_int pa_nil))) pa_nil)))))))))) (pe_caG C__law_take gd hr (by decide) (by rfl) (pa_cons (pv 0) (pa_cons pe_int pa_nil))) (fun _ _ => rfl))))), fun as Ψ Ξ h => ?_⟩
  obtain ⟨v2top, v3base, rfl, h⟩ := ab2_inv h
  exact ⟨B__law_odd v2top v3base, h,
  (gp_asg (p_set (o_lst (v_cons ep_non (v_cons (p_set (o_lst (v_cons (ep_var rfl) (v_cons (ep_var rfl) v_nil)))) (v_cons (p_tup (v_cons (ep_var rfl) v_nil)) (v_cons (p_tup (v_cons (ep_var rfl) (v_cons (ep_var rfl) (v_cons ep_int v_nil)))) (v_cons (p_tup (v_cons ep_bl (v_cons ep_int v_nil))) (v_cons (p_tup (v_cons ep_int (v_cons ep_bl v_nil))) (v_cons (p_tup (v_cons ep_int (v_cons ep_non v_nil))) (v_cons (p_tup (v_cons ep_str (v_cons ep_int v_nil))) (v_cons ep_int (v_cons ep_str (v_cons p_dic (v_cons (p_tup v_nil) v_nil)))))))))))))) fun v4some =>
  (gp_ret (p_op ow_ix (p_add (ep_var rfl) (p_set (o_lst (v_cons (p_tup (v_cons ep_int (v_cons ep_int v_nil))) (v_cons (p_tup (v_cons ep_int (v_cons ep_int v_nil))) (v_cons (p_tup (v_cons ep_int (v_cons ep_int v_nil))) (v_cons (p_tup (v_cons ep_int (v_cons ep_int v_nil))) (v_cons (p_tup (v_cons ep_int (v_cons ep_int v_nil))) (v_cons (p_tup (v_cons ep_int (v_cons ep_int v_nil))) (v_cons (p_tup (v_cons (p_un uw_neg ep_int) (v_cons ep_int v_nil))) (v_cons (p_tup (v_cons ep_int (v_cons ep_int v_nil))) v_nil))))))))))) (p_call ob_ab1 (fun _ => .nil) (a_bag rfl (a_cons ep_int a_nil))))))⟩

abbrev s_law : Stmt := topS 13
theorem sc_law : FnScope ["_law_script", "_law_k", "_law_state", "_law_base", "_law_top", "_law_thing", "_law_kept"] ["_law_script"] (defScope s_law) := ⟨rfl, rfl, rfl, by decide +kernel, rfl, by decide +kernel, by decide +kernel⟩
theorem ok_law {P : Program} {w : World} {K : PySem.W.Frag} {mg : Str → Option Value} {base : Heap} {f : Addr} {fd : FuncData} (Fn : Fun K "law" "law" s_law f fd) (n_len : mg "len" = none) (n_max : mg "max" = none) (n_min : mg "min" = none) (n_range : mg "range" = none) (n_repr : mg "repr" = none) (C__law_begun : CaG P w K mg base CX0 1 "_law_begun" ["_law_script", "_law_k"] [] (spW K (ar2 F__law_begun))) (C__law_is_fade : CaG P w K mg base CX0 2 "_law_is_fade" ["_law_thing"] [] (spW K (ar1 F__law_is_fade))) (C__law_odd : CaG P w K mg base CX0 2 "_law_odd" ["_law_state", "_law_top", "_law_base"] [] (spW K (ab2 F__law_odd))) (C__law_take : CaG P w K mg base CX0 1 "_law_take" ["_law_state", "_law_many"] [] (spW K (ab1 F__law_take))) (C_is_fade : CaG P w K mg base CX0 3 "is_fade" ["thing"] [] (spW K (ar1 NT.F_is_fade))) : FnG P w K mg base CX0 4 f fd ["_law_script"] (spW K (ar1 F_law)) := by
  refine fnW (k := 3) Fn sc_law (by decide) le_ar1 fun cdv A outer s H E gd hr => ⟨_, (pss_cons (ps_for PassesOwn.never rfl (pi_range1 (by rfl) n_range (pa_cons (pe_callB (call_max2 rfl) (by rfl) n_max PyProof.Rows.boot_max (pa_cons pe_int (pa_cons (pe_callB (call_min2 rfl) (by rfl) n_min PyProof.Rows.boot_min (pa_cons pe_int (pa_cons (pe_callB (call_lenU (K := K) rfl) (by rfl) n_len PySem.boot_len (pa_cons (pv 0) pa_nil)) pa_nil))) pa_nil))) pa_nil)) (pg_name (i := 1) sc_law.nd rfl (.inl rfl)) (pss_cons (ps_set (i := 2) sc_law.nd rfl (.inl rfl) (pe_caG C__law_begun gd hr (by decide) (by rfl) (pa_cons (pv 0) (pa_cons (pv 1) pa_nil))))
      (pss_cons (ps_set (i := 3) sc_law.nd rfl (.inl rfl) (pe_op op_addU pe_int (pe_caG C__law_take gd hr (by decide) (by rfl) (pa_cons (pv 2) (pa_cons (pe_ix (ix_U (K := K) rfl) (pe_lst (pa_cons pe_int (pa_cons pe_int (pa_cons pe_int (pa_cons pe_int pa_nil))))) (pe_caG C__law_take gd hr (by decide) (by rfl) (pa_cons (pv 2) (pa_cons pe_int pa_nil))) (fun _ _ => rfl)) pa_nil)))))
      (pss_cons (ps_set (i := 4) sc_law.nd rfl (.inl rfl) (pe_op op_sub (pe_caG C__law_take gd hr (by decide) (by rfl) (pa_cons (pv 2) (pa_cons (pe_op op_addU (pv 3) pe_int) pa_nil))) pe_int))
      (pss_one (ps_for PassesOwn.never rfl (pi_listK (K := K) rfl (pe_lst (pa_cons (pe_tup (pa_cons (pv 4) (pa_cons (pv 3) pa_nil))) (pa_cons (pe_tup (pa_cons (pv 3) (pa_cons (pv 4) pa_nil))) (pa_cons (pe_tup (pa_cons (pe_op op_mulW pe_int (pv 4)) (pa_cons (pe_op op_mulW pe_int (pv 3)) pa_nil))) (pa_cons (pe_tup (pa_cons pe_int (pa_cons (pe_op op_addU (pv 3) pe_int) pa_nil))) (pa_cons (pe_caG C__law_odd gd hr (by decide) (by rfl) (pa_cons (pv 2) (pa_cons (pv 4) (pa_cons (pv 3) pa_nil)))) (pa_cons (pe_lst (pa_cons (pv 4) pa_nil)) pa_nil)))))))) (pg_name (i := 5) sc_law.nd rfl (.inl rfl)) (pss_cons (ps_set (i := 6) sc_law.nd rfl (.inl rfl) (pe_callB (call_repP (K := K) rfl gd hr.units) (by rfl) n_repr (by decide +kernel) (pa_cons (pv 5) pa_nil)))
      (pss_one (ps_if (PW.pt (pw_or (pt_cmpR (op_neP (K := K) rfl hr.units) (pe_callB (call_repP (K := K) rfl gd hr.units) (by rfl) n_repr (by decide +kernel) (pa_cons (pe_caG C_is_fade gd hr (by decide) (by rfl) (pa_cons (pv 5) pa_nil)) pa_nil)) (pe_callB (call_repP (K := K) rfl gd hr.units) (by rfl) n_repr (by decide +kernel) (pa_cons (pe_caG C__law_is_fade gd hr (by decide) (by rfl) (pa_cons (pv 5) pa_nil)) pa_nil)) (nomark _)) (pw_or1 (pt_cmpR (op_neP (K := K) rfl hr.units) (pe_callB (call_repP (K := K) rfl gd hr.units) (by rfl) n_repr (by decide +kernel) (pa_cons (pv 5) pa_nil)) (pv 6) (nomark _))))) (pss_one (ps_ret pe_bl)) pss_nil)))))))))
      (pss_one (ps_ret pe_bl))), fun as Ψ Ξ h => ?_⟩
  obtain ⟨v1script, rfl, h⟩ := ar1_inv h
  exact ⟨B_law v1script, h,
  (gp_seq (gp_for (pat := (fun (_ : Unit) => [.val (mp K v1script), .un, .un, .un, .un, .un, .un])) (s0 := ()) (w_range (v_cons (p_cb cw_max2 (v_cons ep_int (v_cons (p_cb cw_min2 (v_cons ep_int (v_cons (p_cb cw_len (v_cons (ep_var rfl) v_nil)) v_nil))) v_nil))) v_nil)) tg_name (by exact ⟨.inr rfl, ⟨.inl rfl, ⟨.inl rfl, ⟨.inl rfl, ⟨.inl rfl, ⟨.inl rfl, ⟨.inl rfl, trivial⟩⟩⟩⟩⟩⟩⟩) (fun v4x v3s => ⟨rfl,
  (gp_bag (o_call ob_ar2 (fun _ => .nil) (a_cons (ep_var rfl) (a_cons (ep_var rfl) a_nil)))
  (gp_asg (p_add ep_int (p_call ob_ab1 (fun _ => .nil) (a_bag rfl (a_cons (p_op ow_ix (p_set (o_lst (v_cons ep_int (v_cons ep_int (v_cons ep_int (v_cons ep_int v_nil)))))) (p_call ob_ab1 (fun _ => .nil) (a_bag rfl (a_cons ep_int a_nil)))) a_nil)))) fun v6base =>
  (gp_asg (p_op ow_sub (p_call ob_ab1 (fun _ => .nil) (a_bag rfl (a_cons (p_add (ep_var rfl) ep_int) a_nil))) ep_int) fun v7top =>
  (g_last (fun _ => ()) (fun _ => (by exact ⟨.inr rfl, ⟨.inl rfl, ⟨.inl rfl, ⟨.inl rfl, ⟨.inl rfl, ⟨.inl rfl, ⟨.inl rfl, trivial⟩⟩⟩⟩⟩⟩⟩)) (gp_for (pat := (fun (_ : Unit) => [.val (mp K v1script), .val (mp K v4x), .bag, .val (mp K v6base), .val (mp K v7top), .un, .un])) (s0 := ()) (w_list (p_set (o_lst (v_cons (p_tup (v_cons (ep_var rfl) (v_cons (ep_var rfl) v_nil))) (v_cons (p_tup (v_cons (ep_var rfl) (v_cons (ep_var rfl) v_nil))) (v_cons (p_tup (v_cons (p_op ow_mul ep_int (ep_var rfl)) (v_cons (p_op ow_mul ep_int (ep_var rfl)) v_nil))) (v_cons (p_tup (v_cons ep_int (v_cons (p_add (ep_var rfl) ep_int) v_nil))) (v_cons (p_call ob_ab2 (fun _ => .nil) (a_bag rfl (a_cons (ep_var rfl) (a_cons (ep_var rfl) a_nil)))) (v_cons (p_set (o_lst (v_cons (ep_var rfl) v_nil))) v_nil))))))))) tg_name (by exact ⟨.inr rfl, ⟨.inr rfl, ⟨.inr rfl, ⟨.inr rfl, ⟨.inr rfl, ⟨.inl rfl, ⟨.inl rfl, trivial⟩⟩⟩⟩⟩⟩⟩) (fun v10x v9s => ⟨rfl,
  (gp_asg (p_cb cw_rep (v_cons (ep_var rfl) v_nil)) fun v11kept =>
  (g_last (fun _ => ()) (fun _ => (by exact ⟨.inr rfl, ⟨.inr rfl, ⟨.inr rfl, ⟨.inr rfl, ⟨.inr rfl, ⟨.inl rfl, ⟨.inl rfl, trivial⟩⟩⟩⟩⟩⟩⟩)) (gp_if (pat := (fun (_ : Unit) => [.val (mp K v1script), .val (mp K v4x), .bag, .val (mp K v6base), .val (mp K v7top), .val (mp K v10x), .val (mp K v11kept)])) (t_orT (t_tst (p_op ow_ne (p_cb cw_rep (v_cons (p_call ob_ar1 (fun _ => .nil) (a_cons (ep_var rfl) a_nil)) v_nil)) (p_cb cw_rep (v_cons (p_call ob_ar1 (fun _ => .nil) (a_cons (ep_var rfl) a_nil)) v_nil)))) (t_tst (p_op ow_ne (p_cb cw_rep (v_cons (ep_var rfl) v_nil)) (ep_var rfl)))) (gp_ret ep_bl) (gp_less (by exact ⟨.inr rfl, ⟨.inr rfl, ⟨.inr rfl, ⟨.inr rfl, ⟨.inr rfl, ⟨.inr rfl, ⟨.inr rfl, trivial⟩⟩⟩⟩⟩⟩⟩) (gp_next (s := ()) rfl)))))⟩))))))⟩)) fun _ =>
  (gp_ret ep_bl))⟩
end A25

namespace NT
open PySem PL
/-! ### whole numbers, divisors, fractions: what the functions tell -/
def isI : PV → Bool
  | .int _ => true
  | _ => false
theorem whole_eq (a : PV) (h : tyN a ≠ none) : F_is_whole a = ret (.v (.bl (isI a))) := by
  unfold F_is_whole B_is_whole
  simp only [r_op1, isi_int a h, isi_bool a h, r_lift, r_notV]
  cases a <;> simp [isI]
theorem gcd_loop (n : Nat) : ∀ a b : Int, b.natAbs = n → ∃ g : Int, g.natAbs = Int.gcd a b ∧ W_greatest_divisor_1 (.int a, .int b) = ret (.nx (.int g, .int 0)) := by
  induction n using Nat.strongRecOn with
  | _ n ih =>
    intro a b hb
    unfold W_greatest_divisor_1
    by_cases c : b = 0
    · subst c
      exact ⟨a, by simp, while_no (by simp)⟩
    · obtain ⟨h1, h2⟩ := NF.gcd_step (a := a) (b := b) c
      obtain ⟨g, hg, e⟩ := ih _ (by omega) b (a.fmod b) rfl
      refine ⟨g, by rw [hg, h1], ?_⟩
      rw [while_go (s' := (.int b, .int (a.fmod b))) (by simp [c]) (by simp [r_modI c, two])]
      exact e
theorem gcd_eq (a b : Int) : F_greatest_divisor (.int a) (.int b) = ret (.v (.int (Int.gcd a b))) := by
  obtain ⟨g, hg, e⟩ := gcd_loop _ a b rfl
  unfold F_greatest_divisor B_greatest_divisor
  rw [e]
  simp only [r_bindF_nx, r_vnil, r_vcons, r_cb, r_absI, r_lift, r_bind, r_runF_rt]
  congr 3
  split <;> omega
/-- whether it is a fraction -/
def isFr : PV → Bool
  | .tup [.int a, .int b] => decide (1 ≤ b) && decide (Int.gcd a b = 1)
  | _ => false
theorem fr_eq (a : PV) (h : tyN a ≠ none) (h2 : ∀ as, a = .tup as → ∀ x ∈ as, tyN x ≠ none) : F_is_fraction a = ret (.v (.bl (isFr a))) := by
  unfold F_is_fraction B_is_fraction
  simp only [r_op1, isi_tuple a h, r_lift, r_tst, r_notT]
  cases a with
  | tup as =>
    have h3 := h2 as rfl
    simp only [r_vnil, r_vcons, r_cb, r_lenT, r_lift, r_op2, r_neI, r_tst, Bool.not_true, r_orT0, r_bind]
    match as, h3 with
    | [], _ => simp [isFr]
    | [x], _ => simp [isFr]
    | [x, y], h3 =>
      have hx := whole_eq x (h3 x (by simp))
      have hy := whole_eq y (h3 y (by simp))
      simp [tupF2, hx, hy]
      cases x <;> simp [isI, isFr]
      cases y <;> simp [isI, isFr]
      rename_i m n
      by_cases c : n < 1
      · have : ¬ 1 ≤ n := by omega
        simp [c, this]
      · have : 1 ≤ n := by omega
        simp [c, this, gcd_eq]
        congr 3
        exact decide_eq_decide.mpr (by omega)
    | x :: y :: z :: l, _ =>
      have : ¬ ((l.length : Int) + 1 + 1 + 1 = 2) := by omega
      simp [this, isFr]
  | non => simp [isFr]
  | bl b => simp [isFr]
  | int i => simp [isFr]
  | str z => simp [isFr]
  | lst as => simp [isFr]
  | dic0 => simp [isFr]
  | ins c ns as => exact absurd rfl h
  | scr ns => exact absurd rfl h
end NT

namespace PL
open PySem PySem.Spec PyProof.Rows L2 Evl NF WL
section
variable {α β S T : Type}
theorem use_bindF {m : W (Fl S)} {k : S → W (Fl T)} {Ψ : Fl T → Prop} {Ξ : XV → Prop} (h : m (fun fl => match fl with | .nx s => k s Ψ Ξ | .rt r => Ψ (.rt r)) Ξ) : bindF m k Ψ Ξ := by
  show m (fun fl => (match fl with | .nx s => k s | .rt r => ret (.rt r) : W (Fl T)) Ψ Ξ) Ξ
  have e : (fun fl : Fl S => (match fl with | .nx s => k s | .rt r => ret (.rt r) : W (Fl T)) Ψ Ξ) = fun fl => match fl with | .nx s => k s Ψ Ξ | .rt r => Ψ (.rt r) := by
    funext fl
    cases fl <;> rfl
  rw [e]
  exact h
theorem use_runF {m : W (Fl Unit)} {Ψ : RV → Prop} {Ξ : XV → Prop} (h : m (fun fl => match fl with | .nx _ => Ψ (.v .non) | .rt r => Ψ r) Ξ) : runF m Ψ Ξ := by
  show m (fun fl => (match fl with | .nx _ => ret (.v .non) | .rt r => ret r : W RV) Ψ Ξ) Ξ
  have e : (fun fl : Fl Unit => (match fl with | .nx _ => ret (.v .non) | .rt r => ret r : W RV) Ψ Ξ) = fun fl => match fl with | .nx _ => Ψ (.v .non) | .rt r => Ψ r := by
    funext fl
    cases fl <;> rfl
  rw [e]
  exact h
theorem use_take {n : Int} {κ : RV → W β} {Ψ : β → Prop} {Ξ : XV → Prop} (h0 : 0 < n) (h8 : n < 2 ^ 8000) (h : ∀ d : Int, 0 ≤ d → d < n → κ (.v (.int d)) Ψ Ξ) : bind (noX (takeW (.int n))) κ Ψ Ξ := ⟨n, rfl, h0, by omega, h⟩
theorem use_begun {ns : List Int} {j : Nat} {κ : RV → W β} {Ψ : β → Prop} {Ξ : XV → Prop} (h0 : ns.length ≤ 1000) (h8 : j ≤ 1000) (h : ∀ (a b : Int) (c : Bool), κ (.o [.int a, .int b, .bl c]) Ψ Ξ) : bind (noX (begunW (.scr ns) (.int (j : Int)))) κ Ψ Ξ := ⟨ns, j, rfl, rfl, h0, h8, h⟩
@[simp] theorem r_isBag (a b : Int) (c : Bool) : isBag [.int a, .int b, .bl c] = some () := rfl
/-- the turns of a law -/
theorem law_for {F : PV → Unit → W (Fl Unit)} {n : Int} {Φ : Fl Unit → Prop} {Ξ : XV → Prop} (h0 : -(2 ^ 60) < n) (h1 : n ≤ 1000) (h : ∀ (j : Nat) Φ', j ≤ 1000 → Φ' (.nx ()) → F (.int (j : Int)) () Φ' Ξ) (k : Φ (.nx ())) : (bind (itR (ret [.int n])) fun as => forW some F as ()) Φ Ξ := by
  rw [r_itR n h0 (by omega), r_bind]
  refine for_inv (fun _ => True) _ _ trivial (fun a ha s Φ' _ q => ?_) fun _ _ => k
  obtain ⟨j, hj, rfl⟩ := List.mem_map.mp ha
  rw [List.mem_range] at hj
  rw [r_lift, r_bind]
  exact h j Φ' (by omega) (q () trivial)
end
theorem mul_small {a b : Int} (ha : a.natAbs < 2 ^ 4000) (hb : b.natAbs < 2 ^ 4000) : mulF (.int a) (.int b) = some (.int (a * b)) := r_mulI (by
  have h1 := PySem.Flt.log2_lt_of (by decide : 0 < 4000) ha
  have h2 := PySem.Flt.log2_lt_of (by decide : 0 < 4000) hb
  omega)
theorem lt_great {i : Int} (h : i < 2 ^ 64) : i < 2 ^ 8000 := Int.lt_trans h (by decide +kernel)
theorem abs_great {i : Int} (h : i.natAbs < 2 ^ 64) : i.natAbs < 2 ^ 4000 := Nat.lt_trans h (by decide +kernel)
/-! what is fine to show: data that is not great -/
def Tame (a : PV) (W k : Nat) : Prop := ∃ d, toD a = some d ∧ d.showable = true ∧ d.leavesShort 2000 = true ∧ d.weight ≤ W ∧ d.depth ≤ k ∧ d.hasDict = false
theorem Tame.mono {a : PV} {W W2 k k2 : Nat} (h : Tame a W k) (h1 : W ≤ W2) (h2 : k ≤ k2) : Tame a W2 k2 := by
  obtain ⟨d, a1, a2, a3, a4, a5, a6⟩ := h
  exact ⟨d, a1, a2, a3, by omega, by omega, a6⟩
theorem tame_int {i : Int} {B : Nat} (h : i.natAbs < 2 ^ B) (h0 : 0 < B) (hB : B ≤ 1900) : Tame (.int i) B 0 := ⟨.int i, rfl, (fineI (bits_up h hB)).1, (fineI (bits_up h hB)).2.2.1, weightI h h0, Nat.le_refl 0, rfl⟩
theorem tame_bl (b : Bool) : Tame (.bl b) 0 0 := ⟨.bool b, rfl, rfl, rfl, Nat.le_refl 0, Nat.le_refl 0, rfl⟩
theorem tame_non : Tame .non 0 0 := ⟨.none, rfl, rfl, rfl, Nat.le_refl 0, Nat.le_refl 0, rfl⟩
theorem tames {W k : Nat} : ∀ {as : List PV}, (∀ a ∈ as, Tame a W k) → ∃ ds, toDs as = some ds ∧ PyData.showableAll ds = true ∧ PyData.leavesShortAll 2000 ds = true ∧ PyData.weightAll ds ≤ (W + 1) * as.length ∧ PyData.depthAll ds ≤ k ∧ PyData.hasDictAll ds = false
  | [], _ => ⟨[], rfl, rfl, rfl, Nat.zero_le _, Nat.zero_le _, rfl⟩
  | a :: as, h => by
    obtain ⟨d, a1, a2, a3, a4, a5, a6⟩ := h a (List.mem_cons_self ..)
    obtain ⟨ds, b1, b2, b3, b4, b5, b6⟩ := tames (as := as) fun x hx => h x (List.mem_cons_of_mem _ hx)
    refine ⟨d :: ds, by simp only [toDs, a1, b1], by simp only [PyData.showableAll, a2, b2]; rfl, by simp only [PyData.leavesShortAll, a3, b3]; rfl, ?_, ?_, by simp only [PyData.hasDictAll, a6, b6]; rfl⟩
    · simp only [PyData.weightAll, List.length_cons]
      rw [Nat.mul_add, Nat.mul_one]
      omega
    · simp only [PyData.depthAll]
      omega
theorem tame_lst {as : List PV} {W k : Nat} (h : ∀ a ∈ as, Tame a W k) : Tame (.lst as) ((W + 1) * as.length) (k + 1) := by
  obtain ⟨ds, b1, b2, b3, b4, b5, b6⟩ := tames h
  exact ⟨.list ds, by simp only [toD, b1], b2, b3, b4, by simp only [PyData.depth]; omega, b6⟩
theorem tame_tup {as : List PV} {W k : Nat} (h : ∀ a ∈ as, Tame a W k) : Tame (.tup as) ((W + 1) * as.length) (k + 1) := by
  obtain ⟨ds, b1, b2, b3, b4, b5, b6⟩ := tames h
  exact ⟨.tuple ds, by simp only [toD, b1], b2, b3, b4, by simp only [PyData.depth]; omega, b6⟩
theorem Tame.rep {a : PV} {W k : Nat} (h : Tame a W k) (hW : W ≤ 4000) (hk : k ≤ 20) : ∃ z, repF [a] = some (.str z) := by
  obtain ⟨d, a1, a2, a3, a4, a5, a6⟩ := h
  refine ⟨d.shown, ?_⟩
  show (match toD a with | some d => if FineP a d then some (PV.str d.shown) else none | none => none) = _
  rw [a1]
  have hf : FineP a d := by
    refine ⟨a2, .inl a6, by omega, ?_⟩
    have h5 := PyData.shown_le 2000 (by decide) d a3
    have h6 : (2000 + 2) * d.weight ≤ 2002 * 4000 := Nat.mul_le_mul_left _ (by omega)
    have h7 : 2002 * 4000 + 2000 ≤ sizeLine := by decide
    omega
  simp only
  rw [if_pos hf]
theorem toD_ty {a : PV} {d : PyData} (h : toD a = some d) : tyN a ≠ none := by
  cases a with
  | ins c ns as => simp [toD] at h
  | scr ns => simp [toD] at h
  | _ => simp [tyN]
theorem toDs_ty : ∀ {as : List PV} {ds : List PyData}, toDs as = some ds → ∀ x ∈ as, tyN x ≠ none
  | [], _, _, x, hx => by cases hx
  | a :: as, ds, h, x, hx => by
    obtain ⟨d', es, _, e1, e2⟩ := toDs_cons h
    rcases List.mem_cons.mp hx with rfl | hx
    · exact toD_ty e1
    · exact toDs_ty e2 x hx
theorem Tame.ty {a : PV} {W k : Nat} (h : Tame a W k) : tyN a ≠ none := toD_ty h.choose_spec.1
theorem Tame.tys {as : List PV} {W k : Nat} (h : Tame (.tup as) W k) : ∀ x ∈ as, tyN x ≠ none := by
  obtain ⟨d, a1, _⟩ := h
  obtain ⟨ds, _, h1⟩ := toD_tup a1
  exact toDs_ty h1
theorem rep_dic : ∃ z, repF [.dic0] = some (.str z) := ⟨(PyData.dict []).shown, by
  show (match toD .dic0 with | some d => if FineP .dic0 d then some (PV.str d.shown) else none | none => none) = _
  simp only [toD]
  rw [if_pos ⟨by decide +kernel, .inr rfl, by decide +kernel, by decide +kernel⟩]⟩
end PL

namespace A25
open PySem PL NT
/-- whether it is a fade -/
def isFa : PV → Bool
  | .tup [.int a, .int b] => decide (0 < a) && decide (a < b) && decide (b < 1000) && decide (Int.gcd a b = 1)
  | _ => false
def okT (a : PV) : Prop := tyN a ≠ none ∧ ∀ as, a = .tup as → ∀ x ∈ as, tyN x ≠ none
theorem fade_eq (a : PV) (h : okT a) : NT.F_is_fade a = ret (.v (.bl (isFa a))) := by
  unfold NT.F_is_fade NT.B_is_fade
  simp only [r_acons, r_anil, r_callW, r_dAr0, List.append_nil, r_ar1, fr_eq a h.1 h.2, r_noX, r_bind, r_pv_v]
  cases a with
  | tup as =>
    match as with
    | [] => simp [isFr, isFa]
    | [x] => simp [isFr, isFa]
    | [x, y] =>
      cases x <;> (try simp [isFr, isFa]; done)
      cases y <;> (try simp [isFr, isFa]; done)
      rename_i m n
      simp only [isFr, isFa]
      by_cases c1 : 1 ≤ n
      · by_cases c2 : Int.gcd m n = 1
        · by_cases c3 : 0 < m
          · by_cases c4 : m < n
            · have e : decide (n ≤ 999) = decide (n < 1000) := decide_eq_decide.mpr (by omega)
              simp [c1, c2, c3, c4, e]
            · simp [c1, c2, c3, c4]
          · simp [c1, c2, c3]
        · simp [c1, c2]
      · have : ¬ (0 < m ∧ m < n) := by omega
        by_cases c3 : 0 < m
        · have c4 : ¬ m < n := by omega
          simp [c1, c3, c4]
        · simp [c1, c3]
    | x :: y :: z :: l => simp [isFr, isFa]
  | _ => simp [isFr, isFa]
theorem lwhole_eq (a : PV) (h : tyN a ≠ none) : F__law_whole a = ret (.v (.bl (isI a))) := by
  unfold F__law_whole B__law_whole
  simp only [r_op1, isi_int a h, isi_bool a h, r_lift, r_notV]
  cases a <;> simp [isI]
theorem lgcd_loop (n : Nat) : ∀ a b : Int, 0 ≤ a → 0 ≤ b → b.natAbs = n → W__law_is_fade_1 (.int a, .int b) = ret (.nx (.int (Int.gcd a b), .int 0)) := by
  induction n using Nat.strongRecOn with
  | _ n ih =>
    intro a b ha hb hn
    unfold W__law_is_fade_1
    by_cases c : b = 0
    · subst c
      rw [while_no (by simp)]
      congr 3
      simp
      omega
    · obtain ⟨h1, h2⟩ := NF.gcd_step (a := a) (b := b) c
      have e := ih _ (by omega) b (a.fmod b) hb (Int.fmod_nonneg_of_pos a (by omega)) rfl
      have p : 0 < b := by omega
      rw [while_go (s' := (.int b, .int (a.fmod b))) (by simp [p]) (by simp [r_modI c, two]), ← h1]
      exact e
theorem lfade_eq (a : PV) (h : okT a) : F__law_is_fade a = ret (.v (.bl (isFa a))) := by
  unfold F__law_is_fade B__law_is_fade
  simp only [r_op1, isi_tuple a h.1, r_lift, r_tst, r_notT]
  cases a with
  | tup as =>
    have h3 := h.2 as rfl
    match as, h3 with
    | [], _ => simp [isFa]
    | [x], _ => simp [isFa]
    | [x, y], h3 =>
      have hx := lwhole_eq x (h3 x (by simp))
      have hy := lwhole_eq y (h3 y (by simp))
      simp [tupF2, hx, hy]
      cases x <;> simp [isI, isFa]
      cases y <;> simp [isI, isFa]
      rename_i m n
      by_cases c3 : 0 < m
      · by_cases c4 : m < n
        · by_cases c5 : n < 1000
          · simp [c3, c4, c5, lgcd_loop _ m n (by omega) (by omega) rfl]
            congr 3
            exact decide_eq_decide.mpr (by omega)
          · simp [c3, c4, c5]
        · simp [c3, c4]
      · simp [c3]
    | x :: y :: z :: l, _ =>
      have : ¬ ((l.length : Int) + 1 + 1 + 1 = 2) := by omega
      simp [this, isFa]
  | non => simp [isFa]
  | bl b => simp [isFa]
  | int i => simp [isFa]
  | str z => simp [isFa]
  | lst as => simp [isFa]
  | dic0 => simp [isFa]
  | ins c ns as => exact absurd rfl h.1
  | scr ns => exact absurd rfl h.1
/-- what the law asks of a thing -/
def Th (x : PV) : Prop := x = .dic0 ∨ ∃ W k, Tame x W k ∧ W ≤ 4000 ∧ k ≤ 20
theorem Th.ok {x : PV} (h : Th x) : okT x := by
  rcases h with rfl | ⟨W, k, h, _⟩
  · exact ⟨by simp [tyN], fun as e => by cases e⟩
  · exact ⟨h.ty, fun as e => by subst e; exact h.tys⟩
theorem Th.rep {x : PV} (h : Th x) : ∃ z, repF [x] = some (.str z) := by
  rcases h with rfl | ⟨W, k, h, hW, hk⟩
  · exact rep_dic
  · exact h.rep hW hk
theorem L1 {x : PV} (h : Th x) : L_law_1 x () = ret (.nx ()) := by
  unfold L_law_1
  obtain ⟨z, hz⟩ := h.rep
  obtain ⟨y, hy⟩ := (tame_bl (isFa x)).rep (by decide) (by decide)
  simp [hz, hy, fade_eq x h.ok, lfade_eq x h.ok]
theorem sm {i : Int} (h : -100000 < i) (h2 : i < 100000) : Tame (.int i) 60 0 := tame_int (B := 60) (by omega) (by decide) (by decide)
theorem th2 {a b : PV} (ha : Tame a 60 0) (hb : Tame b 60 0) : Th (.tup [a, b]) := .inr ⟨_, _, tame_tup (W := 60) (k := 0) (by simp [ha, hb]), by simp, by decide⟩
theorem th1 {a : PV} (ha : Tame a 60 0) : Th (.tup [a]) := .inr ⟨_, _, tame_tup (W := 60) (k := 0) (by simp [ha]), by simp, by decide⟩
theorem th3 {a b c : PV} (ha : Tame a 60 0) (hb : Tame b 60 0) (hc : Tame c 60 0) : Th (.tup [a, b, c]) := .inr ⟨_, _, tame_tup (W := 60) (k := 0) (by simp [ha, hb, hc]), by simp, by decide⟩
theorem th0 {a : PV} (ha : Tame a 60 0) : Th a := .inr ⟨_, _, ha, by simp, by decide⟩
theorem tl1 {a : PV} (ha : Tame a 60 0) : Th (.lst [a]) := .inr ⟨_, _, tame_lst (W := 60) (k := 0) (by simp [ha]), by simp, by decide⟩
theorem tl2 {a b : PV} (ha : Tame a 60 0) (hb : Tame b 60 0) : Th (.lst [a, b]) := .inr ⟨_, _, tame_lst (W := 60) (k := 0) (by simp [ha, hb]), by simp, by decide⟩
theorem ts {z : Str} (h : (PyData.str z).leavesShort 2000 = true) (h2 : z.cps.size ≤ 60) : Tame (.str z) 60 0 := ⟨.str z, rfl, rfl, h, h2, Nat.le_refl 0, rfl⟩
theorem tb (b : Bool) : Tame (.bl b) 60 0 := (tame_bl b).mono (by decide) (by decide)
theorem tn : Tame .non 60 0 := tame_non.mono (by decide) (by decide)
theorem odd_th {β : Type} {top base : Int} (h1 : -100000 < top) (h2 : top < 100000) (h3 : -100000 < base) (h4 : base < 100000) {κ : RV → W β} {Ψ : β → Prop} {Ξ : XV → Prop} (h : ∀ x, Th x → κ (.v x) Ψ Ξ) : bind (noX (F__law_odd (.int top) (.int base))) κ Ψ Ξ := by
  have et := sm h1 h2
  have eb := sm h3 h4
  have e1 : ∀ {i : Int}, -100000 < i → i < 100000 → Tame (.int i) 60 0 := fun a b => sm a b
  unfold F__law_odd B__law_odd
  simp [addF]
  refine use_take (n := 20) (by decide) (by decide +kernel) fun d d0 d20 => ?_
  obtain ⟨n, rfl⟩ := Int.eq_ofNat_of_zero_le d0
  have hn : n < 20 := by omega
  have s1 : Tame (.str (Str.ofString "1")) 60 0 := ts (by decide +kernel) (by decide +kernel)
  have s2 : Tame (.str (Str.ofString "1/2")) 60 0 := ts (by decide +kernel) (by decide +kernel)
  have fin : ∀ {as : List PV} {x : PV}, as[n]? = some x → Th x → bind (lift (ixF (.lst as) (.int (n : Int)))) (fun a => κ (.v a)) Ψ Ξ := fun hx hT => by
    rw [r_ixL hx, r_lift, r_bind]
    exact h _ hT
  simp only [r_pv_v]
  match n, hn with
  | 0, _ => exact fin rfl (th0 tn)
  | 1, _ => exact fin rfl (tl2 et eb)
  | 2, _ => exact fin rfl (th1 et)
  | 3, _ => exact fin rfl (th3 et eb (e1 (by decide) (by decide)))
  | 4, _ => exact fin rfl (th2 (tb _) (e1 (by decide) (by decide)))
  | 5, _ => exact fin rfl (th2 (e1 (by decide) (by decide)) (tb _))
  | 6, _ => exact fin rfl (th2 (e1 (by decide) (by decide)) tn)
  | 7, _ => exact fin rfl (th2 s1 (e1 (by decide) (by decide)))
  | 8, _ => exact fin rfl (th0 (e1 (by decide) (by decide)))
  | 9, _ => exact fin rfl (th0 s2)
  | 10, _ => exact fin rfl (.inl rfl)
  | 11, _ => exact fin rfl (.inr ⟨_, _, tame_tup (W := 0) (k := 0) (by simp), by decide, by decide⟩)
  | 12, _ => exact fin rfl (th2 (e1 (by decide) (by decide)) (e1 (by decide) (by decide)))
  | 13, _ => exact fin rfl (th2 (e1 (by decide) (by decide)) (e1 (by decide) (by decide)))
  | 14, _ => exact fin rfl (th2 (e1 (by decide) (by decide)) (e1 (by decide) (by decide)))
  | 15, _ => exact fin rfl (th2 (e1 (by decide) (by decide)) (e1 (by decide) (by decide)))
  | 16, _ => exact fin rfl (th2 (e1 (by decide) (by decide)) (e1 (by decide) (by decide)))
  | 17, _ => exact fin rfl (th2 (e1 (by decide) (by decide)) (e1 (by decide) (by decide)))
  | 18, _ => exact fin rfl (th2 (e1 (by decide) (by decide)) (e1 (by decide) (by decide)))
  | 19, _ => exact fin rfl (th2 (e1 (by decide) (by decide)) (e1 (by decide) (by decide)))
  | n + 20, hn => omega
theorem pick4 {d : Int} (d0 : 0 ≤ d) (d4 : d < 4) : ∃ mo : Int, ixF (.lst [.int 2, .int 12, .int 999, .int 9999]) (.int d) = some (.int mo) ∧ 0 < mo ∧ mo < 10000 := by
  have : d = 0 ∨ d = 1 ∨ d = 2 ∨ d = 3 := by omega
  rcases this with rfl | rfl | rfl | rfl
  · exact ⟨2, rfl, by decide, by decide⟩
  · exact ⟨12, rfl, by decide, by decide⟩
  · exact ⟨999, rfl, by decide, by decide⟩
  · exact ⟨9999, rfl, by decide, by decide⟩
theorem six {e f : Int} (h1 : -40000 < f - 1) (h2 : f - 1 < 50000) (h3 : 0 ≤ e) (h4 : e < 20000) {x : PV} (hx : Th x) {Φ' : Fl Unit → Prop} {Ξ : XV → Prop} (q : Φ' (.nx ())) : forW some L_law_1 [.tup [.int (f - 1), .int (1 + e)], .tup [.int (1 + e), .int (f - 1)], .tup [.int (2 * (f - 1)), .int (2 * (1 + e))], .tup [.int 1, .int (1 + e + 1)], x, .lst [.int (f - 1)]] () Φ' Ξ := by
  refine for_inv (fun _ => True) _ _ trivial (fun a ha s Φ2 _ k => ?_) fun s _ => q
  rw [r_lift, r_bind]
  have hT : Th a := by
    simp only [List.mem_cons, List.not_mem_nil, or_false] at ha
    rcases ha with rfl | rfl | rfl | rfl | rfl | rfl
    · exact th2 (sm (by omega) (by omega)) (sm (by omega) (by omega))
    · exact th2 (sm (by omega) (by omega)) (sm (by omega) (by omega))
    · exact th2 (sm (by omega) (by omega)) (sm (by omega) (by omega))
    · exact th2 (sm (by omega) (by omega)) (sm (by omega) (by omega))
    · exact hx
    · exact tl1 (sm (by omega) (by omega))
  have e : s = () := rfl
  rw [e, L1 hT]
  exact k () trivial
theorem turn (ns : List Int) (hl : ns.length ≤ 63) (j : Nat) (hj : j ≤ 1000) {Φ' : Fl Unit → Prop} {Ξ : XV → Prop} (q : Φ' (.nx ())) : L_law_2 (.scr ns) (.int (j : Int)) () Φ' Ξ := by
  unfold L_law_2
  simp
  refine use_begun (by omega) hj fun a b c => ?_
  simp
  refine use_take (n := 4) (by decide) (lt_great (by decide)) fun d d0 d4 => ?_
  obtain ⟨mo, hmo, m0, m1⟩ := pick4 d0 d4
  simp [hmo]
  refine use_take (n := mo) m0 (lt_great (by omega)) fun e e0 e1 => ?_
  simp
  refine use_take (n := 1 + e + 3) (by omega) (lt_great (by omega)) fun f f0 f1 => ?_
  simp
  have hm1 : mulF (.int 2) (.int (f - 1)) = some (.int (2 * (f - 1))) := mul_small (abs_great (by decide)) (abs_great (by omega))
  have hm2 : mulF (.int 2) (.int (1 + e)) = some (.int (2 * (1 + e))) := mul_small (abs_great (by decide)) (abs_great (by omega))
  simp only [hm1, hm2, r_lift, r_vcons, r_tup, r_bind]
  simp [-r_for1]
  refine odd_th (by omega) (by omega) (by omega) (by omega) fun x hx => ?_
  simp [-r_for1]
  refine use_bindF (six (by omega) (by omega) (by omega) (by omega) hx ?_)
  exact q
theorem law_true (ns : List Int) (hl : ns.length ≤ 63) : F_law (.scr ns) (fun r => r = .v (.bl true)) fun _ => False := by
  unfold F_law B_law
  refine use_runF (use_bindF ?_)
  simp only [r_vnil, r_vcons, r_cb, r_lenS, r_lift, r_min2, r_max2]
  exact law_for (by split <;> (try split) <;> omega) (by split <;> (try split) <;> omega) (fun j Φ' hj q => turn ns hl j hj q) rfl
end A25

namespace PL
open PySem PySem.Spec PyProof.Rows L2 Evl NF WL
/-! ### the law's end -/
def spEnd (K : PySem.W.Frag) : Sp := fun vs H Q _ => ∃ (a : Addr) (ns : List Int), vs = [.ref a] ∧ SqL K H a (ns.map V.int) ∧ ns.length ≤ 63 ∧ ∀ H', Q (.bl true) H'
section
variable {P : Program} {w : World} {K : PySem.W.Frag} {mg : Str → Option Value} {base : Heap} {k : Nat} {f : Addr} {fd : FuncData} {ps : List Str}
theorem ad_end {F : PV → W RV} (hF : ∀ ns : List Int, ns.length ≤ 63 → F (.scr ns) (fun r => r = .v (.bl true)) fun _ => False) (Fn : FnG P w K mg base CX0 k f fd ps (spW K (ar1 F))) : FnG P w K mg base CX0 k f fd ps (spEnd K) := by
  have core : ∀ vs H Q E, spEnd K vs H Q E → spW K (ar1 F) vs H Q E := by
    rintro vs H Q E ⟨a, ns, rfl, hs, hl, q⟩
    refine ⟨⟨H, H⟩, [.v (.scr ns)], fun r => r = .v (.bl true), fun _ => False, rfl, Ex.refl _, .cons ⟨a, rfl, hs⟩ .nil, rfl, hF ns hl, fun r v W2 _ _ _ rr z => ?_, fun _ _ _ _ _ _ _ _ z => z.elim⟩
    subst z
    cases rr
    exact q _
  exact ⟨fun vs H Q E h => Fn.many vs H Q E (core vs H Q E h), fun A out s H args us vs Q E g hr he hb hv hs => Fn.goes A out s H args us vs Q E g hr he hb hv (core vs H Q E hs)⟩
end
theorem tup2_k {K : PySem.W.Frag} {A : Addr} {od : Option Addr} {sl : Array (Option Value)} {n : Nat} {i j : Int} {ta tb : Tok} (h : K.lookup A = some ⟨.type "tuple", od, .seq #[.int i ta, .int j tb] n, sl⟩) : ∀ H, (mp K (.tup [.int i, .int j])).p H (.ref A) := fun H => ⟨A, [.int i, .int j], rfl, .inr ⟨_, _, _, h, rfl, rfl, by show 2 ≤ sizeLine; decide, .cons ⟨_, rfl⟩ (.cons ⟨_, rfl⟩ .nil)⟩, .cons rfl (.cons rfl .nil)⟩
theorem tup2_k' {K : PySem.W.Frag} {A : Addr} {od : Option Addr} {sl : Array (Option Value)} {n : Nat} {i j : Int} {ta tb : Tok} (h : K.lookup A = some ⟨.type "tuple", od, .seq #[.int i ta, .int j tb] n, sl⟩) : ∀ H, SqT K H A [.int i, .int j] := fun H => .inr ⟨_, _, _, h, rfl, rfl, by show 2 ≤ sizeLine; decide, .cons ⟨_, rfl⟩ (.cons ⟨_, rfl⟩ .nil)⟩
end PL

namespace A25
open PySem PySem.Spec PyProof.Rows L2 Evl NF WL PL
theorem all_mk {l : PySem.W.OpenLaw} {w : World} {K : PySem.W.Frag} {h : Heap} {mg : Str → Option Value} {fa : Addr} (X : K.In h) (G : h.Ns mainGlobals mg) (hfa : mg "law" = some (.ref fa))
    {f_is_whole : Addr} {od0 an0 : Option Addr} {sl0 : Array (Option Value)} {oc0 kV0 dc0 pm0 cd0 ct0 : Value}
    (a_is_whole : PySem.W.nsIn K mainGlobals "is_whole" = some (some (.ref f_is_whole))) (l_is_whole : K.lookup f_is_whole = some ⟨oc0, od0, .func (PySem.W.fnOf "is_whole" "is_whole" (defArgs s_is_whole) (defBody s_is_whole) (defScope s_is_whole) .none kV0 dc0 pm0 an0 cd0 ct0), sl0⟩) (d_is_whole : PySem.W.codeIn K cd0 "is_whole" = true) (k_is_whole : PySem.W.keepIn K (.ref f_is_whole) = true)
    {f_greatest_divisor : Addr} {od1 an1 : Option Addr} {sl1 : Array (Option Value)} {oc1 kV1 dc1 pm1 cd1 ct1 : Value}
    (a_greatest_divisor : PySem.W.nsIn K mainGlobals "greatest_divisor" = some (some (.ref f_greatest_divisor))) (l_greatest_divisor : K.lookup f_greatest_divisor = some ⟨oc1, od1, .func (PySem.W.fnOf "greatest_divisor" "greatest_divisor" (defArgs s_greatest_divisor) (defBody s_greatest_divisor) (defScope s_greatest_divisor) .none kV1 dc1 pm1 an1 cd1 ct1), sl1⟩) (d_greatest_divisor : PySem.W.codeIn K cd1 "greatest_divisor" = true) (k_greatest_divisor : PySem.W.keepIn K (.ref f_greatest_divisor) = true)
    {f_is_fraction : Addr} {od2 an2 : Option Addr} {sl2 : Array (Option Value)} {oc2 kV2 dc2 pm2 cd2 ct2 : Value}
    (a_is_fraction : PySem.W.nsIn K mainGlobals "is_fraction" = some (some (.ref f_is_fraction))) (l_is_fraction : K.lookup f_is_fraction = some ⟨oc2, od2, .func (PySem.W.fnOf "is_fraction" "is_fraction" (defArgs s_is_fraction) (defBody s_is_fraction) (defScope s_is_fraction) .none kV2 dc2 pm2 an2 cd2 ct2), sl2⟩) (d_is_fraction : PySem.W.codeIn K cd2 "is_fraction" = true) (k_is_fraction : PySem.W.keepIn K (.ref f_is_fraction) = true)
    {f_is_fade : Addr} {od3 an3 : Option Addr} {sl3 : Array (Option Value)} {oc3 kV3 dc3 pm3 cd3 ct3 : Value}
    (a_is_fade : PySem.W.nsIn K mainGlobals "is_fade" = some (some (.ref f_is_fade))) (l_is_fade : K.lookup f_is_fade = some ⟨oc3, od3, .func (PySem.W.fnOf "is_fade" "is_fade" (defArgs s_is_fade) (defBody s_is_fade) (defScope s_is_fade) .none kV3 dc3 pm3 an3 cd3 ct3), sl3⟩) (d_is_fade : PySem.W.codeIn K cd3 "is_fade" = true) (k_is_fade : PySem.W.keepIn K (.ref f_is_fade) = true)
    {f__law_begun : Addr} {od4 an4 : Option Addr} {sl4 : Array (Option Value)} {oc4 kV4 dc4 pm4 cd4 ct4 : Value}
    (a__law_begun : PySem.W.nsIn K mainGlobals "_law_begun" = some (some (.ref f__law_begun))) (l__law_begun : K.lookup f__law_begun = some ⟨oc4, od4, .func (PySem.W.fnOf "_law_begun" "_law_begun" (defArgs s__law_begun) (defBody s__law_begun) (defScope s__law_begun) .none kV4 dc4 pm4 an4 cd4 ct4), sl4⟩) (d__law_begun : PySem.W.codeIn K cd4 "_law_begun" = true) (k__law_begun : PySem.W.keepIn K (.ref f__law_begun) = true)
    {f__law_take : Addr} {od5 an5 : Option Addr} {sl5 : Array (Option Value)} {oc5 kV5 dc5 pm5 cd5 ct5 : Value}
    (a__law_take : PySem.W.nsIn K mainGlobals "_law_take" = some (some (.ref f__law_take))) (l__law_take : K.lookup f__law_take = some ⟨oc5, od5, .func (PySem.W.fnOf "_law_take" "_law_take" (defArgs s__law_take) (defBody s__law_take) (defScope s__law_take) .none kV5 dc5 pm5 an5 cd5 ct5), sl5⟩) (d__law_take : PySem.W.codeIn K cd5 "_law_take" = true) (k__law_take : PySem.W.keepIn K (.ref f__law_take) = true)
    {f__law_whole : Addr} {od6 an6 : Option Addr} {sl6 : Array (Option Value)} {oc6 kV6 dc6 pm6 cd6 ct6 : Value}
    (a__law_whole : PySem.W.nsIn K mainGlobals "_law_whole" = some (some (.ref f__law_whole))) (l__law_whole : K.lookup f__law_whole = some ⟨oc6, od6, .func (PySem.W.fnOf "_law_whole" "_law_whole" (defArgs s__law_whole) (defBody s__law_whole) (defScope s__law_whole) .none kV6 dc6 pm6 an6 cd6 ct6), sl6⟩) (d__law_whole : PySem.W.codeIn K cd6 "_law_whole" = true) (k__law_whole : PySem.W.keepIn K (.ref f__law_whole) = true)
    {f__law_is_fade : Addr} {od7 an7 : Option Addr} {sl7 : Array (Option Value)} {oc7 kV7 dc7 pm7 cd7 ct7 : Value}
    (a__law_is_fade : PySem.W.nsIn K mainGlobals "_law_is_fade" = some (some (.ref f__law_is_fade))) (l__law_is_fade : K.lookup f__law_is_fade = some ⟨oc7, od7, .func (PySem.W.fnOf "_law_is_fade" "_law_is_fade" (defArgs s__law_is_fade) (defBody s__law_is_fade) (defScope s__law_is_fade) .none kV7 dc7 pm7 an7 cd7 ct7), sl7⟩) (d__law_is_fade : PySem.W.codeIn K cd7 "_law_is_fade" = true) (k__law_is_fade : PySem.W.keepIn K (.ref f__law_is_fade) = true)
    {f__law_odd : Addr} {od8 an8 : Option Addr} {sl8 : Array (Option Value)} {oc8 kV8 dc8 pm8 cd8 ct8 : Value}
    (a__law_odd : PySem.W.nsIn K mainGlobals "_law_odd" = some (some (.ref f__law_odd))) (l__law_odd : K.lookup f__law_odd = some ⟨oc8, od8, .func (PySem.W.fnOf "_law_odd" "_law_odd" (defArgs s__law_odd) (defBody s__law_odd) (defScope s__law_odd) .none kV8 dc8 pm8 an8 cd8 ct8), sl8⟩) (d__law_odd : PySem.W.codeIn K cd8 "_law_odd" = true) (k__law_odd : PySem.W.keepIn K (.ref f__law_odd) = true)
    {f_law : Addr} {od9 an9 : Option Addr} {sl9 : Array (Option Value)} {oc9 kV9 dc9 pm9 cd9 ct9 : Value}
    (a_law : PySem.W.nsIn K mainGlobals "law" = some (some (.ref f_law))) (l_law : K.lookup f_law = some ⟨oc9, od9, .func (PySem.W.fnOf "law" "law" (defArgs s_law) (defBody s_law) (defScope s_law) .none kV9 dc9 pm9 an9 cd9 ct9), sl9⟩) (d_law : PySem.W.codeIn K cd9 "law" = true) (k_law : PySem.W.keepIn K (.ref f_law) = true)
    (z_abs : PySem.W.nsIn K mainGlobals "abs" = some none)
    (z_bool : PySem.W.nsIn K mainGlobals "bool" = some none)
    (z_int : PySem.W.nsIn K mainGlobals "int" = some none)
    (z_isinstance : PySem.W.nsIn K mainGlobals "isinstance" = some none)
    (z_len : PySem.W.nsIn K mainGlobals "len" = some none)
    (z_max : PySem.W.nsIn K mainGlobals "max" = some none)
    (z_min : PySem.W.nsIn K mainGlobals "min" = some none)
    (z_range : PySem.W.nsIn K mainGlobals "range" = some none)
    (z_repr : PySem.W.nsIn K mainGlobals "repr" = some none)
    (z_tuple : PySem.W.nsIn K mainGlobals "tuple" = some none)
    {tk_GREATEST_BOTTOM : Tok} (a_GREATEST_BOTTOM : PySem.W.nsIn K mainGlobals "GREATEST_BOTTOM" = some (some (.int 999 tk_GREATEST_BOTTOM))) :
    ∃ fd : FuncData, (∀ (s : Shared) (v : Value), BindsTo s fd ⟨[v], []⟩ [("_law_script", v)]) ∧ ∀ base : Heap, K.In base → base.Ns mainGlobals mg → FnG l.prog w K mg base CX0 4 fa fd ["_law_script"] (spEnd K) := by
  have e := hfa.symm.trans (PySem.W.mg_of X G a_law)
  cases e
  have F_is_whole := fun_mk (st := s_is_whole) l_is_whole d_is_whole k_is_whole
  have b_is_whole := F_is_whole.binds (ps := ["thing"]) fun _ _ _ _ _ _ us hl => match us, hl with | [_], _ => rfl
  have F_greatest_divisor := fun_mk (st := s_greatest_divisor) l_greatest_divisor d_greatest_divisor k_greatest_divisor
  have b_greatest_divisor := F_greatest_divisor.binds (ps := ["one", "other"]) fun _ _ _ _ _ _ us hl => match us, hl with | [_, _], _ => rfl
  have F_is_fraction := fun_mk (st := s_is_fraction) l_is_fraction d_is_fraction k_is_fraction
  have b_is_fraction := F_is_fraction.binds (ps := ["thing"]) fun _ _ _ _ _ _ us hl => match us, hl with | [_], _ => rfl
  have F_is_fade := fun_mk (st := s_is_fade) l_is_fade d_is_fade k_is_fade
  have b_is_fade := F_is_fade.binds (ps := ["thing"]) fun _ _ _ _ _ _ us hl => match us, hl with | [_], _ => rfl
  have F__law_begun := fun_mk (st := s__law_begun) l__law_begun d__law_begun k__law_begun
  have b__law_begun := F__law_begun.binds (ps := ["_law_script", "_law_k"]) fun _ _ _ _ _ _ us hl => match us, hl with | [_, _], _ => rfl
  have F__law_take := fun_mk (st := s__law_take) l__law_take d__law_take k__law_take
  have b__law_take := F__law_take.binds (ps := ["_law_state", "_law_many"]) fun _ _ _ _ _ _ us hl => match us, hl with | [_, _], _ => rfl
  have F__law_whole := fun_mk (st := s__law_whole) l__law_whole d__law_whole k__law_whole
  have b__law_whole := F__law_whole.binds (ps := ["_law_thing"]) fun _ _ _ _ _ _ us hl => match us, hl with | [_], _ => rfl
  have F__law_is_fade := fun_mk (st := s__law_is_fade) l__law_is_fade d__law_is_fade k__law_is_fade
  have b__law_is_fade := F__law_is_fade.binds (ps := ["_law_thing"]) fun _ _ _ _ _ _ us hl => match us, hl with | [_], _ => rfl
  have F__law_odd := fun_mk (st := s__law_odd) l__law_odd d__law_odd k__law_odd
  have b__law_odd := F__law_odd.binds (ps := ["_law_state", "_law_top", "_law_base"]) fun _ _ _ _ _ _ us hl => match us, hl with | [_, _, _], _ => rfl
  have F_law := fun_mk (st := s_law) l_law d_law k_law
  refine ⟨(PySem.W.fnOf "law" "law" (defArgs s_law) (defBody s_law) (defScope s_law) .none kV9 dc9 pm9 an9 cd9 ct9), fun s v => .of_eq rfl, fun base hK _ => ?_⟩
  have M := fun {x : Str} {u : Value} (a : PySem.W.nsIn K mainGlobals x = some (some u)) => PySem.W.mg_of X G a
  have Z := fun {x : Str} (a : PySem.W.nsIn K mainGlobals x = some none) => PySem.W.mg_none_of X G a
  have C_is_whole := caG_mk (ok_is_whole (P := l.prog) (w := w) (base := base) F_is_whole (Z z_bool) (Z z_int) (Z z_isinstance)) (M a_is_whole) k_is_whole b_is_whole .nil
  have C_greatest_divisor := caG_mk (ok_greatest_divisor (P := l.prog) (w := w) (base := base) F_greatest_divisor (Z z_abs)) (M a_greatest_divisor) k_greatest_divisor b_greatest_divisor .nil
  have C_is_fraction := caG_mk (ok_is_fraction (P := l.prog) (w := w) (base := base) F_is_fraction (Z z_isinstance) (Z z_len) (Z z_tuple) C_greatest_divisor C_is_whole) (M a_is_fraction) k_is_fraction b_is_fraction .nil
  have C_is_fade := caG_mk (ok_is_fade (P := l.prog) (w := w) (base := base) F_is_fade (M a_GREATEST_BOTTOM) C_is_fraction) (M a_is_fade) k_is_fade b_is_fade .nil
  have C__law_begun := caG_mk (ok__law_begun (P := l.prog) (w := w) (base := base) F__law_begun (Z z_max)) (M a__law_begun) k__law_begun b__law_begun .nil
  have C__law_take := caG_mk (ok__law_take (P := l.prog) (w := w) (base := base) F__law_take (Z z_int) (Z z_range)) (M a__law_take) k__law_take b__law_take .nil
  have C__law_whole := caG_mk (ok__law_whole (P := l.prog) (w := w) (base := base) F__law_whole (Z z_bool) (Z z_int) (Z z_isinstance)) (M a__law_whole) k__law_whole b__law_whole .nil
  have C__law_is_fade := caG_mk (ok__law_is_fade (P := l.prog) (w := w) (base := base) F__law_is_fade (Z z_isinstance) (Z z_len) (Z z_tuple) C__law_whole) (M a__law_is_fade) k__law_is_fade b__law_is_fade .nil
  have C__law_odd := caG_mk (ok__law_odd (P := l.prog) (w := w) (base := base) F__law_odd C__law_take) (M a__law_odd) k__law_odd b__law_odd .nil
  exact ad_end law_true (ok_law (P := l.prog) (w := w) (base := base) F_law (Z z_len) (Z z_max) (Z z_min) (Z z_range) (Z z_repr) C__law_begun C__law_is_fade C__law_odd C__law_take C_is_fade)
end A25
open PySem PySem.W PyProof.Rows
set_option maxHeartbeats 0 in
theorem PySem.Challenge.cw_neartwins_k25_what_is_a_fade_holds : PySem.Challenge.rw_neartwins_k25_what_is_a_fade.Holds := by
  w_on; o_law; k_head; (case hw => w_witness2)
  k_fill
  refine NF.walk_g (l := PySem.Challenge.rw_neartwins_k25_what_is_a_fade) (n := 63) (k := 4) (x := "_law_script") (sp := fun w => PL.spEnd _) rfl (by decide) rfl ⟨rfl, by decide, by decide⟩ (fun w h Y => PySem.W.kIn_of Y) ?F (fun _ _ a ns hl _ hS => ⟨a, ns, rfl, hS, hl, fun _ => rfl⟩)
  case F =>
    intro w mg fa h KX G hmg
    refine' A25.all_mk KX G hmg ?a_is_whole ?l_is_whole ?d_is_whole ?k_is_whole ?a_greatest_divisor ?l_greatest_divisor ?d_greatest_divisor ?k_greatest_divisor ?a_is_fraction ?l_is_fraction ?d_is_fraction ?k_is_fraction ?a_is_fade ?l_is_fade ?d_is_fade ?k_is_fade ?a__law_begun ?l__law_begun ?d__law_begun ?k__law_begun ?a__law_take ?l__law_take ?d__law_take ?k__law_take ?a__law_whole ?l__law_whole ?d__law_whole ?k__law_whole ?a__law_is_fade ?l__law_is_fade ?d__law_is_fade ?k__law_is_fade ?a__law_odd ?l__law_odd ?d__law_odd ?k__law_odd ?a_law ?l_law ?d_law ?k_law ?z_abs ?z_bool ?z_int ?z_isinstance ?z_len ?z_max ?z_min ?z_range ?z_repr ?z_tuple ?a_GREATEST_BOTTOM
    (case a_is_whole => k_is); (case l_is_whole => k_is); (case d_is_whole => k_is); (case k_is_whole => k_is); (case a_greatest_divisor => k_is); (case l_greatest_divisor => k_is); (case d_greatest_divisor => k_is); (case k_greatest_divisor => k_is); (case a_is_fraction => k_is); (case l_is_fraction => k_is); (case d_is_fraction => k_is); (case k_is_fraction => k_is); (case a_is_fade => k_is); (case l_is_fade => k_is); (case d_is_fade => k_is); (case k_is_fade => k_is); (case a__law_begun => k_is); (case l__law_begun => k_is); (case d__law_begun => k_is); (case k__law_begun => k_is); (case a__law_take => k_is); (case l__law_take => k_is); (case d__law_take => k_is); (case k__law_take => k_is); (case a__law_whole => k_is); (case l__law_whole => k_is); (case d__law_whole => k_is); (case k__law_whole => k_is); (case a__law_is_fade => k_is); (case l__law_is_fade => k_is); (case d__law_is_fade => k_is); (case k__law_is_fade => k_is); (case a__law_odd => k_is); (case l__law_odd => k_is); (case d__law_odd => k_is); (case k__law_odd => k_is); (case a_law => k_is); (case l_law => k_is); (case d_law => k_is); (case k_law => k_is); (case z_abs => k_is); (case z_bool => k_is); (case z_int => k_is); (case z_isinstance => k_is); (case z_len => k_is); (case z_max => k_is); (case z_min => k_is); (case z_range => k_is); (case z_repr => k_is); (case z_tuple => k_is); (case a_GREATEST_BOTTOM => k_is)

