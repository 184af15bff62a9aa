import PyProof.Rows.All
import Wide.All
import OpenK.AllK
import Wide.FinOn
import PySem.Challenge.RW_neartwins_k04_whole_sums_there_and_back
import HandS.ForMost
import HandS.Evl
import HandS.Defaults
import HandS.Wide
import HandS.IsInst
import HandS.Flow
import HandS.Exc
import HandS.ExcOwn
import HandS.ExcIs
import HandS.WordsExc
import OpenK.KOps
import HandS.Conv
import HandS.CallSlots
import HandS.Text
import HandS.Style
import OpenK.KWalk
set_option Elab.async false
set_option linter.all false
set_option maxRecDepth 100000
namespace NF

theorem gcd_step {a b : Int} (h : b ≠ 0) : Int.gcd b (a.fmod b) = Int.gcd a b ∧ (a.fmod b).natAbs < b.natAbs := by
  constructor
  · rw [Int.fmod_def, Int.gcd_sub_mul_left_right, Int.gcd_comm]
  · rcases Int.lt_or_gt_of_ne h with hb | hb
    · have e := Int.neg_fmod_neg a b
      have h1 := Int.fmod_nonneg_of_pos (-a) (show 0 < -b by omega)
      have h2 := Int.fmod_lt_of_pos (-a) (show 0 < -b by omega)
      omega
    · have h1 := Int.fmod_nonneg_of_pos a hb
      have h2 := Int.fmod_lt_of_pos a hb
      omega

/-- what reduced does -/
theorem red_pos {a b : Int} (h : 0 < b) : a.fdiv (Int.gcd a b) = (Rat.divInt a b).num ∧ b.fdiv (Int.gcd a b) = (Rat.divInt a b).den := by
  have hg : (0 : Int) < Int.gcd a b := by
    have : 0 < Int.gcd a b := Int.gcd_pos_of_ne_zero_right _ (by omega)
    omega
  constructor
  · rw [Rat.num_divInt, Int.gcd_comm b a, Int.sign_eq_one_of_pos h, Int.one_mul, Int.fdiv_eq_ediv_of_nonneg _ (by omega)]
  · rw [Rat.den_divInt, if_neg (by omega), Int.gcd_comm b a, Int.fdiv_eq_ediv_of_nonneg _ (by omega)]
    rw [Int.natCast_ediv]
    congr 1
    omega
theorem red_neg {a b : Int} (h : b < 0) : a.fdiv (-(Int.gcd a b : Int)) = (Rat.divInt a b).num ∧ b.fdiv (-(Int.gcd a b : Int)) = (Rat.divInt a b).den := by
  have d1 : (Int.gcd a b : Int) ∣ a := Int.gcd_dvd_left ..
  have d2 : (Int.gcd a b : Int) ∣ b := Int.gcd_dvd_right ..
  constructor
  · rw [Rat.num_divInt, Int.gcd_comm b a, Int.sign_eq_neg_one_of_neg h, Int.fdiv_eq_ediv_of_dvd (by rwa [Int.neg_dvd]), Int.ediv_neg, Int.neg_mul, Int.one_mul, Int.neg_ediv_of_dvd d1]
  · rw [Rat.den_divInt, if_neg (by omega), Int.gcd_comm b a, Int.fdiv_eq_ediv_of_dvd (by rwa [Int.neg_dvd]), Int.ediv_neg, ← Int.neg_ediv_of_dvd d2]
    rw [Int.natCast_ediv]
    congr 1
    omega

/-- how many bits a fraction has -/
def Sz (B : Nat) (x : Rat) : Prop := x.num.natAbs < 2 ^ B ∧ x.den < 2 ^ B
theorem Sz.mono {A B : Nat} {x : Rat} (h : Sz A x) (e : A ≤ B) : Sz B x :=
  ⟨Nat.lt_of_lt_of_le h.1 (Nat.pow_le_pow_right (by decide) e), Nat.lt_of_lt_of_le h.2 (Nat.pow_le_pow_right (by decide) e)⟩
theorem sz_div {B : Nat} {a b : Int} (ha : a.natAbs < 2 ^ B) (hb : b.natAbs < 2 ^ B) (h : b ≠ 0) : Sz B (Rat.divInt a b) := by
  constructor
  · rw [Rat.num_divInt]
    have d1 : (Int.gcd b a : Int) ∣ a := Int.gcd_dvd_right ..
    refine Nat.lt_of_le_of_lt ?_ ha
    have : (b.sign * a / ↑(b.gcd a)).natAbs ≤ (b.sign * a).natAbs := by
      exact Int.natAbs_ediv_le_natAbs ..
    refine Nat.le_trans this ?_
    rw [Int.natAbs_mul]
    have : b.sign.natAbs = 1 := Int.natAbs_sign_of_ne_zero h
    rw [this]; omega
  · rw [Rat.den_divInt, if_neg h]
    exact Nat.lt_of_le_of_lt (Nat.div_le_self ..) hb

theorem den0 (x : Rat) : (x.den : Int) ≠ 0 := by have := x.den_nz; omega
theorem denp (x : Rat) : (0 : Int) < (x.den : Int) := by have := x.den_nz; omega
theorem add_rt (x y : Rat) : x + y = Rat.divInt (x.num * y.den + y.num * x.den) (x.den * y.den) := by
  rw [← Rat.divInt_add_divInt _ _ (den0 x) (den0 y), Rat.num_divInt_den, Rat.num_divInt_den]
theorem sub_rt (x y : Rat) : x - y = Rat.divInt (x.num * y.den - y.num * x.den) (x.den * y.den) := by
  rw [← Rat.divInt_sub_divInt _ _ (den0 x) (den0 y), Rat.num_divInt_den, Rat.num_divInt_den]
theorem mul_rt (x y : Rat) : x * y = Rat.divInt (x.num * y.num) (x.den * y.den) := by
  rw [← Rat.divInt_mul_divInt, Rat.num_divInt_den, Rat.num_divInt_den]
theorem div_rt (x y : Rat) : x / y = Rat.divInt (x.num * y.den) (x.den * y.num) := by
  rw [Rat.div_def, Rat.inv_def, ← Rat.divInt_mul_divInt, Rat.num_divInt_den]
theorem nz_num {x : Rat} (h : x.num ≠ 0) : x ≠ 0 := fun e => h (by rw [e]; rfl)
theorem num_nz {x : Rat} (h : x ≠ 0) : x.num ≠ 0 := fun e => h (Rat.num_eq_zero.mp e)

theorem bits_mul {i j : Int} {a b : Nat} (ha : i.natAbs < 2 ^ a) (hb : j.natAbs < 2 ^ b) : (i * j).natAbs < 2 ^ (a + b) := by
  rw [Int.natAbs_mul, Nat.pow_add]
  exact Nat.mul_lt_mul'' ha hb
theorem bits_add {i j : Int} {a : Nat} (ha : i.natAbs < 2 ^ a) (hb : j.natAbs < 2 ^ a) : (i + j).natAbs < 2 ^ (a + 1) := by
  rw [Nat.pow_succ]; omega
theorem bits_sub {i j : Int} {a : Nat} (ha : i.natAbs < 2 ^ a) (hb : j.natAbs < 2 ^ a) : (i - j).natAbs < 2 ^ (a + 1) := by
  rw [Nat.pow_succ]; omega
theorem bits_up {i : Int} {a b : Nat} (h : i.natAbs < 2 ^ a) (e : a ≤ b) : i.natAbs < 2 ^ b := Nat.lt_of_lt_of_le h (Nat.pow_le_pow_right (by decide) e)
theorem Sz.num {B : Nat} {x : Rat} (h : Sz B x) : x.num.natAbs < 2 ^ B := h.1
theorem Sz.den {B : Nat} {x : Rat} (h : Sz B x) : (x.den : Int).natAbs < 2 ^ B := by have := h.2; omega
theorem den_mul0 (x y : Rat) : (x.den : Int) * y.den ≠ 0 := Int.mul_ne_zero (den0 x) (den0 y)
theorem Sz.add {B : Nat} {x y : Rat} (hx : Sz B x) (hy : Sz B y) : Sz (2 * B + 1) (x + y) := by
  rw [add_rt]
  exact sz_div (bits_up (bits_add (bits_mul hx.num hy.den) (bits_mul hy.num hx.den)) (by omega)) (bits_up (bits_mul hx.den hy.den) (by omega)) (den_mul0 x y)
theorem Sz.sub {B : Nat} {x y : Rat} (hx : Sz B x) (hy : Sz B y) : Sz (2 * B + 1) (x - y) := by
  rw [sub_rt]
  exact sz_div (bits_up (bits_sub (bits_mul hx.num hy.den) (bits_mul hy.num hx.den)) (by omega)) (bits_up (bits_mul hx.den hy.den) (by omega)) (den_mul0 x y)
theorem Sz.mul {B : Nat} {x y : Rat} (hx : Sz B x) (hy : Sz B y) : Sz (2 * B + 1) (x * y) := by
  rw [mul_rt]
  exact sz_div (bits_up (bits_mul hx.num hy.num) (by omega)) (bits_up (bits_mul hx.den hy.den) (by omega)) (den_mul0 x y)
theorem Sz.div {B : Nat} {x y : Rat} (hx : Sz B x) (hy : Sz B y) (h : y ≠ 0) : Sz (2 * B + 1) (x / y) := by
  rw [div_rt]
  exact sz_div (bits_up (bits_mul hx.num hy.den) (by omega)) (bits_up (bits_mul hx.den hy.num) (by omega)) (Int.mul_ne_zero (den0 x) (num_nz h))

/-- how far two are apart -/
def ap (x y : Rat) : Rat := if x < y then y - x else x - y
theorem Sz.ap {B : Nat} {x y : Rat} (hx : Sz B x) (hy : Sz B y) : Sz (2 * B + 1) (ap x y) := by
  unfold NF.ap
  split
  · exact hy.sub hx
  · exact hx.sub hy
theorem ap_comm (x y : Rat) : ap x y = ap y x := by
  unfold NF.ap; grind
theorem ap_tri (x y z : Rat) : ¬ (ap x z + ap z y < ap x y) := by
  unfold NF.ap; grind
theorem ap_zero (x y : Rat) : ap x y = 0 ↔ x = y := by
  unfold NF.ap; grind
theorem ap_pos (x y : Rat) : ¬ (ap x y < 0) := by
  unfold NF.ap; grind
theorem lt3 (x y : Rat) : (if x < y then 1 else 0) + (if x = y then 1 else 0) + (if y < x then 1 else 0) = 1 := by grind
theorem lt_rt (x y : Rat) : x < y ↔ x.num * y.den < y.num * x.den := Rat.lt_iff x y
theorem t1 (x y : Rat) : x + y - y = x := by grind
theorem t2 (x y : Rat) : y + x = x + y := by grind
theorem t3 (x y z : Rat) : 0 + x + y + z = x + y + z := by grind
theorem t4 (x y z : Rat) : x + (y + z) = x + y + z := by grind
theorem t5 (x y z : Rat) : x * y * z = x * (z * y) := by grind
theorem t6 (x y z : Rat) : (x + y) * z = x * z + y * z := by grind
theorem t7 (x z : Rat) (h : z ≠ 0) : x * z / z = x := by grind
theorem cop (x : Rat) : Int.gcd x.num x.den = 1 := x.reduced
end NF

namespace NF
open PySem PySem.Spec PyProof.Rows L2 Evl

/-! ### a fraction as a value -/
section
variable {K : PySem.W.Frag} {H H1 H2 : Hp} {σ : L2.St} {ta tb te : TE} {x y z : Rat} {v w : V} {b : Bool}
def Rt (K : PySem.W.Frag) (H : Hp) (v : V) (x : Rat) : Prop := ∃ p, v = .ref p ∧ SqT K H p [.int x.num, .int x.den]
theorem Rt.mono (h : Rt K H v x) (e : Ex H H1) : Rt K H1 v x := by
  obtain ⟨p, e1, h⟩ := h
  exact ⟨p, e1, ex_t e h⟩
theorem Rt.of {p : Addr} {n d : Int} (h : H p = some (.tup [.int n, .int d])) (en : n = x.num) (ed : d = x.den) : Rt K H (.ref p) x := by
  subst en ed
  exact ⟨p, rfl, SqT.of h⟩
def EvF (K : PySem.W.Frag) (te : TE) (σ : L2.St) (H : Hp) (x : Rat) : Prop := ∀ H1, Ex H H1 → ∀ Q : VK, (∀ v H2, Ex H1 H2 → Rt K H2 v x → Q v H2) → te σ H1 Q
theorem EvF.mono (h : EvF K te σ H x) (e : Ex H H1) : EvF K te σ H1 x := fun H2 a Q q => h H2 (e.trans a) Q q
theorem EvF.to (h : EvF K te σ H x) (e : x = y) : EvF K te σ H y := e ▸ h
theorem ef_var {i : Nat} (h : σ[i]? = some (some v)) (r : Rt K H v x) : EvF K (tVar i) σ H x := fun H1 e _ q => ⟨v, h, q v H1 (Ex.refl H1) (r.mono e)⟩
theorem ev_ix0 (ha : EvF K ta σ H x) : Ev (tOp (rIxT K) ta (tC (.int 0))) σ H (.int x.num) := fun H1 e Q q => ha H1 e _ fun v H2 e2 r => by
  obtain ⟨p, rfl, hs⟩ := r
  exact ⟨p, _, 0, _, rfl, rfl, hs, atI_nat (j := 0) rfl, q H2 e2⟩
theorem ev_ix1 (ha : EvF K ta σ H x) : Ev (tOp (rIxT K) ta (tC (.int 1))) σ H (.int x.den) := fun H1 e Q q => ha H1 e _ fun v H2 e2 r => by
  obtain ⟨p, rfl, hs⟩ := r
  exact ⟨p, _, 1, _, rfl, rfl, hs, atI_nat (j := 1) rfl, q H2 e2⟩
theorem eqv_rt : PyData.eqv (.tuple [.int x.num, .int x.den]) (.tuple [.int y.num, .int y.den]) = decide (x = y) := by
  have e : PyData.eqv (.tuple [.int x.num, .int x.den]) (.tuple [.int y.num, .int y.den]) = (x.num == y.num && ((x.den : Int) == (y.den : Int))) := by
    simp [PyData.eqv, PyData.eqvAll]
  rw [e]
  by_cases h : x = y
  · subst h; simp
  · rw [decide_eq_false h]
    by_cases h1 : x.num = y.num
    · have h2 : (x.den : Int) ≠ y.den := fun e => h (Rat.ext h1 (by omega))
      simp [h2]
    · simp [h1]
theorem dp_rt (h : Rt K H v x) : Dp K H v (.tuple [.int x.num, .int x.den]) := by
  obtain ⟨p, rfl, hs⟩ := h
  exact .tup hs (.cons (.int _) (.cons (.int _) .nil))
theorem ev_eqF (ha : EvF K ta σ H x) (hb : EvF K tb σ H y) : Ev (tOp (rEqD K) ta tb) σ H (.bl (decide (x = y))) := fun H1 e Q q =>
  ha H1 e _ fun v H2 e2 r => hb H2 (e.trans e2) _ fun w H3 e3 r' => ⟨_, _, dp_rt (r.mono e3), dp_rt r', rfl, rfl, by rw [eqv_rt]; exact q H3 (e2.trans e3)⟩
theorem ev_neF (ha : EvF K ta σ H x) (hb : EvF K tb σ H y) : Ev (tOp (rNeD K) ta tb) σ H (.bl (!decide (x = y))) := fun H1 e Q q =>
  ha H1 e _ fun v H2 e2 r => hb H2 (e.trans e2) _ fun w H3 e3 r' => ⟨_, _, dp_rt (r.mono e3), dp_rt r', rfl, rfl, by rw [eqv_rt]; exact q H3 (e2.trans e3)⟩
/-- a written pair -/
theorem ef_tup {n d : Int} (h : EvU te σ H [.int n, .int d]) (en : n = x.num) (ed : d = x.den) : EvF K te σ H x := fun H1 e Q q =>
  h H1 e _ fun p H2 _ e2 hp => q _ H2 e2 (Rt.of hp en ed)
theorem ef_if {t : TT} (h : EvT t σ H b) (h1 : b = true → EvF K ta σ H x) (h2 : b = false → EvF K tb σ H x) : EvF K (tIf t ta tb) σ H x := fun H1 e Q q => h H1 e _ fun H2 e2 => by
  cases b with
  | true =>
    show ta σ H2 Q
    exact h1 rfl H2 (e.trans e2) Q fun v H3 e3 r => q v H3 (e2.trans e3) r
  | false =>
    show tb σ H2 Q
    exact h2 rfl H2 (e.trans e2) Q fun v H3 e3 r => q v H3 (e2.trans e3) r
variable {D : Ends} {tu tw tz : TS}
theorem s_retF (h : EvF K te σ H x) (k : ∀ u H1, Ex H H1 → Rt K H1 u x → D.rt u H1) : tRet te D σ H := h H (Ex.refl H) _ k
theorem q_asgF {i : Nat} (h : EvF K te σ H x) (k : ∀ u H1, Ex H H1 → Rt K H1 u x → tz D (σ.set i (some u)) H1) : tSeq (tAsg te (gName i)) tz D σ H := h H (Ex.refl H) _ fun u H1 e r => k u H1 e r
theorem s_asgF {i : Nat} (h : EvF K te σ H x) (k : ∀ u H1, Ex H H1 → Rt K H1 u x → D.nx (σ.set i (some u)) H1) : tAsg te (gName i) D σ H := h H (Ex.refl H) _ fun u H1 e r => k u H1 e r
theorem s_par {i j : Nat} {ta : TA} (h : EvA ta σ H [v, w]) (k : ∀ H1, Ex H H1 → D.nx ((σ.set i (some v)).set j (some w)) H1) : tPar i j ta D σ H := h H (Ex.refl H) _ fun H1 e => ⟨v, w, rfl, k H1 e⟩
end

/-! ### // by any divisor but 0 -/
def CDivX (_ j : Int) : Prop := j ≠ 0 ∧ j.natAbs.log2 < 9000
theorem op_fdivX {X : Cx} : OpR X (binaryOp .FloorDiv) (rI CDivX fun i j => .int (i.fdiv j)) := opI fun _ _ _ _ _ _ _ hc q => floordiv_int hc.1 q (.inl (PyProof.noPylong_of_log2 hc.2))
theorem divX {i j : Int} {b : Nat} (h : j ≠ 0) (hb : j.natAbs < 2 ^ b) (h0 : 0 < b) (h9 : b ≤ 9000) : CDivX i j := ⟨h, Nat.lt_of_lt_of_le (PySem.Flt.log2_lt_of h0 hb) h9⟩

/-! ### a def that is called -/
structure Cal (P : Program) (w : World) (K : PySem.W.Frag) (mg : Str → Option Value) (base : Heap) (k : Nat) (x : Str) (ps : List Str) (dvs : List V) (sp : Sp) : Prop where
  ex : ∃ (f : Addr) (fd : FuncData) (ds : List Value), FnOk P w K mg base CX0 k f fd ps sp ∧ mg x = some (.ref f) ∧ PySem.W.keepIn K (.ref f) = true ∧ Binds K fd ps ds ∧ Vals dvs ds
theorem pe_cal {X : Cx} {j k : Nat} {x : Str} {ps : List Str} {dvs : List V} {sp : Sp} {e : Expr} {es : List Expr} {t : TA} {p pos : Pos} (C : Cal X.prog X.w X.K X.mg X.base k x ps dvs sp) (hr : Room j X.A) (hk : k ≤ j) (hg : Gl X x)
    (ha : PA X (e :: es) t) (hdb : (x == ("__debug__" : Str)) = false := by decide) (he : starEach (e :: es) X.env = (false, eval e X.env) :: starEach es X.env := by rfl) (hpl : (backTo pos (starEach es X.env)).any (·.1) = false := by rfl) :
    PE X (.Call (.Name x p) (e :: es) [] pos) (tCall sp dvs E0 t) := by
  obtain ⟨f, fd, ds, F, hm, kp, b, d⟩ := C.ex
  exact pe_call F (hr.mono hk) hg hm kp b d pass0 ha hdb he hpl

/-! ### promises -/
def spGcd : Sp := fun vs H Q _ => ∃ a b : Int, vs = [.int a, .int b] ∧ ∀ H', Ex H H' → Q (.int (Int.gcd a b)) H'
def spRed (K : PySem.W.Frag) : Sp := fun vs H Q _ => ∃ (a b : Int) (B : Nat), vs = [.int a, .int b] ∧ b ≠ 0 ∧ a.natAbs < 2 ^ B ∧ b.natAbs < 2 ^ B ∧ 0 < B ∧ B ≤ 9000 ∧ ∀ v H', Ex H H' → Rt K H' v (Rat.divInt a b) → Q v H'
def sp2 (K : PySem.W.Frag) (C : Rat → Rat → Prop) (f : Rat → Rat → Rat) : Sp := fun vs H Q _ => ∃ (v w : V) (x y : Rat) (B : Nat), vs = [v, w] ∧ Rt K H v x ∧ Rt K H w y ∧ C x y ∧ Sz B x ∧ Sz B y ∧ 0 < B ∧ B ≤ 4000 ∧ ∀ u H', Ex H H' → Rt K H' u (f x y) → Q u H'
def spLt (K : PySem.W.Frag) : Sp := fun vs H Q _ => ∃ (v w : V) (x y : Rat) (B : Nat), vs = [v, w] ∧ Rt K H v x ∧ Rt K H w y ∧ Sz B x ∧ Sz B y ∧ 0 < B ∧ B ≤ 400000 ∧ ∀ H', Ex H H' → Q (.bl (decide (x < y))) H'
section
variable {K : PySem.W.Frag} {H H1 H2 : Hp} {σ : L2.St} {ta tb te : TE} {x y z : Rat} {v w : V} {B : Nat} {C : Rat → Rat → Prop} {f : Rat → Rat → Rat} {E : XK}
theorem ef_2 (ha : EvF K ta σ H x) (hb : EvF K tb σ H y) (hc : C x y) (sx : Sz B x) (sy : Sz B y) (h0 : 0 < B) (h4 : B ≤ 4000) : EvF K (tCall (sp2 K C f) [] E (tCons ta (tCons tb tNil))) σ H (f x y) := fun H1 e Q q =>
  ha H1 e _ fun v H2 e2 r => hb H2 (e.trans e2) _ fun w H3 e3 r' => ⟨v, w, x, y, B, rfl, r.mono e3, r', hc, sx, sy, h0, h4, fun u H' e4 ru => q u H' ((e2.trans e3).trans e4) ru⟩
theorem ev_lt (ha : EvF K ta σ H x) (hb : EvF K tb σ H y) (sx : Sz B x) (sy : Sz B y) (h0 : 0 < B) (h4 : B ≤ 400000) : Ev (tCall (spLt K) [] E (tCons ta (tCons tb tNil))) σ H (.bl (decide (x < y))) := fun H1 e Q q =>
  ha H1 e _ fun v H2 e2 r => hb H2 (e.trans e2) _ fun w H3 e3 r' => ⟨v, w, x, y, B, rfl, r.mono e3, r', sx, sy, h0, h4, fun H' e4 => q H' ((e2.trans e3).trans e4)⟩
theorem ef_red {a b : Int} (ha : Ev ta σ H (.int a)) (hb : Ev tb σ H (.int b)) (hn : b ≠ 0) (ba : a.natAbs < 2 ^ B) (bb : b.natAbs < 2 ^ B) (h0 : 0 < B) (h4 : B ≤ 9000) : EvF K (tCall (spRed K) [] E (tCons ta (tCons tb tNil))) σ H (Rat.divInt a b) := fun H1 e Q q =>
  ha H1 e _ fun H2 e2 => hb H2 (e.trans e2) _ fun H3 e3 => ⟨a, b, B, rfl, hn, ba, bb, h0, h4, fun u H' e4 ru => q u H' ((e2.trans e3).trans e4) ru⟩
theorem ev_gcd {a b : Int} (ha : Ev ta σ H (.int a)) (hb : Ev tb σ H (.int b)) : Ev (tCall spGcd [] E (tCons ta (tCons tb tNil))) σ H (.int (Int.gcd a b)) := fun H1 e Q q =>
  ha H1 e _ fun H2 e2 => hb H2 (e.trans e2) _ fun H3 e3 => ⟨a, b, rfl, fun H' e4 => q H' ((e2.trans e3).trans e4)⟩
end
end NF

namespace NF
open PySem PySem.Spec PyProof.Rows L2 Evl
/-! ### isinstance -/
theorem c_ty {X : Cx} {x : Str} {n : String} {pos : Pos} (hm : X.mg x = none) (hg : Gl X x) (hv : bootBuiltins x = some (.type n)) (hn : x ≠ "__name__") (hd : (x == ("__debug__" : Str)) = false := by decide) : PE X (.Name x pos) (tC (.ty n)) := pe_bltn hg hm hv rfl hn hd
section
variable {K : PySem.W.Frag} {H H1 H2 : Hp} {σ : L2.St} {ta tb te : TE} {v w : V} {t c : String} {b : Bool} {E : XK}
theorem tyx_mono {t : Value} (h : TyX K H v t) (e : Ex H H1) : TyX K H1 v t := by
  cases h with
  | base b =>
    refine .base ?_
    cases b with
    | non => exact .non
    | bl y => exact .bl y
    | int i => exact .int i
    | str y => exact .str y
    | flt y => exact .flt y
    | lst ea => exact .lst (e _ _ ea)
    | frz ea => exact .frz (e _ _ ea)
    | tup ea => exact .tup (e _ _ ea)
    | dK ea => exact .dK (e _ _ ea)
    | dT ea => exact .dT (e _ _ ea)
    | ins ea cl ha hn htk hm => exact .ins (e _ _ ea) cl ha hn htk hm
  | byt y => exact .byt y
  | set ea => exact .set (e _ _ ea)
  | kList ea c => exact .kList ea c
  | kTuple ea c => exact .kTuple ea c
  | kDict ea c => exact .kDict ea c
  | fTuple ea => exact .fTuple (e _ _ ea)
  | fDict ea => exact .fDict (e _ _ ea)
theorem ev_isi (h : Ev ta σ H v) (ty : TyX K H v (.type t)) (kb : kitB t c = some b) : Ev (tCB (rIsi K) (tCons ta (tCons (tC (.ty c)) tNil))) σ H (.bl b) := fun H1 e Q q =>
  h H1 e _ fun H2 e2 => ⟨v, .ty c, _, _, b, rfl, .ty c, tyx_mono ty (e.trans e2), kit_ty kb, q H2 e2⟩
def spWhole (K : PySem.W.Frag) : Sp := fun vs H Q _ => ∃ (v : V) (t : String) (b1 b2 : Bool), vs = [v] ∧ TyX K H v (.type t) ∧ kitB t "int" = some b1 ∧ kitB t "bool" = some b2 ∧ ∀ H', Ex H H' → Q (.bl (b1 && !b2)) H'
theorem ev_whole {b1 b2 : Bool} (h : Ev ta σ H v) (ty : TyX K H v (.type t)) (k1 : kitB t "int" = some b1) (k2 : kitB t "bool" = some b2) : Ev (tCall (spWhole K) [] E (tCons ta tNil)) σ H (.bl (b1 && !b2)) := fun H1 e Q q =>
  h H1 e _ fun H2 e2 => ⟨v, t, b1, b2, rfl, tyx_mono ty (e.trans e2), k1, k2, fun H' e3 => q H' (e2.trans e3)⟩
theorem kit_ii : kitB "int" "int" = some true := by decide +kernel
theorem kit_ib : kitB "int" "bool" = some false := by decide +kernel
theorem kit_tt : kitB "tuple" "tuple" = some true := by decide +kernel
theorem ty_int (i : Int) : TyX K H (.int i) (.type "int") := .base (.int i)
theorem ev_wholeI {i : Int} (h : Ev ta σ H (.int i)) : Ev (tCall (spWhole K) [] E (tCons ta tNil)) σ H (.bl true) := ev_whole h (ty_int i) kit_ii kit_ib
theorem ty_tup {p : Addr} {xs : List V} (h : SqT K H p xs) : TyX K H (.ref p) (.type "tuple") := by
  rcases h with (h | ⟨o, h⟩) | ⟨o, its, n, e, c, _⟩
  · exact .base (.tup h)
  · exact .fTuple h
  · exact .kTuple e c
end
def spFrac (K : PySem.W.Frag) : Sp := fun vs H Q _ => ∃ (a b : Int) (B : Nat), vs = [.int a, .int b] ∧ b ≠ 0 ∧ a.natAbs < 2 ^ B ∧ b.natAbs < 2 ^ B ∧ 0 < B ∧ B ≤ 9000 ∧ ∀ v H', Ex H H' → Rt K H' v (Rat.divInt a b) → Q v H'
def spIsF (K : PySem.W.Frag) : Sp := fun vs H Q _ => ∃ (v : V) (x : Rat), vs = [v] ∧ Rt K H v x ∧ ∀ H', Ex H H' → Q (.bl true) H'
/-- fractions in a list -/
inductive RtAll (K : PySem.W.Frag) (H : Hp) : List V → List Rat → Prop
  | nil : RtAll K H [] []
  | cons {v : V} {vs : List V} {x : Rat} {xs : List Rat} : Rt K H v x → RtAll K H vs xs → RtAll K H (v :: vs) (x :: xs)
theorem RtAll.mono {K : PySem.W.Frag} {H H1 : Hp} (e : Ex H H1) : ∀ {vs : List V} {xs : List Rat}, RtAll K H vs xs → RtAll K H1 vs xs
  | _, _, .nil => .nil
  | _, _, .cons h t => .cons (h.mono e) (RtAll.mono e t)
theorem RtAll.get {K : PySem.W.Frag} {H : Hp} : ∀ {vs : List V} {xs : List Rat} {i : Nat} {v : V}, RtAll K H vs xs → vs[i]? = some v → ∃ x, xs[i]? = some x ∧ Rt K H v x
  | _, _, _, _, .nil, e => by simp at e
  | _, _, 0, _, .cons h _, e => by
    have e' := Option.some.inj e
    subst e'
    exact ⟨_, rfl, h⟩
  | _, _, i + 1, _, .cons _ t, e => RtAll.get (i := i) t e
theorem RtAll.length {K : PySem.W.Frag} {H : Hp} : ∀ {vs : List V} {xs : List Rat}, RtAll K H vs xs → vs.length = xs.length
  | _, _, .nil => rfl
  | _, _, .cons _ t => congrArg Nat.succ (RtAll.length t)
def sumF (x0 : Rat) (xs : List Rat) : Rat := xs.foldl (· + ·) x0
theorem sumF_take {x0 x : Rat} {xs : List Rat} {i : Nat} (h : xs[i]? = some x) : sumF x0 (xs.take (i + 1)) = sumF x0 (xs.take i) + x := by
  unfold sumF
  rw [List.take_add_one, h, List.foldl_append]
  rfl
/-- one summand after another -/
theorem Sz.addAB {A B : Nat} {x y : Rat} (hx : Sz A x) (hy : Sz B y) : Sz (A + B + 1) (x + y) := by
  rw [add_rt]
  exact sz_div (bits_add (bits_mul hx.num hy.den) (bits_up (bits_mul hy.num hx.den) (by omega))) (bits_up (bits_mul hx.den hy.den) (by omega)) (den_mul0 x y)
theorem sz_sum {B : Nat} {x0 : Rat} {xs : List Rat} (h0 : Sz B x0) (hs : ∀ x ∈ xs, Sz B x) : ∀ i, i ≤ xs.length → Sz ((i + 1) * (B + 1)) (sumF x0 (xs.take i))
  | 0, _ => by
    refine Sz.mono (A := B) ?_ (by omega)
    exact h0
  | i + 1, h => by
    have hi : i < xs.length := by omega
    rw [sumF_take (List.getElem?_eq_getElem hi)]
    refine Sz.mono ((sz_sum h0 hs i (by omega)).addAB (hs _ (List.getElem_mem hi))) ?_
    rw [Nat.succ_mul (i + 1)]
    omega
def spTot (K : PySem.W.Frag) : Sp := fun vs H Q _ => ∃ (a : Addr) (us : List V) (xs : List Rat) (w : V) (x0 : Rat) (B : Nat), vs = [.ref a, w] ∧ SqL K H a us ∧ RtAll K H us xs ∧ ((w = .non ∧ x0 = 0) ∨ Rt K H w x0) ∧ Sz B x0 ∧ (∀ x ∈ xs, Sz B x) ∧
  (xs.length + 2) * (B + 1) ≤ 4000 ∧ ∀ u H', Ex H H' → Rt K H' u (sumF x0 xs) → Q u H'
end NF

namespace NF
open PySem PySem.Spec PyProof.Rows L2 Evl
/-! ### promises that also know that no repr is under way (the layer's FnOk says nothing of guards, so repr of a tuple has no rule over it) -/
structure FnG (P : Program) (w : World) (K : PySem.W.Frag) (mg : Str → Option Value) (base : Heap) (CX : CXT) (k : Nat) (f : Addr) (fd : FuncData) (ps : List Str) (sp : Sp) : Prop where
  many : ∀ vs H Q E, sp vs H Q E → vs.length = ps.length
  goes : ∀ (A : Around) (out : List Env) (s : Shared) (H : Hp) (args : Args) (us : List Value) (vs : List V) (Q : VK) (E : XK), A.guards = some [] → Room k A → Env0 P w K mg base A out s H →
    BindsTo s fd args (ps.zip us) → Vals vs us → sp vs H Q E → codeAny (model P w) A (.call (.ref f) args) (CR CX out P w H s Q E) s
section
variable {P : Program} {w : World} {K : PySem.W.Frag} {mg : Str → Option Value} {base : Heap} {CX : CXT} {k j : Nat} {f : Addr} {fd : FuncData} {ps N : List Str} {sp : Sp}
theorem FnG.of (F : FnOk P w K mg base CX k f fd ps sp) : FnG P w K mg base CX k f fd ps sp :=
  ⟨F.len, fun A out s H args us vs Q E _ hr he hb hv hs => F.run A out s H args us vs Q E hr he hb hv hs⟩
theorem FnG.more (F : FnG P w K mg base CX k f fd ps sp) (h : k ≤ j) : FnG P w K mg base CX j f fd ps sp :=
  ⟨F.many, fun A out s H args us vs Q E g hr => F.goes A out s H args us vs Q E g (hr.mono h)⟩
/-- a def by its body, where no repr is under way -/
theorem fn_g {name qual : Str} {params : Arguments} {body : List Stmt} {scope : Scope} {dV kV doc pm cdv ct oc : Value} {an od : Option Addr} {osl : Array (Option Value)}
    (at_f : K.lookup f = some ⟨oc, od, .func (PySem.W.fnOf name qual params body scope dV kV doc pm an cdv ct), osl⟩) (code_f : PySem.W.codeIn K cdv qual = true) (S : FnScope N ps scope) (many : ∀ vs H Q E, sp vs H Q E → vs.length = ps.length)
    (walk : ∀ (A : Around) (out : List Env) (s : Shared) (H : Hp) (vs : List V) (Q : VK) (E : XK), A.guards = some [] → Room k (A.deeper (envOfC qual scope s.heap.objs.size f cdv)) → sp vs H Q E →
      ∃ t, PSs (cxOf CX P w K mg base N qual scope f cdv A out s H E) body t ∧ t { nx := fun _ G => Q .non G, rt := Q } (start N vs) H) : FnG P w K mg base CX (k + 1) f (PySem.W.fnOf name qual params body scope dV kV doc pm an cdv ct) ps sp := by
  constructor
  · exact many
  · intro A out s H args us vs Q E g hr he hb hv hs
    have kin := he.mod.kin.keeps fun b o e => (he.bs b o e).1
    have nol := he.mod.nolimit.keeps fun b o e => (he.bs b o e).1
    refine codeAny_call_function hr.depth (kin _ _ at_f) rfl S.co S.gen rfl (PySem.W.codeRec_of kin code_f) (hb _ _ _ _ ?_)
    refine wpAny_newFunctionEnv_cells S.kind ?_ ?_
    · rintro ⟨n, u⟩ hn
      exact (S.par n (List.of_mem_zip hn).1).imp id fun c => ⟨c, PySem.W.cellsFrom_some _ _ _ (.inl c)⟩
    · intro env e1 s1 x
      subst e1
      obtain ⟨t, d, q⟩ := walk A out s H vs Q E g (hr.deeper _) hs
      have I1 := inv_start (CX := CX) (E := E) S hr.hd he (many _ _ _ _ hs) hv x
      refine ⟨nol.keeps x.toInCall.keep, codeAny_func (wpAny_mono (d.run [] s1 (start N vs) H _ I1 q) ?_ fun _ _ z => z)⟩
      intro fl s2 z
      cases fl with
      | next =>
        obtain ⟨_, G, J, y⟩ := z
        exact ⟨.non, G, J.os, J.bare, J.base, J.hok, rfl, y⟩
      | ret u =>
        obtain ⟨v, _, G, J, rv, y⟩ := z
        exact ⟨v, G, J.os, J.bare, J.base, J.hok, rv, y⟩
      | brk => exact z.elim fun _ z => z.elim fun _ z => z.2.elim
      | cont => exact z.elim fun _ z => z.elim fun _ z => z.2.elim
end
/-- a def that is called, no repr under way -/
structure CaG (P : Program) (w : World) (K : PySem.W.Frag) (mg : Str → Option Value) (base : Heap) (CX : CXT) (k : Nat) (x : Str) (ps : List Str) (dvs : List V) (sp : Sp) : Prop where
  ex : ∃ (f : Addr) (fd : FuncData) (ds : List Value), FnG P w K mg base CX k f fd ps sp ∧ mg x = some (.ref f) ∧ PySem.W.keepIn K (.ref f) = true ∧ Binds K fd ps ds ∧ Vals dvs ds
theorem Cal.g {P : Program} {w : World} {K : PySem.W.Frag} {mg : Str → Option Value} {base : Heap} {k : Nat} {x : Str} {ps : List Str} {dvs : List V} {sp : Sp} (C : Cal P w K mg base k x ps dvs sp) : CaG P w K mg base CX0 k x ps dvs sp := by
  obtain ⟨f, fd, ds, F, r⟩ := C.ex
  exact ⟨f, fd, ds, .of F, r⟩
theorem caG_mk {P : Program} {w : World} {K : PySem.W.Frag} {mg : Str → Option Value} {base : Heap} {CX : CXT} {k : Nat} {x : Str} {ps : List Str} {dvs : List V} {sp : Sp} {f : Addr} {fd : FuncData} {ds : List Value} (h : FnG P w K mg base CX k f fd ps sp) (m : mg x = some (.ref f)) (kp : PySem.W.keepIn K (.ref f) = true)
    (b : Binds K fd ps ds) (d : Vals dvs ds) : CaG P w K mg base CX k x ps dvs sp := ⟨⟨f, fd, ds, h, m, kp, b, d⟩⟩
section
variable {X : Cx} {CX : CXT} {j k : Nat} {f : Addr} {fd : FuncData} {ps : List Str} {sp : Sp} {dvs : List V} {ds : List Value} {E : XK} {x : Str} {p pos : Pos} {e : Expr} {es : List Expr} {t : TA}
theorem run_g {pins : List (Addr × Obj)} {σ : L2.St} {H : Hp} {s : Shared} {Q : VK} {us : List Value} {vs : List V} (F : FnG X.prog X.w X.K X.mg X.base CX k f fd ps sp) (g : X.A.guards = some []) (hr : Room k X.A) (b : Binds X.K fd ps ds) (d : Vals dvs ds) (out : Passes CX X E)
    (I : Inv X pins σ H s) (v : Vals vs us) (h : sp (vs ++ dvs) H Q E) : wpAny (model X.prog X.w) X.A (call (.ref f) us) (EP X pins σ Q) X.xe s := by
  have va := v.append d
  have le : (us ++ ds).length = ps.length := va.length.symm.trans (F.many _ _ _ _ h)
  refine wpAny_call (codeAny_mono (F.goes X.A X.stack s H ⟨us, []⟩ _ _ Q E g hr I.env0 (b s us I.kIn le) va h) ?_)
  intro r s2 z
  match r, z with
  | .error y, z => exact out pins σ H s y s2 I z
  | .ok (.ret u), z => exact I.after z
theorem pe_caX (C : CaG X.prog X.w X.K X.mg X.base CX k x ps dvs sp) (g : X.A.guards = some []) (hr : Room j X.A) (hk : k ≤ j) (gl : Gl X x) (out : Passes CX X E) (ha : PA X (e :: es) t) (db : (x == ("__debug__" : Str)) = false := by decide)
    (he : starEach (e :: es) X.env = (false, eval e X.env) :: starEach es X.env := by rfl) (pl : (backTo pos (starEach es X.env)).any (·.1) = false := by rfl) : PE X (.Call (.Name x p) (e :: es) [] pos) (tCall sp dvs E t) := by
  obtain ⟨f, fd, ds, F, hm, kp, b, d⟩ := C.ex
  constructor
  intro pins s σ H Q I h
  refine wpAny_Call_Name_kw (ld_glob I gl hm (PySem.W.callWith_K (h₀ := X.base) I.ok.mod.kin kp (thn (ha.run pos pins s σ H _ I h) ?_) he pl) db)
  rintro us s1 ⟨vs, G, J, r, q⟩
  exact ⟨J.kIn, run_g F g (hr.mono hk) b d out J r q⟩
theorem pe_caG (C : CaG X.prog X.w X.K X.mg X.base CX0 k x ps dvs sp) (g : X.A.guards = some []) (hr : Room j X.A) (hk : k ≤ j) (gl : Gl X x) (ha : PA X (e :: es) t) (db : (x == ("__debug__" : Str)) = false := by decide)
    (he : starEach (e :: es) X.env = (false, eval e X.env) :: starEach es X.env := by rfl) (pl : (backTo pos (starEach es X.env)).any (·.1) = false := by rfl) : PE X (.Call (.Name x p) (e :: es) [] pos) (tCall sp dvs E0 t) := pe_caX C g hr hk gl pass0 ha db he pl
end
theorem Fun.okG {P : Program} {w : World} {K : PySem.W.Frag} {mg : Str → Option Value} {base : Heap} {x qual : Str} {st : Stmt} {f : Addr} {fd : FuncData} {N ps : List Str} {k : Nat} {sp : Sp} (F : L2.Fun K x qual st f fd) (S : FnScope N ps (defScope st)) (many : ∀ vs H Q E, sp vs H Q E → vs.length = ps.length)
    (walk : ∀ (cdv : Value) (A : Around) (out : List Env) (s : Shared) (H : Hp) (vs : List V) (Q : VK) (E : XK), A.guards = some [] → Room k (A.deeper (envOfC qual (defScope st) s.heap.objs.size f cdv)) → sp vs H Q E →
      ∃ t, PSs (cxOf CX0 P w K mg base N qual (defScope st) f cdv A out s H E).nox (defBody st) t ∧ t { nx := fun _ G => Q .non G, rt := Q } (start N vs) H) : FnG P w K mg base CX0 (k + 1) f fd ps sp := by
  obtain ⟨_, _, _, _, _, _, cdv, _, _, rfl, lk, hcd⟩ := F.ex
  exact fn_g lk hcd S many fun A out s H vs Q E g hr hs => (walk cdv A out s H vs Q E g hr hs).elim fun t z => ⟨t, z.1.nox, z.2⟩
end NF

namespace NF
open PySem PySem.Spec PyProof.Rows L2 Evl
/-! ### the end of a law row, from a promise that knows of guards -/
section
variable {P : Program} {w : World} {K : PySem.W.Frag} {mg mb : Str → Option Value} {CX : CXT} {k : Nat} {fa a : Addr} {fd : FuncData} {x : Str} {sp : Sp} {s₁ : Shared} {vs : List Value} {ns : List Int}
/-- the call, where the script alone may be tracked -/
theorem goes_from {H : Hp} (g : Heap) (KX : K.In g) (NX : g.Ns mainGlobals mg) (F : FnG P w K mg g CX k fa fd [x] sp) (hr : Room k callerA) (e0 : Env0 P w K mg g callerA [] s₁ H) (bd : ∀ (s : Shared) (u : Value), BindsTo s fd ⟨[u], []⟩ [(x, u)])
    (hO : Only H) (hsp : sp [.ref a] H (fun v _ => v = .bl true) fun _ _ _ => False) (hCX : ∀ H e s', CX [] H s₁ (fun _ _ _ => False) e s' → False) :
    codeAny (model P w) callerA (.call (.ref fa) ⟨[.ref a], []⟩) (fun r s' => r = .ok (.ret (.bool true)) ∧ OldK s₁.heap s'.heap ∧ s'.os = s₁.os ∧ AllBare s'.gens) s₁ := by
  refine codeAny_mono (F.goes callerA [] s₁ H ⟨[.ref a], []⟩ [.ref a] [.ref a] _ _ rfl hr e0 (bd s₁ _) (.cons rfl .nil) hsp) ?_
  intro r s2 z
  match r, z with
  | .error e, z => exact (hCX H e s2 z).elim
  | .ok (.ret u), z =>
    obtain ⟨v, G, h1, h2, un, ok2, rv, q⟩ := z
    cases (show v = .bl true from q)
    cases (show u = Value.bool true from rv)
    refine ⟨rfl, OldK.of_keep ?_, h1, h2⟩
    intro b o eb
    rcases hO b with n | ⟨ob, xs, y⟩
    · exact un.keep b o eb n (List.not_mem_nil) (List.not_mem_nil)
    · have y1 := (e0.hok b _ y).1
      have y2 := (ok2 b _ (un.frzs b ob _ y)).1
      rw [eb] at y1
      rw [y2, y1]
theorem law_goes (KX : K.In s₁.heap) (NX : s₁.heap.Ns mainGlobals mg) (BX : s₁.heap.Ns builtinsNs mb) (bb : ∀ x : Str, x ≠ "__name__" → mb x = bootBuiltins x) (nol : s₁.heap.NoLimit) (gn : s₁.gens = #[])
    (ea : s₁.heap.get? a = some { cls := .type "list", data := .seq vs.toArray }) (hi : IntsAre vs ns) (hl : ns.length ≤ sizeLine) (hr : Room k callerA)
    (F : ∀ base : Heap, K.In base → base.Ns mainGlobals mg → FnG P w K mg base CX k fa fd [x] sp) (bd : ∀ (s : Shared) (u : Value), BindsTo s fd ⟨[u], []⟩ [(x, u)])
    (hsp : ∀ H : Hp, Only H → SqL K H a (ns.map V.int) → sp [.ref a] H (fun v _ => v = .bl true) fun _ _ _ => False) (hCX : ∀ H e s', CX [] H s₁ (fun _ _ _ => False) e s' → False) :
    codeAny (model P w) callerA (.call (.ref fa) ⟨[.ref a], []⟩) (fun r s' => r = .ok (.ret (.bool true)) ∧ OldK s₁.heap s'.heap ∧ s'.os = s₁.os ∧ AllBare s'.gens) s₁ := by
  have rv := vals_ints hi
  by_cases inK : ∃ o, K.lookup a = some o
  · obtain ⟨o, lo⟩ := inK
    have eo := (KX a o lo).symm.trans ea
    cases eo
    have ok0 : HOk P w (fun _ => none) s₁.heap := fun _ _ z => nomatch (show (none : Option HO) = some _ from z)
    have m0 : Mod K mg s₁.heap := ⟨KX, NX, ⟨mb, BX, bb⟩, nol⟩
    exact goes_from s₁.heap KX NX (F _ KX NX) hr ⟨rfl, m0, fun b o e => ⟨e, rfl⟩, Nat.le_refl _, trivial, fun b z => absurd z List.not_mem_nil, ok0, .of_eq gn⟩ bd (fun _ => .inl rfl)
      (hsp _ (fun _ => .inl rfl) (.inr ⟨_, vs.toArray, _, lo, rfl, rfl, rfl, by rw [List.size_toArray, hi.length]; exact hl, rv⟩)) hCX
  · -- the script is tracked, known to the object
    have noK : K.lookup a = none := by
      cases c : K.lookup a with
      | none => rfl
      | some o => exact absurd ⟨o, c⟩ inK
    let H : Hp := fun b => if b = a then some (.frz { cls := .type "list", data := .seq vs.toArray } (.lst (ns.map V.int))) else none
    have Ha : H a = some (.frz { cls := .type "list", data := .seq vs.toArray } (.lst (ns.map V.int))) := if_pos rfl
    have Hn : ∀ {b}, b ≠ a → H b = none := fun n => if_neg n
    have hO : Only H := fun b => by
      by_cases c : b = a
      · exact .inr ⟨_, _, c ▸ Ha⟩
      · exact .inl (Hn c)
    have ok1 : HOk P w H s₁.heap := fun b u z => by
      by_cases c : b = a
      · subst c
        rw [Ha] at z
        cases z
        exact ⟨ea, by rw [List.length_map]; exact hl, vs, _, rv, ea⟩
      · rw [Hn c] at z
        cases z
    have up : ∀ {b o}, s₁.heap.get? b = some o → b ≠ a → (hidT s₁.heap H).get? b = some o := fun e n => hidT_get e (Hn n)
    have na : ∀ {b o es ep}, s₁.heap.get? b = some o → o.data = .dict es ep → b ≠ a := fun {b o es ep} e d c => by
      subst c
      rw [ea] at e
      cases e
      cases (show Data.seq vs.toArray _ = Data.dict es ep from d)
    have upN : ∀ {b m}, s₁.heap.Ns b m → (hidT s₁.heap H).Ns b m := fun ⟨o, es, ep, e, d, r⟩ => ⟨o, es, ep, up e (na e d), d, r⟩
    have KB : K.In (hidT s₁.heap H) := fun b o e => up (KX b o e) fun c => by
      rw [c, noK] at e
      cases e
    obtain ⟨mc, c1, c2⟩ := nol
    have m1 : Mod K mg (hidT s₁.heap H) := ⟨KB, upN NX, ⟨mb, upN BX, bb⟩, ⟨mc, upN c1, c2⟩⟩
    exact goes_from _ KB (upN NX) (F _ KB (upN NX)) hr ⟨rfl, m1, fun b o e => of_hidT e, Nat.le_of_eq (hidT_size _ _), trivial, fun b z => absurd z List.not_mem_nil, ok1, .of_eq gn⟩ bd hO (hsp H hO (.inl (.inr ⟨_, Ha⟩))) hCX
end
theorem walk_g {l : PySem.W.OpenLaw} {n k : Nat} {q : Program} {loose : List Str} {XP : (Str → Option Value) → Heap → Prop} {YP : World → Heap → Prop} {d : DefRec} {K : Params → PySem.W.Frag} {sp : World → Sp} {x : Str}
    (hn : l.most = some n) (hn2 : n ≤ sizeLine) (df : d.params.defaults = []) (hr : Room k callerA) (hY : ∀ (w : World) (h : Heap), YP w h → (K w.params).In h)
    (F : ∀ (w : World) (mg : Str → Option Value) (fa : Addr) (h : Heap), (K w.params).In h → h.Ns mainGlobals mg → mg d.name = some (.ref fa) →
      ∃ fd : FuncData, (∀ (s : Shared) (u : Value), BindsTo s fd ⟨[u], []⟩ [(x, u)]) ∧ ∀ base : Heap, (K w.params).In base → base.Ns mainGlobals mg → FnG l.prog w (K w.params) mg base CX0 k fa fd [x] (sp w))
    (hsp : ∀ (w : World) (H : Hp) (a : Addr) (ns : List Int), ns.length ≤ n → Only H → SqL (K w.params) H a (ns.map V.int) → sp w [.ref a] H (fun v _ => v = .bl true) fun _ _ _ => False) :
    PySem.W.WalkO q loose XP YP l.row.toRowW d [] (fun f vs => PySem.call f vs) := by
  refine Att.attach_call hn df ?_
  intro w s₀ s₁ mg mb fa o pm cd doc a vs ns G Y ho hd hcd hmg hobj hints hlen hg
  obtain ⟨fd, bd, hF⟩ := F w mg fa _ (hY w _ Y) G.T.g hmg
  exact law_goes (hY w _ Y) G.T.g G.T.b G.T.builtins G.T.nolimit hg hobj hints (Nat.le_trans hlen hn2) hr hF bd (fun H hO hS => hsp w H a ns hlen hO hS) fun _ _ _ z => z
end NF

namespace NF
open PySem PySem.Spec PyProof.Rows L2 Evl
/-! ### a caught exception that a local keeps beyond the suite -/
/-- an exception object of the class cls, raised and caught -/
def ExT (cls : Value) (d : Option Addr) (a : Addr) : HO := .ext fun h => ∃ (oe : Obj) (vs : Array Value), h.get? a = some oe ∧ Zc cls d oe ∧ oe.data = .fields vs
theorem exT_ok {P : Program} {w : World} {H : Hp} {h : Heap} {a : Addr} {cls : Value} {d : Option Addr} {oe : Obj} {vs : Array Value} (e : h.get? a = some oe) (z : Zc cls d oe) (dt : oe.data = .fields vs) : ObjOk P w H h a (ExT cls d a) :=
  ⟨⟨oe, vs, e, z, dt⟩, ⟨oe, e⟩, fun _ _ ⟨o1, v1, e1, z1, d1⟩ k => ⟨o1, v1, k _ e1, z1, d1⟩⟩
section
variable {X : Cx} {pins : List (Addr × Obj)} {σ : L2.St} {H : Hp} {s : Shared}
theorem Inv.track {a : Addr} {cls : Value} {d : Option Addr} {oe : Obj} {vs : Array Value} (I : Inv X pins σ H s) (na : H a = none) (ea : s.heap.get? a = some oe) (z : Zc cls d oe) (dt : oe.data = .fields vs)
    (fr : X.s_0.heap.get? a = none) (np : ∀ p ∈ X.pn ++ pins, p.1 ≠ a) (nL : a ≠ X.env.locals) : Inv X pins σ (upd H a (ExT cls d a)) s where
  ok := I.ok
  os := I.os
  bare := I.bare
  base := {
    keep := I.base.keep
    slot := I.base.slot
    free := fun b o e n x => by
      have nb : b ≠ a := fun c => by
        rw [c, fr] at e
        cases e
      rw [upd_ne nb]
      exact I.base.free b o e n x
    there := I.base.there
    tups := fun b xs e => by
      have e2 := I.base.tups b xs e
      rw [upd_ne (ne_of_none e2 na)]
      exact e2
    frzs := fun b o u e => by
      have e2 := I.base.frzs b o u e
      rw [upd_ne (ne_of_none e2 na)]
      exact e2
    tbls := fun b ps e => by
      obtain ⟨m, e2⟩ := I.base.tbls b ps e
      refine ⟨m, ?_⟩
      rw [upd_ne (ne_of_none e2 na)]
      exact e2 }
  loc := I.loc
  cell := I.cell
  free := by
    rw [upd_ne nL.symm]
    exact I.free
  freeC := fun x c e => by
    have nc : c ≠ a := fun q => by
      subst q
      obtain ⟨v, o, e1, e2⟩ := I.cell x c e
      rw [ea] at e1
      cases e1
      rw [dt] at e2
      cases e2
    rw [upd_ne nc]
    exact I.freeC x c e
  pin := fun p hp => by
    obtain ⟨p1, p2, p3⟩ := I.pin p hp
    refine ⟨p1, ?_, p3⟩
    rw [upd_ne (np p hp)]
    exact p2
  hok := fun b u e => by
    by_cases c : b = a
    · subst c
      rw [upd_same] at e
      cases e
      exact exT_ok ea z dt
    · rw [upd_ne c] at e
      refine (I.hok b u e).stay (fun _ _ _ q => q) (fun c q => ?_) (fun c xs q => ?_)
      · rw [upd_ne (ne_of_none q na)]
        exact q
      · rw [upd_ne (ne_of_none q na)]
        exact q
  len := I.len
end
/-- what 'except x as n' wishes of an exception of the body: it is caught; behind the suite it is tracked -/
def wKeep (K : PySem.W.Frag) (c : Value) (i : Nat) (ts : Addr → TS) (D : Ends) : WX := fun cls d σ H =>
  PySem.W.exmOne K cls c = some true ∧ ∀ a, H a = none → ts a { nx := fun σ' G => D.nx (σ'.set i none) (upd G a (ExT cls d a)), rt := fun _ _ => False, bk := fun _ _ => False, ct := fun _ _ => False } (σ.set i (some (.ref a))) H
section
variable {X : Cx} {x n : Str} {c : Value} {i : Nat} {body suite : List Stmt} {b₀ : Stmt} {np pos pos' : Pos} {tb : WX → TS} {ts : Addr → TS}
theorem ps_try_keep (stk : X.stack = X.env :: X.outer) (frm : X.env.frame = some X.env.locals) (nex : X.ex = []) (nd : X.N.Nodup) (hi : X.N[i]? = some n) (kn : X.env.kindOf n = some .local) (nm : Names X x c)
    (hb : ∀ (W : WX) (pn : List (Addr × Obj)) (xe : Value → Shared → Prop), Takes (X.tr pn xe) W → PassesOwn (model X.prog X.w) X.A X.env xe → PSs (X.tr pn xe) body (tb W))
    (hs : ∀ (a : Addr) (oe : Obj) (pn : List (Addr × Obj)), PSs (X.suite a ((a, oe) :: pn)) (b₀ :: suite) (ts a)) :
    PS X (.Try body [.ExceptHandler (some (.Name x np)) (some n) (b₀ :: suite) pos'] [] [] pos) (fun D σ H => tb (wKeep X.K c i ts D) D σ H) := by
  constructor
  intro pins s σ H D I h
  have ok := I.ok
  have frs0 : X.A.frames = some (X.env :: X.outer) := by rw [ok.frames, stk]
  refine wpAny_Try_except (wpAny_mono ((hb (wKeep X.K c i ts D) (X.pn ++ pins) _ ?caught PassesOwn.looking).run [] s σ H D (I.toTry _) h) ?_ fun _ _ z => z)
  case caught =>
    rintro u s2 ⟨a, B, sI, pins', σ', G, cls, d, rfl, J0, nb, up, sky, na, os2, bare2, hm, go⟩
    have J := J0.ofTry (pins := pins) ok
    rw [stk] at sky
    show wpAny (model X.prog X.w) X.A (noteFrame (.ref a) X.env) _ _ _
    refine Sky.land Zc.steady frs0 frm sky ?_
    intro h3 fl3 up3
    have J3 : Inv X pins σ' G { s2 with heap := h3 } := J.landed nb fl3.1 (up.trans up3) os2 bare2
    obtain ⟨o3, v3, e3, z3, d3⟩ := fl3.there
    have apart_ : a ∉ frs (X.env :: X.outer) := fun m => by
      obtain ⟨_, o', e', nf⟩ := fl3.2.2.1.mem m
      rw [e3] at e'
      cases e'
      exact nf _ d3
    have nL : a ≠ X.env.locals := fun q => apart_ (List.mem_filterMap.mpr ⟨X.env, List.mem_cons_self, by rw [frm, q]⟩)
    have nF : a ∉ X.fs := fun m => (List.mem_filterMap.mp m).elim fun e z => apart_ (List.mem_filterMap.mpr ⟨e, List.mem_cons_of_mem _ z.1, z.2⟩)
    have aB : B.get? a = none := fl3.2.1
    have toB : ∀ b o, sI.heap.get? b = some o → b ≠ X.env.locals → b ∉ X.fs → b ≠ a := fun b o e l f q => by
      have := nb b o e (fun m => by
        rw [stk] at m
        rcases List.mem_filterMap.mp m with ⟨ev, hv, q2⟩
        rcases List.mem_cons.mp hv with r | r
        · rw [r, frm] at q2
          exact l (Option.some.inj q2).symm
        · exact f (List.mem_filterMap.mpr ⟨ev, r, q2⟩))
      rw [q, aB] at this
      cases this
    have npn : ∀ p ∈ X.pn ++ pins, p.1 ≠ a := fun p hp => by
      obtain ⟨p1, _, p3, p4, _⟩ := J.pin p hp
      exact toB p.1 p.2 p1 p3 p4
    have fr0 : X.s_0.heap.get? a = none := by
      cases q : X.s_0.heap.get? a with
      | none => rfl
      | some o =>
        obtain ⟨o', e'⟩ := J.base.there a o q (by rw [nex]; exact List.not_mem_nil)
        exact absurd rfl (toB a o' e' nL nF)
    have S3 := J3.suite e3 d3 na nL nF
    refine wpAny_handleBy_cons (codeAny_handlers_test ?_) nofun
    have lt : PySem.W.Looks (model X.prog X.w) h3 (typeOf (.ref a)) cls := fun A Q E s k q => wpAny_typeOf_ref (k _ _ e3) (by rw [z3.1]; exact q)
    have ask : ∀ {Q E : Value → Shared → Prop}, Q c { s2 with heap := h3 } → wpAny (model X.prog X.w) (X.A.mark (some (.ref a))) (eval (.Name x np) X.env) Q E { s2 with heap := h3 } := fun q => by
      obtain ⟨g1, g2, g3⟩ := nm
      rcases g3 with g3 | ⟨g3, g4, g5⟩
      · exact ld_glob (X := X.suite a ((a, o3) :: (X.pn ++ pins))) S3 g1 g3 q g2
      · exact ld_blt (X := X.suite a ((a, o3) :: (X.pn ++ pins))) S3 g1 g3 g4 q g5 g2
    refine ask ((PySem.W.exm_one (M := model X.prog X.w) J3.kIn lt hm).here (codeAny_handlers_suite_as (HandSPX.lands_againZ fl3 ?_)))
    intro h4 fl4 up4
    have J4 : Inv X pins σ' G { s2 with heap := h4 } := J.landed nb fl4.1 ((up.trans up3).trans up4) os2 bare2
    obtain ⟨o4, v4, e4, z4, d4⟩ := fl4.there
    refine store_ok (X := X.suite a ((a, o4) :: (X.pn ++ pins))) (v := .ref a) (J4.suite e4 d4 na nL nF) nd hi (.inl kn) rfl ?_ (.inr kn)
    intro s5 S5
    refine wpAny_mono ((hs a o4 (X.pn ++ pins)).run [] s5 _ G _ S5 (go a na)) ?_ fun _ _ q => q.elim
    intro f s6 w6
    match f, w6 with
    | .next, ⟨σ6, G6, S6, q6⟩ =>
      obtain ⟨a1, a2, _⟩ := S6.pin (a, o4) (List.mem_append_left _ List.mem_cons_self)
      exact gone_ok (Inv.track (S6.unsuite ok) a2 a1 z4 d4 fr0 npn nL) nd hi kn fun s7 J7 => ⟨_, _, J7, q6⟩
    | .brk, ⟨_, _, _, q6⟩ => exact q6.elim
    | .cont, ⟨_, _, _, q6⟩ => exact q6.elim
    | .ret u, ⟨_, _, _, _, _, q6⟩ => exact q6.elim
  · intro f s1 w1
    match f, w1 with
    | .next, ⟨σ1, H1, J1, q1⟩ => exact wpAny_execs_nil ⟨σ1, H1, J1.ofTry ok, q1⟩
    | .brk, ⟨σ1, H1, J1, q1⟩ => exact ⟨σ1, H1, J1.ofTry ok, q1⟩
    | .cont, ⟨σ1, H1, J1, q1⟩ => exact ⟨σ1, H1, J1.ofTry ok, q1⟩
    | .ret u, ⟨v1, σ1, H1, J1, r1, q1⟩ => exact ⟨v1, σ1, H1, J1.ofTry ok, r1, q1⟩
end
/-- isinstance(e, c) of an exception that is kept -/
def rIsX (K : PySem.W.Frag) : List V → Hp → VK → Prop := fun xs H Q => ∃ (a D : Addr) (c : V) (cv : Value) (b : Bool), xs = [.ref a, c] ∧ H a = some (ExT (.ref D) none a) ∧ ExcC K D ∧ (∀ u, RelV c u → u = cv) ∧ PySem.W.kitOne K (.ref D) cv = some b ∧ Q (.bl b) H
theorem call_isX {X : Cx} : CallR X (.builtin "isinstance") (rIsX X.K) := by
  intro pins s σ H xs us Q I r h
  obtain ⟨a, D, c, cv, b, rfl, hH, C, hcv, e, q⟩ := h
  obtain ⟨u1, u2, rfl, r1, r2⟩ := vals2 r
  cases (show u1 = Value.ref a from r1)
  cases hcv _ r2
  obtain ⟨⟨⟨oc, od, oda, osl⟩, vs, e1, ⟨z1, z2⟩, d1⟩, _⟩ := (show ObjOk X.prog X.w H s.heap a (ExT (.ref D) none a) from I.hok a _ hH)
  dsimp only at z1 z2 d1
  subst z1 z2 d1
  exact PySem.W.kia_one (PySem.W.handS_kitx_exc C.hg C.hk C.hs C.hd C.ha C.hn C.ht C.hm) I.kIn ⟨e1, rfl, rfl, trivial⟩ e (fun z => nomatch z) fun tk => ⟨.bl b, H, I.kept (t' := tk) fun _ _ z => z, rfl, q⟩
end NF

namespace NF
open PySem PySem.Spec PyProof.Rows L2 Evl
/-! ### [..].count(True) -/
theorem vals_bl : ∀ {bs : List Bool} {its : List Value}, Vals (bs.map V.bl) its → its = bs.map Value.bool
  | [], _, .nil => rfl
  | b :: bs, _, .cons r t => by
    have e : _ = Value.bool b := r
    rw [e, vals_bl t]
    rfl
def rCntB (K : PySem.W.Frag) : V → List V → Hp → VK → Prop := fun x xs H Q => ∃ (p : Addr) (bs : List Bool) (k : Bool), x = .ref p ∧ xs = [.bl k] ∧ SqL K H p (bs.map V.bl) ∧ Q (.int (bs.count k : Nat)) H
theorem mt_countB {X : Cx} : MtR X "list.count" (rCntB X.K) := by
  intro pins s σ H x xs v us Q I rx rxs h
  obtain ⟨p, bs, k, rfl, rfl, hs, q⟩ := h
  cases rx
  obtain ⟨u, rfl, ru⟩ := rxs.one
  cases (show u = Value.bool k from ru)
  obtain ⟨its, rv, ⟨⟨cls, dd, data, sl⟩, n, ho, hc, hdn, hd⟩, hlen⟩ := I.list hs
  simp only at hc hd
  subst hc hd
  have hi := vals_bl rv
  subst hi
  refine call_meets PySem.F.slot_list_count ⟨_, ho, rfl⟩ PySem.F.entry_list_count (PySem.F.args_list_count_2 _ _)
    (SeqAt.list_countAt p (bs.map Value.bool).toArray n dd sl (.bool k) (isBoolOf k)) ⟨ho, fun y hy => ?_, ?_⟩
  · have hy' : y ∈ bs.map Value.bool := by simpa using hy
    obtain ⟨b, _, rfl⟩ := List.mem_map.mp hy'
    exact SeqAt.EqAt.bool_bool b k
  · have ec : (bs.map Value.bool).toArray.toList.countP (isBoolOf k) = bs.count k := by
      show (bs.map Value.bool).countP (isBoolOf k) = bs.count k
      rw [List.countP_map, List.count]
      rfl
    refine ⟨.int (bs.count k : Nat), H, I.tok _, ⟨s.toks, ?_⟩, q⟩
    rw [ec]
/-! ### the law's state: a list of two ints and a truth -/
def Exs (st : Addr) (H H' : Hp) : Prop := ∀ b o, b ≠ st → H b = some o → H' b = some o
theorem Exs.refl (st : Addr) (H : Hp) : Exs st H H := fun _ _ _ h => h
theorem Exs.trans {st : Addr} {H H1 H2 : Hp} (a : Exs st H H1) (b : Exs st H1 H2) : Exs st H H2 := fun c o n h => b c o n (a c o n h)
theorem Exs.of {st : Addr} {H H1 : Hp} (e : Ex H H1) : Exs st H H1 := fun c o _ h => e c o h
theorem Exs.upd {st : Addr} {H : Hp} {o : HO} : Exs st H (upd H st o) := fun c u n h => by rw [upd_ne n]; exact h
def StA (st : Addr) (H : Hp) : Prop := ∃ (n m : Int) (c : Bool), H st = some (.lst [.int n, .int m, .bl c])
theorem StA.mono {st : Addr} {H H1 : Hp} (e : Ex H H1) (h : StA st H) : StA st H1 := by
  obtain ⟨n, m, c, h⟩ := h
  exact ⟨n, m, c, e _ _ h⟩
/-- what is no list of the state's stays -/
theorem Exs.lst {K : PySem.W.Frag} {st a : Addr} {H H1 : Hp} {xs : List V} (e : Exs st H H1) (n : a ≠ st) (h : SqL K H a xs) : SqL K H1 a xs := by
  rcases h with (h | ⟨o, h⟩) | h
  · exact .inl (.inl (e _ _ n h))
  · exact .inl (.inr ⟨o, e _ _ n h⟩)
  · exact .inr h
theorem Exs.tup {K : PySem.W.Frag} {st a : Addr} {H H1 : Hp} {xs : List V} (e : Exs st H H1) (hs : StA st H) (h : SqT K H a xs) : SqT K H1 a xs := by
  obtain ⟨n, m, c, hs⟩ := hs
  rcases h with (h | ⟨o, h⟩) | h
  · exact .inl (.inl (e _ _ (ne_of h hs (fun z => by cases z)) h))
  · exact .inl (.inr ⟨o, e _ _ (ne_of h hs (fun z => by cases z)) h⟩)
  · exact .inr h
theorem Rt.exs {K : PySem.W.Frag} {st : Addr} {H H1 : Hp} {v : V} {x : Rat} (r : Rt K H v x) (e : Exs st H H1) (hs : StA st H) : Rt K H1 v x := by
  obtain ⟨p, e1, h⟩ := r
  exact ⟨p, e1, e.tup hs h⟩
def spBegun (K : PySem.W.Frag) : Sp := fun vs H Q _ => ∃ (a : Addr) (ns : List Int) (k : Nat), vs = [.ref a, .int (k : Int)] ∧ SqL K H a (ns.map V.int) ∧ ns.length ≤ 1000 ∧ k ≤ 1000 ∧ ∀ st H', H st = none → Ex H H' → StA st H' → Q (.ref st) H'
def spTake : Sp := fun vs H Q _ => ∃ (st : Addr) (many : Int), vs = [.ref st, .int many] ∧ StA st H ∧ 0 < many ∧ many.natAbs < 2 ^ 8000 ∧ ∀ d H', 0 ≤ d → d < many → StA st H' → Exs st H H' → Q (.int d) H'
theorem take_call {st : Addr} {many : Int} {H : Hp} {Q : VK} {E : XK} (hs : StA st H) (h0 : 0 < many) (hm : many.natAbs < 2 ^ 8000) (q : ∀ d H', 0 ≤ d → d < many → StA st H' → Exs st H H' → Q (.int d) H') : spTake [.ref st, .int many] H Q E := ⟨st, many, rfl, hs, h0, hm, q⟩
theorem small_bits {i : Int} (h0 : 0 ≤ i) (h : i ≤ 10 ^ 2000) : i.natAbs < 2 ^ 8000 := by
  have e : (10 : Int) ^ 2000 < 2 ^ 8000 := by decide +kernel
  have e2 : ((2 ^ 8000 : Nat) : Int) = (2 : Int) ^ 8000 := by decide +kernel
  omega
end NF

namespace NF
open PySem PySem.Spec PyProof.Rows L2 Evl
/-! ### repr of data -/
def Fine (d : PyData) : Prop := d.showable = true ∧ d.hasDict = false ∧ d.depth ≤ 20 ∧ d.shown.length ≤ sizeLine
def rRep (K : PySem.W.Frag) : List V → Hp → VK → Prop := fun xs H Q => ∃ (x : V) (d : PyData), xs = [x] ∧ Dp K H x d ∧ Fine d ∧ Q (.str d.shown) H
theorem call_rep {X : Cx} (gd : X.A.guards = some []) (hu : X.A.units + 64 < cLine) : CallR X (.builtin "repr") (rRep X.K) := by
  intro pins s σ H xs us Q I r h
  obtain ⟨x, d, rfl, hd, ⟨f1, f2, f3, f4⟩, q⟩ := h
  obtain ⟨u, rfl, ru⟩ := vals1 r
  obtain ⟨as, rd⟩ := Dp.reads I d x u hd ru
  cases rd with
  | none => exact PySem.P.repr_of_none ⟨.str _, H, I.tok _, ⟨_, rfl⟩, q⟩
  | bool b => exact PySem.P.repr_of_bool ⟨.str _, H, I.tok _, ⟨_, rfl⟩, q⟩
  | int i t => exact PySem.P.repr_of_int (by simpa only [PyData.showable, decide_eq_true_eq] using f1) ⟨.str _, H, I.tok _, ⟨_, rfl⟩, q⟩
  | str y t => exact PySem.P.repr_of_str ⟨.str _, H, I.tok _, ⟨_, rfl⟩, q⟩ f4
  | list a1 a2 a3 a4 => exact repr_of_reads' (.list a1 a2 a3 a4) f1 (fun z => by rw [f2] at z; cases z) gd (by omega) (fun _ _ z => z) (fun h' t tk hk => ⟨.str _, H, I.kept hk, ⟨t, rfl⟩, q⟩) f4
  | tuple a1 a2 a3 a4 => exact repr_of_reads' (.tuple a1 a2 a3 a4) f1 (fun z => by rw [f2] at z; cases z) gd (by omega) (fun _ _ z => z) (fun h' t tk hk => ⟨.str _, H, I.kept hk, ⟨t, rfl⟩, q⟩) f4
  | dict a1 a2 a3 a4 a5 => cases hd
/-! ### data that is fine to show -/
def FineN (n : Nat) (d : PyData) : Prop := d.showable = true ∧ d.hasDict = false ∧ d.leavesShort 2000 = true ∧ d.weight ≤ n
theorem fine_of {n : Nat} {d : PyData} (h : FineN n d) (hn : n ≤ 4000) (hd : d.depth ≤ 20) : Fine d := by
  obtain ⟨h1, h2, h3, h4⟩ := h
  refine ⟨h1, h2, hd, ?_⟩
  have h5 := PyData.shown_le 2000 (by decide) d h3
  have h6 : (2000 + 2) * d.weight ≤ 2002 * 4000 := Nat.mul_le_mul_left _ (by omega)
  have h7 : 2002 * 4000 + 2000 ≤ sizeLine := by decide
  omega
theorem fineI {i : Int} (h : i.natAbs < 2 ^ 1900) : FineN 1900 (.int i) := by
  have hl : i.natAbs.log2 < 1900 := PySem.Flt.log2_lt_of (by decide) h
  refine ⟨?_, rfl, ?_, ?_⟩
  · simp only [PyData.showable, decide_eq_true_eq]
    omega
  · simp only [PyData.leavesShort, decide_eq_true_eq]
    show (Str.ofString (toString i)).length ≤ 2000
    have h1 := int_text_length_le (a := i) (k := 1900) (by decide) hl
    rw [PySem.ofString_length]
    omega
  · simp only [PyData.weight]
    split <;> omega
def fd (x : Rat) : PyData := .tuple [.int x.num, .int x.den]
/-- the bits of a fraction as shown -/
theorem weightI {i : Int} {B : Nat} (h : i.natAbs < 2 ^ B) (h0 : 0 < B) : PyData.weight (.int i) ≤ B := by
  have hl : i.natAbs.log2 < B := PySem.Flt.log2_lt_of h0 h
  simp only [PyData.weight]
  split <;> omega
theorem fineF {B : Nat} {x : Rat} (h : Sz B x) (h0 : 0 < B) (hB : B ≤ 1900) : FineN (2 * B + 2) (fd x) := by
  obtain ⟨a1, a2, a3, _⟩ := fineI (bits_up h.num hB)
  obtain ⟨b1, b2, b3, _⟩ := fineI (bits_up h.den hB)
  have a4 := weightI h.num h0
  have b4 := weightI h.den h0
  refine ⟨?_, ?_, ?_, ?_⟩
  · simp only [fd, PyData.showable, PyData.showableAll] at *
    simp only [a1, b1]
    rfl
  · rfl
  · simp only [fd, PyData.leavesShort, PyData.leavesShortAll] at *
    simp only [a3, b3]
    rfl
  · simp only [fd, PyData.weight, PyData.weightAll] at *
    omega
theorem fineL {B : Nat} (h0 : 0 < B) (hB : B ≤ 1900) : ∀ {xs : List Rat}, (∀ x ∈ xs, Sz B x) → FineN (xs.length * (2 * B + 3)) (.list (xs.map fd)) ∧ (PyData.list (xs.map fd)).depth ≤ 2
  | [], _ => ⟨⟨rfl, rfl, rfl, Nat.zero_le _⟩, by show 1 ≤ 2; decide⟩
  | x :: xs, h => by
    obtain ⟨⟨a1, a2, a3, a4⟩, a5⟩ := fineL h0 hB (xs := xs) fun y hy => h y (List.mem_cons_of_mem _ hy)
    obtain ⟨b1, b2, b3, b4⟩ := fineF (h x (List.mem_cons_self ..)) h0 hB
    simp only [PyData.showable, PyData.hasDict, PyData.leavesShort, PyData.weight, PyData.depth, List.map_cons, PyData.showableAll, PyData.hasDictAll, PyData.leavesShortAll, PyData.weightAll, PyData.depthAll, FineN] at *
    refine ⟨⟨by rw [a1, b1]; rfl, by rw [a2, b2]; rfl, by rw [a3, b3]; rfl, ?_⟩, ?_⟩
    · rw [List.length_cons, Nat.succ_mul]
      omega
    · have : (fd x).depth ≤ 1 := by show 1 ≤ 1; decide
      omega
theorem fine_rt {B : Nat} {x : Rat} (h : Sz B x) (h0 : 0 < B) (hB : B ≤ 1900) : Fine (fd x) := fine_of (fineF h h0 hB) (by omega) (by show 1 ≤ 20; decide)
theorem fine_rts {B : Nat} {xs : List Rat} (h : ∀ x ∈ xs, Sz B x) (h0 : 0 < B) (hB : B ≤ 1900) (hn : xs.length * (2 * B + 3) ≤ 4000) : Fine (.list (xs.map fd)) := by
  obtain ⟨a, b⟩ := fineL h0 hB h
  exact fine_of a hn (by omega)
theorem fine_bl (b : Bool) : Fine (.bool b) := by cases b <;> exact ⟨rfl, rfl, by decide, by decide +kernel⟩
/-! ### what repr evaluates to -/
section
variable {K : PySem.W.Frag} {H H1 H2 : Hp} {σ : L2.St} {ta tb te tl : TE} {x y z : Rat} {v w u : V} {B : Nat} {E : XK}
theorem dp_rts : ∀ {us : List V} {xs : List Rat}, RtAll K H us xs → DpAll K H us (xs.map fd)
  | _, _, .nil => .nil
  | _, _, .cons h t => .cons (dp_rt h) (dp_rts t)
theorem ev_repF (h : EvF K ta σ H x) (sx : Sz B x) (h0 : 0 < B) (hB : B ≤ 1900) : Ev (tCB (rRep K) (tCons ta tNil)) σ H (.str (fd x).shown) := fun H1 e Q q =>
  h H1 e _ fun v H2 e2 r => ⟨v, fd x, rfl, dp_rt r, fine_rt sx h0 hB, q H2 e2⟩
theorem ev_repL {a : Addr} {us : List V} {xs : List Rat} (h : Ev ta σ H (.ref a)) (ha : SqL K H a us) (hx : RtAll K H us xs) (hf : Fine (.list (xs.map fd))) : Ev (tCB (rRep K) (tCons ta tNil)) σ H (.str (PyData.list (xs.map fd)).shown) := fun H1 e Q q =>
  h H1 e _ fun H2 e2 => ⟨_, _, rfl, .lst (ex_l (e.trans e2) ha) (dp_rts (hx.mono (e.trans e2))), hf, q H2 e2⟩
theorem ev_repB {b : Bool} (h : Ev ta σ H (.bl b)) : Ev (tCB (rRep K) (tCons ta tNil)) σ H (.str (PyData.bool b).shown) := fun H1 e Q q =>
  h H1 e _ fun H2 e2 => ⟨_, .bool b, rfl, .bl b, fine_bl b, q H2 e2⟩
/-- fractions made one after another, then a list of them -/
def EvFs (K : PySem.W.Frag) (tA : TA) (σ : L2.St) (H : Hp) (xs : List Rat) : Prop := ∀ H1, Ex H H1 → ∀ Q : List V → Hp → Prop, (∀ vs H2, Ex H1 H2 → RtAll K H2 vs xs → Q vs H2) → tA σ H1 Q
theorem efs_nil : EvFs K tNil σ H [] := fun H1 _ Q q => q [] H1 (Ex.refl H1) .nil
theorem efs_cons {tA : TA} {xs : List Rat} (h : EvF K ta σ H x) (hr : EvFs K tA σ H xs) : EvFs K (tCons ta tA) σ H (x :: xs) := fun H1 e Q q =>
  h H1 e _ fun v H2 e2 r => hr H2 (e.trans e2) _ fun vs H3 e3 rs => q (v :: vs) H3 (e2.trans e3) (.cons (r.mono e3) rs)
/-- such a list -/
def EvR (K : PySem.W.Frag) (te : TE) (σ : L2.St) (H : Hp) (xs : List Rat) : Prop := ∀ H1, Ex H H1 → ∀ Q : VK, (∀ p us H2, H1 p = none → Ex H1 H2 → H2 p = some (.lst us) → RtAll K H2 us xs → Q (.ref p) H2) → te σ H1 Q
theorem er_lst {tA : TA} {xs : List Rat} (h : EvFs K tA σ H xs) (hl : xs.length ≤ 100000) : EvR K (tLst tA) σ H xs := fun H1 e Q q =>
  h H1 e _ fun vs H2 e2 r => ⟨sz_of (by rw [r.length]; exact hl), fun p hp => q p vs _ (fresh_back e2 hp) (e2.trans (Ex.new hp)) upd_same (r.mono (Ex.new hp))⟩
end
/-! ### f(k = v, ..) -/
structure CaK (P : Program) (w : World) (K : PySem.W.Frag) (mg : Str → Option Value) (base : Heap) (k : Nat) (x : Str) (ps ks : List Str) (g : {α : Type} → List α → List α) (sp : Sp) : Prop where
  ex : ∃ (f : Addr) (fd : FuncData), FnG P w K mg base CX0 k f fd ps sp ∧ mg x = some (.ref f) ∧ PySem.W.keepIn K (.ref f) = true ∧ (∀ (s : Shared) (ws : List Value), K.In s.heap → ws.length = ks.length → BindsTo s fd ⟨[], ks.zip ws⟩ (ps.zip (g ws)))
  rel : ∀ {vs : List V} {us : List Value}, Vals vs us → Vals (g vs) (g us)
def tCallW (n : Nat) (sp : Sp) (g : {α : Type} → List α → List α) (E : XK) (tk : TA) : TE := fun σ H Q => tk σ H fun zs H2 => zs.length = n ∧ sp (g zs) H2 Q E
theorem pe_caK {X : Cx} {j k : Nat} {x : Str} {ps ks : List Str} {g : {α : Type} → List α → List α} {sp : Sp} {p pos : Pos} {kws : List Keyword} {tk : TA} (C : CaK X.prog X.w X.K X.mg X.base k x ps ks g sp) (gd : X.A.guards = some []) (hr : Room j X.A) (hk : k ≤ j) (gl : Gl X x) (hkw : PK X kws tk)
    (hall : (backToKw pos (keywordEach kws X.env)).all (·.1.isSome) = true := by rfl) (hks : (backToKw pos (keywordEach kws X.env)).filterMap (·.1) = ks := by rfl) (db : (x == ("__debug__" : Str)) = false := by decide)
    (pl : ((backTo pos (starEach [] X.env)).any (·.1) || (backToKw pos (keywordEach kws X.env)).any (·.1.isNone)) = false := by rfl) : PE X (.Call (.Name x p) [] kws pos) (tCallW ks.length sp g E0 tk) := by
  obtain ⟨f, fd, F, hm, kp, b⟩ := C.ex
  constructor
  intro pins s σ H Q I h
  refine wpAny_Call_Name_kw (ld_glob I gl hm (PySem.W.callWith_KW0 (h₀ := X.base) I.ok.mod.kin kp hall (thn (hkw.run pos pins s σ H _ I h) ?_) pl) db)
  rintro ws s1 ⟨zs, G, J, r, hl, q⟩
  refine ⟨J.kIn, ?_⟩
  rw [hks]
  refine wpAny_call (codeAny_mono (F.goes X.A X.stack s1 G ⟨[], ks.zip ws⟩ _ _ Q E0 gd (hr.mono hk) J.env0 (b s1 ws J.kIn (r.length.symm.trans hl)) (C.rel r) q) ?_)
  intro r2 s2 z
  match r2, z with
  | .error y, z => exact z.elim
  | .ok (.ret u), z => exact J.after z
end NF

/-! the kind of the laws' bags: two ints and a truth -/
namespace WL
open PySem L2
def Bk (vs : List V) : Prop := ∃ (g m : Int) (c : Bool), vs = [.int g, .int m, .bl c]
end WL

namespace WL
open PySem PySem.Spec PyProof.Rows L2 Evl NF
/-! ### predicates that stay where the heap grows; worlds: what is settled (r) within what stands (h) -/
structure MP where
  p : Hp → V → Prop
  mono : ∀ {H H' : Hp} {v : V}, Ex H H' → p H v → p H' v
structure Wd where
  r : Hp
  h : Hp
/-- no tuple: what may change -/
def nt : HO → Bool
  | .tup _ => false
  | .frz _ (.tup _) => false
  | _ => true
def Ow (W : Wd) (p : Addr) : Prop := (∃ o, W.h p = some o ∧ nt o = true) ∧ W.r p = none
structure Le (M : Addr → Prop) (W W2 : Wd) : Prop where
  r : Ex W.r W2.r
  h : ∀ p o, ¬ M p → W.h p = some o → W2.h p = some o
  w : ∀ p, Ow W p → Ow W2 p
theorem Le.refl {M : Addr → Prop} (W : Wd) : Le M W W := ⟨Ex.refl _, fun _ _ _ h => h, fun _ h => h⟩
theorem Le.trans {M : Addr → Prop} {W W1 W2 : Wd} (a : Le M W W1) (b : Le M W1 W2) : Le M W W2 := ⟨a.r.trans b.r, fun p o n h => b.h p o n (a.h p o n h), fun p h => b.w p (a.w p h)⟩
theorem Le.more {M N : Addr → Prop} {W W2 : Wd} (a : Le M W W2) (s : ∀ p, M p → N p) : Le N W W2 := ⟨a.r, fun p o n h => a.h p o (fun z => n (s p z)) h, a.w⟩
def Bg (H : Hp) (p : Addr) : Prop := ∃ (vs : List V) (_ : Bk vs), H p = some (.lst vs)
inductive Al (H : Hp) : List V → List MP → Prop
  | nil : Al H [] []
  | cons {v : V} {vs : List V} {P : MP} {Ps : List MP} : P.p H v → Al H vs Ps → Al H (v :: vs) (P :: Ps)
theorem Al.mono {H H' : Hp} (e : Ex H H') : ∀ {vs : List V} {Ps : List MP}, Al H vs Ps → Al H' vs Ps
  | _, _, .nil => .nil
  | _, _, .cons h t => .cons (MP.mono _ e h) (Al.mono e t)
theorem Al.length {H : Hp} : ∀ {vs : List V} {Ps : List MP}, Al H vs Ps → vs.length = Ps.length
  | _, _, .nil => rfl
  | _, _, .cons _ t => congrArg Nat.succ (Al.length t)
theorem Al.get {H : Hp} : ∀ {vs : List V} {Ps : List MP} {i : Nat} {P : MP}, Al H vs Ps → Ps[i]? = some P → ∃ v, vs[i]? = some v ∧ P.p H v
  | _, _, _, _, .nil, e => by simp at e
  | _, _, 0, _, .cons h _, e => by
    have e' := Option.some.inj e
    subst e'
    exact ⟨_, rfl, h⟩
  | _, _, i + 1, _, .cons _ t, e => Al.get (i := i) t e
theorem Al.getV {H : Hp} : ∀ {vs : List V} {Ps : List MP} {i : Nat} {v : V}, Al H vs Ps → vs[i]? = some v → ∃ P, Ps[i]? = some P ∧ P.p H v
  | _, _, _, _, .nil, e => by simp at e
  | _, _, 0, _, .cons h _, e => by
    have e' := Option.some.inj e
    subst e'
    exact ⟨_, rfl, h⟩
  | _, _, i + 1, _, .cons _ t, e => Al.getV (i := i) t e
theorem Al.app {H : Hp} : ∀ {vs ws : List V} {Ps Qs : List MP}, Al H vs Ps → Al H ws Qs → Al H (vs ++ ws) (Ps ++ Qs)
  | _, _, _, _, .nil, r => r
  | _, _, _, _, .cons h t, r => .cons h (Al.app t r)
theorem Al.one {H : Hp} {v : V} {P : MP} (h : P.p H v) : Al H [v] [P] := .cons h .nil
theorem Al.set {H : Hp} {v : V} {P : MP} (h : P.p H v) : ∀ {vs : List V} {Ps : List MP} (i : Nat), Al H vs Ps → Al H (vs.set i v) (Ps.set i P)
  | _, _, _, .nil => .nil
  | _, _, 0, .cons _ t => .cons h t
  | _, _, i + 1, .cons g t => .cons g (Al.set h i t)
theorem Al.drop {H : Hp} : ∀ {vs : List V} {Ps : List MP} (n : Nat), Al H vs Ps → Al H (vs.drop n) (Ps.drop n)
  | _, _, 0, h => h
  | _, _, n + 1, .nil => .nil
  | _, _, n + 1, .cons _ t => Al.drop n t
theorem Al.take {H : Hp} : ∀ {vs : List V} {Ps : List MP} (n : Nat), Al H vs Ps → Al H (vs.take n) (Ps.take n)
  | _, _, 0, h => .nil
  | _, _, n + 1, .nil => .nil
  | _, _, n + 1, .cons h t => .cons h (Al.take n t)
theorem Al.erase {H : Hp} : ∀ {vs : List V} {Ps : List MP} (n : Nat), Al H vs Ps → Al H (vs.eraseIdx n) (Ps.eraseIdx n)
  | _, _, _, .nil => .nil
  | _, _, 0, .cons _ t => t
  | _, _, n + 1, .cons h t => .cons h (Al.erase n t)
theorem Al.rev {H : Hp} : ∀ {vs : List V} {Ps : List MP}, Al H vs Ps → Al H vs.reverse Ps.reverse
  | _, _, .nil => .nil
  | _, _, .cons h t => by
    rw [List.reverse_cons, List.reverse_cons]
    exact (Al.rev t).app (Al.one h)
/-! ### what a slot, an argument, an answer is -/
inductive Sl where
  | un
  | val (P : MP)
  | own (Ps : List MP)
  | mat (Pss : List (List MP))
  | bag
/-- rows that are own, by their places -/
inductive Rw (H0 : Hp) (W : Wd) : List Addr → List (List MP) → Prop
  | nil : Rw H0 W [] []
  | cons {p : Addr} {vs : List V} {Ps : List MP} {ps : List Addr} {Pss : List (List MP)} : W.h p = some (.lst vs) → W.r p = none → H0 p = none → Al W.r vs Ps → Rw H0 W ps Pss → Rw H0 W (p :: ps) (Ps :: Pss)
theorem Rw.get {H0 : Hp} {W : Wd} : ∀ {ps : List Addr} {Pss : List (List MP)} {i : Nat} {p : Addr}, Rw H0 W ps Pss → ps[i]? = some p → ∃ vs Ps, Pss[i]? = some Ps ∧ W.h p = some (.lst vs) ∧ W.r p = none ∧ H0 p = none ∧ Al W.r vs Ps
  | _, _, _, _, .nil, e => by simp at e
  | _, _, 0, _, .cons h1 h2 h3 h4 _, e => by
    have e' := Option.some.inj e
    subst e'
    exact ⟨_, _, rfl, h1, h2, h3, h4⟩
  | _, _, i + 1, _, .cons _ _ _ _ t, e => Rw.get (i := i) t e
theorem Rw.len {H0 : Hp} {W : Wd} : ∀ {ps : List Addr} {Pss : List (List MP)}, Rw H0 W ps Pss → ps.length = Pss.length
  | _, _, .nil => rfl
  | _, _, .cons _ _ _ _ t => congrArg Nat.succ (Rw.len t)
theorem Rw.mono {H0 : Hp} {W W2 : Wd} (er : Ex W.r W2.r) : ∀ {ps : List Addr} {Pss : List (List MP)}, Rw H0 W ps Pss → (∀ p ∈ ps, ∀ o, W.h p = some o → W2.h p = some o) → (∀ p ∈ ps, W.r p = none → W2.r p = none) → Rw H0 W2 ps Pss
  | _, _, .nil, _, _ => .nil
  | _, _, .cons h1 h2 h3 h4 t, a, b => .cons (a _ (List.mem_cons_self ..) _ h1) (b _ (List.mem_cons_self ..) h2) h3 (h4.mono er) (Rw.mono er t (fun p hp => a p (List.mem_cons_of_mem _ hp)) fun p hp => b p (List.mem_cons_of_mem _ hp))
theorem Rw.mem {H0 : Hp} {W : Wd} {ps : List Addr} {Pss : List (List MP)} {p : Addr} (h : Rw H0 W ps Pss) (hp : p ∈ ps) : ∃ vs Ps, Ps ∈ Pss ∧ W.h p = some (.lst vs) ∧ W.r p = none ∧ H0 p = none ∧ Al W.r vs Ps := by
  obtain ⟨i, hi⟩ := List.mem_iff_getElem?.mp hp
  obtain ⟨vs, Ps, h1, h2⟩ := h.get hi
  exact ⟨vs, Ps, List.mem_of_getElem? h1, h2⟩
def SlOk (W0 : Wd) (M : Addr → Prop) (W : Wd) (u : Option V) : Sl → Prop
  | .un => True
  | .val P => ∃ v, u = some v ∧ P.p W.r v
  | .own Ps => ∃ p vs, u = some (.ref p) ∧ W.h p = some (.lst vs) ∧ W.r p = none ∧ W0.h p = none ∧ Al W.r vs Ps
  | .mat Pss => ∃ (p : Addr) (ps : List Addr), u = some (.ref p) ∧ W.r p = some (.lst (ps.map V.ref)) ∧ ps.Nodup ∧ Rw W0.h W ps Pss
  | .bag => ∃ p, u = some (.ref p) ∧ Bg W.h p ∧ W.r p = none ∧ (W0.h p = none ∨ M p)
/-- the places that a slot may change -/
def ft (R : Hp) (u : Option V) : Sl → Addr → Prop
  | .own _ => fun a => u = some (.ref a)
  | .bag => fun a => u = some (.ref a)
  | .mat _ => fun a => ∃ (p : Addr) (ps : List Addr), u = some (.ref p) ∧ R p = some (.lst (ps.map V.ref)) ∧ a ∈ ps
  | _ => fun _ => False
def Sl.ow : Sl → Bool
  | .own _ => true
  | .mat _ => true
  | .bag => true
  | _ => false
theorem ft_ow {R : Hp} {u : Option V} {s : Sl} {a : Addr} (h : ft R u s a) : s.ow = true := by
  cases s with
  | un => exact h.elim
  | val P => exact h.elim
  | own Ps => rfl
  | mat Pss => rfl
  | bag => rfl
theorem ft_up {R R2 : Hp} {u : Option V} {s : Sl} {a : Addr} (e : Ex R R2) (h : ft R u s a) : ft R2 u s a := by
  cases s with
  | un => exact h
  | val P => exact h
  | own Ps => exact h
  | bag => exact h
  | mat Pss =>
    obtain ⟨p, ps, h1, h2, h3⟩ := h
    exact ⟨p, ps, h1, e _ _ h2, h3⟩
theorem map_ref_inj : ∀ {ps qs : List Addr}, ps.map V.ref = qs.map V.ref → ps = qs
  | [], [], _ => rfl
  | [], _ :: _, h => by cases h
  | _ :: _, [], h => by cases h
  | p :: ps, q :: qs, h => by
    have h1 := List.cons.inj h
    have h2 : p = q := V.ref.inj h1.1
    rw [h2, map_ref_inj h1.2]
structure En (W0 : Wd) (M : Addr → Prop) (W : Wd) (σ : L2.St) (ρ : List Sl) : Prop where
  sub : Ex W.r W.h
  le : Le M W0 W
  old : ∀ p, M p → Bg W0.h p
  bags : ∀ p, M p → Bg W.h p
  len : σ.length = ρ.length
  ok : ∀ (i : Nat) s, ρ[i]? = some s → ∃ u, σ[i]? = some u ∧ SlOk W0 M W u s
  ne : ∀ (i j : Nat) s t u w a, i ≠ j → ρ[i]? = some s → ρ[j]? = some t → σ[i]? = some u → σ[j]? = some w → ft W.r u s a → ¬ ft W.r w t a
def Bags (σ : L2.St) (ρ : List Sl) (p : Addr) : Prop := ∃ i : Nat, ρ[i]? = some .bag ∧ σ[i]? = some (some (.ref p))
/-- a step of an expression: bags may turn, all else stands -/
structure Go (σ : L2.St) (ρ : List Sl) (W W2 : Wd) : Prop where
  sub : Ex W2.r W2.h
  le : Le (Bags σ ρ) W W2
  bg : ∀ p, Bags σ ρ p → Bg W2.h p
theorem Go.trans {σ : L2.St} {ρ : List Sl} {W W1 W2 : Wd} (a : Go σ ρ W W1) (b : Go σ ρ W1 W2) : Go σ ρ W W2 := ⟨b.sub, a.le.trans b.le, b.bg⟩
section
variable {W0 W W1 W2 W3 : Wd} {M : Addr → Prop} {σ : L2.St} {ρ : List Sl} {i : Nat}
theorem En.bag (e : En W0 M W σ ρ) {p : Addr} (h : Bags σ ρ p) : Bg W.h p ∧ W.r p = none ∧ (W0.h p = none ∨ M p) := by
  obtain ⟨i, h1, h2⟩ := h
  obtain ⟨u, e1, q, e2, r⟩ := e.ok i _ h1
  rw [h2] at e1
  cases e1
  cases e2
  exact r
theorem En.go (e : En W0 M W σ ρ) (g : Go σ ρ W W2) : En W0 M W2 σ ρ := by
  have st : ∀ p o, ¬ M p → W0.h p = some o → W2.h p = some o := fun p o n h => g.le.h p o (fun b => (e.bag b).2.2.elim (fun z => by rw [z] at h; cases h) n) (e.le.h p o n h)
  have dn : ∀ {i : Nat} {s : Sl} {u : Option V} {a : Addr}, ρ[i]? = some s → σ[i]? = some u → ft W2.r u s a → ft W.r u s a := fun {i s u a} hs hu h => by
    cases s with
    | un => exact h
    | val P => exact h
    | own Ps => exact h
    | bag => exact h
    | mat Pss =>
      obtain ⟨p, ps, h1, h2, h3⟩ := h
      obtain ⟨u', hu', p', ps', e1, k1, _⟩ := e.ok i _ hs
      rw [hu] at hu'
      cases hu'
      rw [h1] at e1
      cases e1
      have := g.le.r _ _ k1
      rw [h2] at this
      have := map_ref_inj (HO.lst.inj (Option.some.inj this))
      subst this
      exact ⟨p, ps, h1, k1, h3⟩
  refine ⟨g.sub, ⟨e.le.r.trans g.le.r, st, fun p h => g.le.w p (e.le.w p h)⟩, e.old, fun p m => ?_, e.len, fun i s hs => ?_, fun i j s t u w a n h1 h2 k1 k2 f1 f2 => e.ne i j s t u w a n h1 h2 k1 k2 (dn h1 k1 f1) (dn h2 k2 f2)⟩
  · by_cases b : Bags σ ρ p
    · exact g.bg p b
    · obtain ⟨x, y, h⟩ := e.bags p m
      exact ⟨x, y, g.le.h _ _ b h⟩
  · obtain ⟨u, h1, h2⟩ := e.ok i s hs
    refine ⟨u, h1, ?_⟩
    cases s with
    | un => trivial
    | val P =>
      obtain ⟨v, rfl, h⟩ := h2
      exact ⟨v, rfl, P.mono g.le.r h⟩
    | own Ps =>
      obtain ⟨p, vs, rfl, h3, h4, h5, h6⟩ := h2
      refine ⟨p, vs, rfl, g.le.h _ _ (fun b => ?_) h3, (g.le.w p ⟨⟨_, h3, rfl⟩, h4⟩).2, h5, h6.mono g.le.r⟩
      obtain ⟨j, j1, j2⟩ := b
      by_cases c : i = j
      · subst c
        rw [hs] at j1
        cases j1
      · exact e.ne i j _ _ _ _ _ c hs j1 h1 j2 (show some (V.ref p) = some (V.ref p) from rfl) rfl
    | mat Pss =>
      obtain ⟨p, ps, rfl, h3, h4, h5⟩ := h2
      refine ⟨p, ps, rfl, g.le.r _ _ h3, h4, h5.mono g.le.r (fun q hq o ho => g.le.h _ _ (fun b => ?_) ho) fun q hq hr => ?_⟩
      · obtain ⟨j, j1, j2⟩ := b
        by_cases c : i = j
        · subst c
          rw [hs] at j1
          cases j1
        · exact e.ne i j _ _ _ _ _ c hs j1 h1 j2 (show ft W.r (some (V.ref p)) (.mat Pss) q from ⟨p, ps, rfl, h3, hq⟩) rfl
      · obtain ⟨vs, Ps, _, k1, _⟩ := h5.mem hq
        exact (g.le.w q ⟨⟨_, k1, rfl⟩, hr⟩).2
    | bag =>
      obtain ⟨p, rfl, h3, h4, h5⟩ := h2
      obtain ⟨_, _, h3'⟩ := id h3
      exact ⟨p, rfl, g.bg p ⟨i, hs, h1⟩, (g.le.w p ⟨⟨_, h3', rfl⟩, h4⟩).2, h5⟩
theorem En.id (e : En W0 M W σ ρ) : Go σ ρ W W := ⟨e.sub, Le.refl W, fun p b => (e.bag b).1⟩
end
/-! ### answers -/
def ROk (W W2 : Wd) (v : V) : Sl → Prop
  | .val P => P.p W2.r v
  | .own Ps => ∃ p vs, v = .ref p ∧ W2.h p = some (.lst vs) ∧ W2.r p = none ∧ W.h p = none ∧ Al W2.r vs Ps
  | .mat Pss => ∃ (p : Addr) (ps : List Addr), v = .ref p ∧ W2.r p = some (.lst (ps.map V.ref)) ∧ W.h p = none ∧ ps.Nodup ∧ Rw W.h W2 ps Pss
  | _ => False
def E (ρ : List Sl) (te : TE) (Ψ : Sl → Prop) : Prop := ∀ W0 M W σ, En W0 M W σ ρ → ∀ Q : VK, (∀ s v W2, Go σ ρ W W2 → ROk W W2 v s → Ψ s → Q v W2.h) → te σ W.h Q
def T (ρ : List Sl) (tt : TT) (Ψ : Bool → Prop) : Prop := ∀ W0 M W σ, En W0 M W σ ρ → ∀ Q : Bool → Hp → Prop, (∀ b W2, Go σ ρ W W2 → Ψ b → Q b W2.h) → tt σ W.h Q
def D (ρ : List Sl) (te : TE) (P : MP) : Prop := ∀ W0 M W σ, En W0 M W σ ρ → ∀ Q : VK, (∀ v W2, Go σ ρ W W2 → P.p W2.r v → Q v W2.h) → te σ W.h Q
section
variable {K : PySem.W.Frag} {W0 W W1 W2 W3 : Wd} {M : Addr → Prop} {σ : L2.St} {ρ : List Sl} {i j : Nat} {P P1 P2 P3 : MP} {Ps Qs : List MP} {ta tb tc te : TE} {tt t1 t2 : TT} {Ψ : Sl → Prop} {Φ : Bool → Prop} {v w u : V} {b b1 b2 : Bool} {r r1 r2 : R2}
def sc (v : V) : MP := ⟨fun _ u => u = v, fun _ h => h⟩
def lst (K : PySem.W.Frag) (Ps : List MP) : MP := ⟨fun H v => ∃ p vs, v = .ref p ∧ SqL K H p vs ∧ Al H vs Ps, fun e h => by
  obtain ⟨p, vs, h1, h2, h3⟩ := h
  exact ⟨p, vs, h1, ex_l e h2, h3.mono e⟩⟩
def tup (K : PySem.W.Frag) (Ps : List MP) : MP := ⟨fun H v => ∃ p vs, v = .ref p ∧ SqT K H p vs ∧ Al H vs Ps, fun e h => by
  obtain ⟨p, vs, h1, h2, h3⟩ := h
  exact ⟨p, vs, h1, ex_t e h2, h3.mono e⟩⟩
def rat (K : PySem.W.Frag) (x : Rat) : MP := ⟨fun H v => Rt K H v x, fun e h => h.mono e⟩
theorem E.of (h : D ρ te P) (q : Ψ (.val P)) : E ρ te Ψ := fun W0 M W σ e Q k => h W0 M W σ e Q fun v W2 g r => k (.val P) v W2 g r q
theorem E.mono {Ψ2 : Sl → Prop} (h : E ρ te Ψ) (q : ∀ s, Ψ s → Ψ2 s) : E ρ te Ψ2 := fun W0 M W σ e Q k => h W0 M W σ e Q fun s v W2 g r z => k s v W2 g r (q s z)
theorem T.mono {Φ2 : Bool → Prop} (h : T ρ tt Φ) (q : ∀ s, Φ s → Φ2 s) : T ρ tt Φ2 := fun W0 M W σ e Q k => h W0 M W σ e Q fun s W2 g z => k s W2 g (q s z)
theorem d_var (h : ρ[i]? = some (.val P)) : D ρ (tVar i) P := fun W0 M W σ e Q k => by
  obtain ⟨u, h1, v, rfl, h2⟩ := e.ok i _ h
  exact ⟨v, h1, k v W e.id h2⟩
theorem d_c : D ρ (tC v) (sc v) := fun W0 M W σ e Q k => k v W e.id rfl
/-- a written object -/
theorem d_k (h : ∀ H, P.p H v) : D ρ (tC v) P := fun W0 M W σ e Q k => k v W e.id (h _)
theorem D.is (h : D ρ te P) (e : P = P2) : D ρ te P2 := e ▸ h
theorem D.imp (h : D ρ te P) (q : ∀ H v, P.p H v → P2.p H v) : D ρ te P2 := fun W0 M W σ e Q k => h W0 M W σ e Q fun v W2 g r => k v W2 g (q _ _ r)
/-- an operation that reads -/
def OpV (r : R2) (P Q T : MP) : Prop := ∀ (R H : Hp) x y, Ex R H → P.p R x → Q.p R y → ∀ C : VK, (∀ v, T.p R v → C v H) → r x y H C
theorem d_op (ha : D ρ ta P1) (hb : D ρ tb P2) (hr : OpV r P1 P2 P3) : D ρ (tOp r ta tb) P3 := fun W0 M W σ e Q k =>
  ha W0 M W σ e _ fun x W1 g1 px => hb W0 M W1 σ (e.go g1) _ fun y W2 g2 py => hr W2.r W2.h x y g2.sub (P1.mono g2.le.r px) py _ fun v pv => k v W2 (g1.trans g2) pv
theorem e_op (h : E ρ ta fun s => ∃ P1, s = .val P1 ∧ E ρ tb fun t => ∃ P2 P3, t = .val P2 ∧ OpV r P1 P2 P3 ∧ Ψ (.val P3)) : E ρ (tOp r ta tb) Ψ := fun W0 M W σ e Q k => h W0 M W σ e _ fun s x W1 g1 px q => by
  obtain ⟨P1, rfl, h2⟩ := q
  refine h2 W0 M W1 σ (e.go g1) _ fun t y W2 g2 py q => ?_
  obtain ⟨P2, P3, rfl, hr, hq⟩ := q
  exact hr W2.r W2.h x y g2.sub (P1.mono g2.le.r px) py _ fun v pv => k (.val P3) v W2 (g1.trans g2) pv hq
theorem ov_v (h : ∀ H (C : VK), C w H → r u v H C) : OpV r (sc u) (sc v) (sc w) := fun R H x y _ px py C k => by
  cases px
  cases py
  exact h H C (k w rfl)
theorem ov_i0 {g : Int → Int → V} {a b : Int} : OpV (rI0 g) (sc (.int a)) (sc (.int b)) (sc (g a b)) := ov_v fun H C c => ⟨a, b, rfl, rfl, c⟩
theorem ov_i {C : Int → Int → Prop} {g : Int → Int → V} {a b : Int} (hc : C a b) : OpV (rI C g) (sc (.int a)) (sc (.int b)) (sc (g a b)) := ov_v fun H _ c => ⟨a, b, rfl, rfl, hc, c⟩
theorem ov_eqv (h : scal u v = true) : OpV rEq (sc u) (sc v) (sc (.bl (decide (u = v)))) := ov_v fun H C c => ⟨h, c⟩
theorem ov_nev (h : scal u v = true) : OpV rNe (sc u) (sc v) (sc (.bl (!decide (u = v)))) := ov_v fun H C c => ⟨h, c⟩
theorem ov_r0 {x : Rat} : OpV (rIxT K) (rat K x) (sc (.int 0)) (sc (.int x.num)) := fun R H a c s px py C k => by
  cases py
  obtain ⟨p, rfl, hs⟩ := px
  exact ⟨p, _, 0, _, rfl, rfl, ex_t s hs, atI_nat (j := 0) rfl, k _ rfl⟩
theorem ov_r1 {x : Rat} : OpV (rIxT K) (rat K x) (sc (.int 1)) (sc (.int x.den)) := fun R H a c s px py C k => by
  cases py
  obtain ⟨p, rfl, hs⟩ := px
  exact ⟨p, _, 1, _, rfl, rfl, ex_t s hs, atI_nat (j := 1) rfl, k _ rfl⟩
theorem ov_ixL {n : Nat} (h : Ps[n]? = some P) : OpV (rIxL K) (lst K Ps) (sc (.int (n : Int))) P := fun R H a c s px py C k => by
  cases py
  obtain ⟨p, vs, rfl, hs, ha⟩ := px
  obtain ⟨v, hv, pv⟩ := ha.get h
  exact ⟨p, _, n, v, rfl, rfl, ex_l s hs, atI_nat hv, k _ pv⟩
theorem ov_ixT {n : Nat} (h : Ps[n]? = some P) : OpV (rIxT K) (tup K Ps) (sc (.int (n : Int))) P := fun R H a c s px py C k => by
  cases py
  obtain ⟨p, vs, rfl, hs, ha⟩ := px
  obtain ⟨v, hv, pv⟩ := ha.get h
  exact ⟨p, _, n, v, rfl, rfl, ex_t s hs, atI_nat hv, k _ pv⟩
theorem ov_eqR {x y : Rat} : OpV (rEqD K) (rat K x) (rat K y) (sc (.bl (decide (x = y)))) := fun R H a c s px py C k =>
  ⟨_, _, dp_rt (Rt.mono px s), dp_rt (Rt.mono py s), rfl, rfl, by rw [eqv_rt]; exact k _ rfl⟩
theorem ov_neR {x y : Rat} : OpV (rNeD K) (rat K x) (rat K y) (sc (.bl (!decide (x = y)))) := fun R H a c s px py C k =>
  ⟨_, _, dp_rt (Rt.mono px s), dp_rt (Rt.mono py s), rfl, rfl, by rw [eqv_rt]; exact k _ rfl⟩
/-- an own list that is read where it stands -/
theorem own_at {n : Nat} (h : ρ[i]? = some (.own Ps)) (hb : D ρ tb (sc (.int (n : Int)))) (hn : Ps[n]? = some P) : D ρ (tOp (rIxL K) (tVar i) tb) P := fun W0 M W σ e Q k => by
  obtain ⟨u, h1, p, vs, rfl, _⟩ := e.ok i _ h
  refine ⟨_, h1, hb W0 M W σ e _ fun y W2 g py => ?_⟩
  cases py
  obtain ⟨u, h1', p', vs', e1, h3, h4, h5, h6⟩ := (e.go g).ok i _ h
  rw [h1] at h1'
  cases h1'
  cases e1
  obtain ⟨v, hv, pv⟩ := h6.get hn
  exact ⟨p, _, n, v, rfl, rfl, SqL.of h3, atI_nat hv, k v W2 g pv⟩
theorem d_un {r : V → Hp → VK → Prop} (ha : D ρ ta (sc u)) (hr : ∀ H (C : VK), C v H → r u H C) : D ρ (tUn r ta) (sc v) := fun W0 M W σ e Q k =>
  ha W0 M W σ e _ fun x W1 g1 px => by
    cases px
    exact hr _ _ (k v W1 g1 rfl)
/-! ### tests -/
theorem T.of (h : D ρ te (sc (.bl b))) (q : Φ b) : T ρ (tTest te) Φ := fun W0 M W σ e Q k => h W0 M W σ e _ fun v W2 g r => by
  cases r
  exact ⟨b, rfl, k b W2 g q⟩
theorem T.ofB (h : D ρ te (sc (.bl b))) (q : Φ b) : T ρ (tB te) Φ := T.of h q
theorem t_test (h : E ρ te fun s => ∃ b, s = .val (sc (.bl b)) ∧ Φ b) : T ρ (tTest te) Φ := fun W0 M W σ e Q k => h W0 M W σ e _ fun s v W2 g r q => by
  obtain ⟨b, rfl, hq⟩ := q
  cases r
  exact ⟨b, rfl, k b W2 g hq⟩
theorem t_B (h : E ρ te fun s => ∃ b, s = .val (sc (.bl b)) ∧ Φ b) : T ρ (tB te) Φ := t_test h
theorem t_and (h : T ρ t1 fun b => if b = true then T ρ t2 Φ else Φ false) : T ρ (tAnd t1 t2) Φ := fun W0 M W σ e Q k => h W0 M W σ e _ fun b W2 g q => by
  cases b with
  | true => exact q W0 M W2 σ (e.go g) _ fun c W3 g2 z => k c W3 (g.trans g2) z
  | false => exact k false W2 g q
theorem t_or (h : T ρ t1 fun b => if b = true then Φ true else T ρ t2 Φ) : T ρ (tOr t1 t2) Φ := fun W0 M W σ e Q k => h W0 M W σ e _ fun b W2 g q => by
  cases b with
  | false => exact q W0 M W2 σ (e.go g) _ fun c W3 g2 z => k c W3 (g.trans g2) z
  | true => exact k true W2 g q
theorem t_not (h : T ρ t1 fun b => Φ (!b)) : T ρ (tNot t1) Φ := fun W0 M W σ e Q k => h W0 M W σ e _ fun b W2 g q => k (!b) W2 g q
theorem t_yes (q : Φ true) : T ρ tYes Φ := fun W0 M W σ e Q k => k true W e.id q
theorem d_and (ha : D ρ ta (sc (.bl b1))) (hb : b1 = true → D ρ tb (sc (.bl b2))) : D ρ (tAndV ta tb) (sc (.bl (b1 && b2))) := fun W0 M W σ e Q k => ha W0 M W σ e _ fun v W1 g1 r => by
  cases r
  refine ⟨b1, rfl, ?_⟩
  cases b1 with
  | true => exact hb rfl W0 M W1 σ (e.go g1) _ fun v W2 g2 r => k v W2 (g1.trans g2) r
  | false => exact k _ W1 g1 rfl
theorem d_or (ha : D ρ ta (sc (.bl b1))) (hb : b1 = false → D ρ tb (sc (.bl b2))) : D ρ (tOrV ta tb) (sc (.bl (b1 || b2))) := fun W0 M W σ e Q k => ha W0 M W σ e _ fun v W1 g1 r => by
  cases r
  refine ⟨b1, rfl, ?_⟩
  cases b1 with
  | false => exact hb rfl W0 M W1 σ (e.go g1) _ fun v W2 g2 r => k v W2 (g1.trans g2) r
  | true => exact k _ W1 g1 rfl
theorem d_not (ha : D ρ ta (sc (.bl b))) : D ρ (tNotV ta) (sc (.bl (!b))) := fun W0 M W σ e Q k => ha W0 M W σ e _ fun v W1 g1 r => by
  cases r
  exact ⟨b, rfl, k _ W1 g1 rfl⟩
theorem e_if (h : T ρ tt fun b => if b = true then E ρ ta Ψ else E ρ tb Ψ) : E ρ (tIf tt ta tb) Ψ := fun W0 M W σ e Q k => h W0 M W σ e _ fun b W1 g1 q => by
  have up : ∀ {s v W2}, Go σ ρ W1 W2 → ROk W1 W2 v s → ROk W W2 v s := fun {s v W2} g2 r => by
    cases s with
    | val P => exact r
    | own Ps =>
      obtain ⟨p, vs, h1, h2, h3, h4, h5⟩ := r
      refine ⟨p, vs, h1, h2, h3, ?_, h5⟩
      cases c : W.h p with
      | none => rfl
      | some o =>
        by_cases bb : Bags σ ρ p
        · obtain ⟨_, _, z⟩ := g1.bg p bb
          rw [h4] at z
          cases z
        · have := g1.le.h p o bb c
          rw [h4] at this
          cases this
    | mat Pss =>
      have nn : ∀ {p}, W1.h p = none → W.h p = none := fun {p} h4 => by
        cases c : W.h p with
        | none => rfl
        | some o =>
          by_cases bb : Bags σ ρ p
          · obtain ⟨_, _, z⟩ := g1.bg p bb
            rw [h4] at z
            cases z
          · have := g1.le.h p o bb c
            rw [h4] at this
            cases this
      obtain ⟨p, ps, h1, h2, h3, h4, h5⟩ := r
      refine ⟨p, ps, h1, h2, nn h3, h4, ?_⟩
      clear h2 h4
      induction h5 with
      | nil => exact .nil
      | cons k1 k2 k3 k4 _ ih => exact .cons k1 k2 (nn k3) k4 ih
    | un => exact r
    | bag => exact r
  cases b with
  | true => exact q W0 M W1 σ (e.go g1) _ fun s v W2 g2 r z => k s v W2 (g1.trans g2) (up g2 r) z
  | false => exact q W0 M W1 σ (e.go g1) _ fun s v W2 g2 r z => k s v W2 (g1.trans g2) (up g2 r) z
theorem d_if (h : T ρ tt fun b => if b = true then D ρ ta P else D ρ tb P) : D ρ (tIf tt ta tb) P := fun W0 M W σ e Q k => h W0 M W σ e _ fun b W1 g1 q => by
  cases b with
  | true => exact q W0 M W1 σ (e.go g1) _ fun v W2 g2 r => k v W2 (g1.trans g2) r
  | false => exact q W0 M W1 σ (e.go g1) _ fun v W2 g2 r => k v W2 (g1.trans g2) r
theorem d_chain (ha : D ρ ta P1) (hb : D ρ tb P2) (hr : OpV r1 P1 P2 (sc (.bl b1))) (hc : b1 = true → ∃ P3, D ρ tc P3 ∧ OpV r2 P2 P3 (sc (.bl b2))) : D ρ (tChain r1 r2 ta tb tc) (sc (.bl (b1 && b2))) := fun W0 M W σ e Q k =>
  ha W0 M W σ e _ fun x W1 g1 px => hb W0 M W1 σ (e.go g1) _ fun y W2 g2 py => hr W2.r W2.h x y g2.sub (P1.mono g2.le.r px) py _ fun v pv => by
    cases pv
    refine ⟨b1, rfl, ?_⟩
    cases b1 with
    | false => exact k _ W2 (g1.trans g2) rfl
    | true =>
      obtain ⟨P3, hc, hr2⟩ := hc rfl
      exact hc W0 M W2 σ ((e.go g1).go g2) _ fun z W3 g3 pz => hr2 W3.r W3.h y z g3.sub (P2.mono g3.le.r py) pz _ fun v pv => k v W3 ((g1.trans g2).trans g3) pv
end
end WL

namespace WL
open PySem PySem.Spec PyProof.Rows L2 Evl NF
/-! ### what is made on the way is settled -/
inductive Set (K : PySem.W.Frag) : Sl → MP → Prop
  | val {P : MP} : Set K (.val P) P
  | own {Ps : List MP} : Set K (.own Ps) (lst K Ps)
  | mat {Pss : List (List MP)} : Set K (.mat Pss) (lst K (Pss.map (lst K)))
/-- settled with the rows at ps -/
def Rin (R H : Hp) (ps : List Addr) : Hp := fun a => if a ∈ ps then H a else R a
theorem rin_ex {R H : Hp} {ps : List Addr} (h : ∀ p ∈ ps, R p = none) : Ex R (Rin R H ps) := fun a o ha => by
  unfold Rin
  rw [if_neg fun c => ?_]
  · exact ha
  · rw [h a c] at ha
    cases ha
theorem rin_sub {R H : Hp} {ps : List Addr} (s : Ex R H) : Ex (Rin R H ps) H := fun a o ha => by
  unfold Rin at ha
  split at ha
  · exact ha
  · exact s _ _ ha
theorem rin_rows {K : PySem.W.Frag} {H0 : Hp} {W : Wd} {qs : List Addr} (hq : ∀ p ∈ qs, W.r p = none) : ∀ {ps : List Addr} {Pss : List (List MP)}, Rw H0 W ps Pss → (∀ p ∈ ps, p ∈ qs) → Al (Rin W.r W.h qs) (ps.map V.ref) (Pss.map (lst K))
  | _, _, .nil, _ => .nil
  | _, _, .cons (p := p) h1 h2 h3 h4 t, m => .cons ⟨_, _, rfl, SqL.of (by unfold Rin; rw [if_pos (m _ (List.mem_cons_self ..))]; exact h1), h4.mono (rin_ex hq)⟩ (rin_rows hq t fun p hp => m p (List.mem_cons_of_mem _ hp))
section
variable {K : PySem.W.Frag} {W0 W W1 W2 W3 : Wd} {M : Addr → Prop} {σ : L2.St} {ρ : List Sl} {i j : Nat} {P P1 P2 P3 : MP} {Ps Qs : List MP} {ta tb tc te : TE} {tt t1 t2 : TT} {Ψ : Sl → Prop} {Φ : Bool → Prop} {v w u : V} {b b1 b2 : Bool} {r r1 r2 : R2} {s : Sl}
theorem settle (e : En W0 M W σ ρ) (g : Go σ ρ W W2) (h : ROk W W2 v s) (q : Set K s P) : ∃ W3, W3.h = W2.h ∧ Ex W2.r W3.r ∧ Go σ ρ W W3 ∧ P.p W3.r v := by
  cases q with
  | val => exact ⟨W2, rfl, Ex.refl _, g, h⟩
  | own =>
    obtain ⟨p, vs, rfl, h1, h2, h3, h4⟩ := h
    have ex : Ex W2.r (upd W2.r p (.lst vs)) := Ex.new h2
    refine ⟨⟨upd W2.r p (.lst vs), W2.h⟩, rfl, ex, ⟨fun a o (ha : upd W2.r p (.lst vs) a = some o) => ?_, ⟨g.le.r.trans ex, g.le.h, fun q hq => ?_⟩, g.bg⟩, p, vs, rfl, SqL.of upd_same, h4.mono ex⟩
    · by_cases c : a = p
      · subst c
        rw [upd_same] at ha
        cases ha
        exact h1
      · rw [upd_ne c] at ha
        exact g.sub _ _ ha
    · have c : q ≠ p := fun z => by
        obtain ⟨⟨xs, hx, _⟩, _⟩ := hq
        rw [z, h3] at hx
        cases hx
      exact ⟨(g.le.w q hq).1, by show upd W2.r p _ q = none; rw [upd_ne c]; exact (g.le.w q hq).2⟩
  | mat =>
    obtain ⟨p, ps, rfl, h1, h2, h3, h4⟩ := h
    have hr : ∀ q ∈ ps, W2.r q = none := fun q hq => by
      obtain ⟨_, _, _, _, k2, _⟩ := h4.mem hq
      exact k2
    have ex : Ex W2.r (Rin W2.r W2.h ps) := rin_ex hr
    refine ⟨⟨Rin W2.r W2.h ps, W2.h⟩, rfl, ex, ⟨rin_sub g.sub, ⟨g.le.r.trans ex, g.le.h, fun q hq => ?_⟩, g.bg⟩, p, _, rfl, SqL.of (ex _ _ h1), rin_rows hr h4 fun _ z => z⟩
    have c : q ∉ ps := fun z => by
      obtain ⟨_, _, _, _, _, k3, _⟩ := h4.mem z
      obtain ⟨⟨o, ho, _⟩, _⟩ := hq
      rw [k3] at ho
      cases ho
    exact ⟨(g.le.w q hq).1, by show Rin W2.r W2.h ps q = none; unfold Rin; rw [if_neg c]; exact (g.le.w q hq).2⟩
theorem ROk.back (e : En W0 M W σ ρ) (g : Go σ ρ W W1) (r : ROk W1 W2 v s) : ROk W W2 v s := by
  cases s with
  | val P => exact r
  | own Ps =>
    obtain ⟨p, vs, h1, h2, h3, h4, h5⟩ := r
    refine ⟨p, vs, h1, h2, h3, ?_, h5⟩
    cases c : W.h p with
    | none => rfl
    | some o =>
      by_cases bb : Bags σ ρ p
      · obtain ⟨_, _, z⟩ := g.bg p bb
        rw [h4] at z
        cases z
      · have := g.le.h p o bb c
        rw [h4] at this
        cases this
  | mat Pss =>
    have nn : ∀ {p}, W1.h p = none → W.h p = none := fun {p} h4 => by
      cases c : W.h p with
      | none => rfl
      | some o =>
        by_cases bb : Bags σ ρ p
        · obtain ⟨_, _, z⟩ := g.bg p bb
          rw [h4] at z
          cases z
        · have := g.le.h p o bb c
          rw [h4] at this
          cases this
    obtain ⟨p, ps, h1, h2, h3, h4, h5⟩ := r
    refine ⟨p, ps, h1, h2, nn h3, h4, ?_⟩
    clear h2 h4
    induction h5 with
    | nil => exact .nil
    | cons k1 k2 k3 k4 _ ih => exact .cons k1 k2 (nn k3) k4 ih
  | un => exact r
  | bag => exact r
theorem D.of (h : E ρ te fun s => Set K s P) : D ρ te P := fun W0 M W σ e Q k => h W0 M W σ e _ fun s v W2 g r q => by
  obtain ⟨W3, e1, _, g3, p3⟩ := settle e g r q
  rw [← e1]
  exact k v W3 g3 p3
/-! ### arguments -/
def AOk (σ : L2.St) (ρ : List Sl) (W : Wd) (v : V) : Sl → Prop
  | .val P => P.p W.r v
  | .bag => ∃ i : Nat, ρ[i]? = some .bag ∧ σ[i]? = some (some v)
  | _ => False
inductive AOks (σ : L2.St) (ρ : List Sl) (W : Wd) : List V → List Sl → Prop
  | nil : AOks σ ρ W [] []
  | cons {v : V} {s : Sl} {vs : List V} {ss : List Sl} : AOk σ ρ W v s → AOks σ ρ W vs ss → AOks σ ρ W (v :: vs) (s :: ss)
theorem AOk.mono (e : Ex W.r W2.r) (h : AOk σ ρ W v s) : AOk σ ρ W2 v s := by
  cases s with
  | val P => exact P.mono e h
  | bag => exact h
  | un => exact h
  | own _ => exact h
  | mat _ => exact h
def EA (ρ : List Sl) (ta : TA) (Φ : List Sl → Prop) : Prop := ∀ W0 M W σ, En W0 M W σ ρ → ∀ Q : List V → Hp → Prop, (∀ ss vs W2, Go σ ρ W W2 → AOks σ ρ W2 vs ss → Φ ss → Q vs W2.h) → ta σ W.h Q
def DA (ρ : List Sl) (ta : TA) (Ps : List MP) : Prop := ∀ W0 M W σ, En W0 M W σ ρ → ∀ Q : List V → Hp → Prop, (∀ vs W2, Go σ ρ W W2 → Al W2.r vs Ps → Q vs W2.h) → ta σ W.h Q
variable {tA tr : TA} {ΦA : List Sl → Prop}
theorem da_nil : DA ρ tNil [] := fun W0 M W σ e Q k => k [] W e.id .nil
theorem da_cons (h : D ρ ta P) (t : DA ρ tr Ps) : DA ρ (tCons ta tr) (P :: Ps) := fun W0 M W σ e Q k => h W0 M W σ e _ fun v W1 g1 p => t W0 M W1 σ (e.go g1) _ fun vs W2 g2 ps => k _ W2 (g1.trans g2) (.cons (P.mono g2.le.r p) ps)
theorem ea_nil (q : ΦA []) : EA ρ tNil ΦA := fun W0 M W σ e Q k => k [] [] W e.id .nil q
theorem ea_cons (h : E ρ ta fun s => ∃ P, Set K s P ∧ EA ρ tr fun ss => ΦA (.val P :: ss)) : EA ρ (tCons ta tr) ΦA := fun W0 M W σ e Q k => h W0 M W σ e _ fun s v W1 g1 r q => by
  obtain ⟨P, hs, q⟩ := q
  obtain ⟨W3, e1, _, g3, p3⟩ := settle e g1 r hs
  show tr σ W1.h _
  rw [← e1]
  exact q W0 M W3 σ (e.go g3) _ fun ss vs W2 g2 as q => k _ _ W2 (g3.trans g2) (.cons (s := .val P) (P.mono g2.le.r p3) as) q
theorem ea_d (h : D ρ ta P) (q : EA ρ tr fun ss => ΦA (.val P :: ss)) : EA ρ (tCons ta tr) ΦA := fun W0 M W σ e Q k => h W0 M W σ e _ fun v W1 g1 p =>
  q W0 M W1 σ (e.go g1) _ fun ss vs W2 g2 as q => k _ _ W2 (g1.trans g2) (.cons (s := .val P) (P.mono g2.le.r p) as) q
theorem ea_bag (h : ρ[i]? = some .bag) (q : EA ρ tr fun ss => ΦA (.bag :: ss)) : EA ρ (tCons (tVar i) tr) ΦA := fun W0 M W σ e Q k => by
  obtain ⟨u, h1, p, rfl, _⟩ := e.ok i _ h
  exact ⟨_, h1, q W0 M W σ e _ fun ss vs W2 g2 as q => k _ _ W2 g2 (.cons (s := .bag) ⟨i, h, h1⟩ as) q⟩
theorem EA.of (h : DA ρ tA Ps) (q : ΦA (Ps.map .val)) : EA ρ tA ΦA := fun W0 M W σ e Q k => h W0 M W σ e _ fun vs W2 g a => by
  refine k (Ps.map .val) vs W2 g ?_ q
  clear q k h
  induction a with
  | nil => exact .nil
  | cons p _ ih => exact .cons p ih
/-! ### builtin calls that read -/
def CbV (r : List V → Hp → VK → Prop) (Ps : List MP) (T : MP) : Prop := ∀ (R H : Hp) vs, Ex R H → Al R vs Ps → ∀ C : VK, (∀ v, T.p R v → C v H) → r vs H C
theorem d_cb {r : List V → Hp → VK → Prop} (ha : DA ρ tA Ps) (hr : CbV r Ps P) : D ρ (tCB r tA) P := fun W0 M W σ e Q k => ha W0 M W σ e _ fun vs W2 g a => hr W2.r W2.h vs g.sub a _ fun v p => k v W2 g p
theorem Al.inv1 {H : Hp} {vs : List V} (h : Al H vs [P]) : ∃ v, vs = [v] ∧ P.p H v := by
  cases h with
  | cons p t =>
    cases t
    exact ⟨_, rfl, p⟩
theorem Al.inv2 {H : Hp} {vs : List V} (h : Al H vs [P, P2]) : ∃ v w, vs = [v, w] ∧ P.p H v ∧ P2.p H w := by
  cases h with
  | cons p t =>
    obtain ⟨w, rfl, q⟩ := t.inv1
    exact ⟨_, w, rfl, p, q⟩
theorem cb_len : CbV (rLenS K) [lst K Ps] (sc (.int (Ps.length : Int))) := fun R H vs s a C k => by
  obtain ⟨v, rfl, p, ws, rfl, h1, h2⟩ := a.inv1
  exact ⟨p, ws, rfl, .inl (ex_l s h1), by rw [h2.length]; exact k _ rfl⟩
theorem cb_lenT : CbV (rLenS K) [tup K Ps] (sc (.int (Ps.length : Int))) := fun R H vs s a C k => by
  obtain ⟨v, rfl, p, ws, rfl, h1, h2⟩ := a.inv1
  exact ⟨p, ws, rfl, .inr (ex_t s h1), by rw [h2.length]; exact k _ rfl⟩
theorem cb_v {r : List V → Hp → VK → Prop} (h : ∀ H (C : VK), C w H → r [v] H C) : CbV r [sc v] (sc w) := fun R H vs s a C k => by
  obtain ⟨x, rfl, e⟩ := a.inv1
  cases e
  exact h H C (k w rfl)
theorem cb_v2 {r : List V → Hp → VK → Prop} (h : ∀ H (C : VK), C w H → r [v, u] H C) : CbV r [sc v, sc u] (sc w) := fun R H vs s a C k => by
  obtain ⟨x, y, rfl, e, e2⟩ := a.inv2
  cases e
  cases e2
  exact h H C (k w rfl)
theorem own_len (h : ρ[i]? = some (.own Ps)) : D ρ (tCB (rLenS K) (tCons (tVar i) tNil)) (sc (.int (Ps.length : Int))) := fun W0 M W σ e Q k => by
  obtain ⟨u, h1, p, vs, rfl, h3, h4, h5, h6⟩ := e.ok i _ h
  exact ⟨_, h1, p, vs, rfl, .inl (SqL.of h3), by rw [h6.length]; exact k _ W e.id rfl⟩
/-! ### tuples, lists made -/
theorem d_tup (h : DA ρ tA Ps) (hl : Nat.ble Ps.length 100000 = true := by rfl) : D ρ (tTup tA) (tup K Ps) := fun W0 M W σ e Q k => h W0 M W σ e _ fun vs W2 g a => by
  refine ⟨sz_of (by rw [a.length]; exact Nat.le_of_ble_eq_true hl), fun p hp => ?_⟩
  have rp : W2.r p = none := by
    cases c : W2.r p with
    | none => rfl
    | some o => rw [g.sub _ _ c] at hp; cases hp
  have ex : Ex W2.r (upd W2.r p (.tup vs)) := Ex.new rp
  refine k _ ⟨upd W2.r p (.tup vs), upd W2.h p (.tup vs)⟩ ⟨fun q o hq => ?_, ⟨g.le.r.trans ex, fun q o n hq => Ex.new hp _ _ (g.le.h q o n hq), fun q hq => ?_⟩, fun q b => ?_⟩ ⟨p, vs, rfl, SqT.of upd_same, a.mono ex⟩
  · by_cases c : q = p
    · subst c
      rw [show (⟨upd W2.r q (.tup vs), upd W2.h q (.tup vs)⟩ : Wd).r q = some (.tup vs) from upd_same] at hq
      cases hq
      exact upd_same
    · show upd W2.h p _ q = _
      rw [upd_ne c]
      have hq' : upd W2.r p (.tup vs) q = some o := hq
      rw [upd_ne c] at hq'
      exact g.sub _ _ hq'
  · obtain ⟨⟨xs, h1, hnt⟩, h2⟩ := g.le.w q hq
    have c : q ≠ p := fun z => by rw [z, hp] at h1; cases h1
    exact ⟨⟨xs, by show upd W2.h p _ q = _; rw [upd_ne c]; exact h1, hnt⟩, by show upd W2.r p _ q = _; rw [upd_ne c]; exact h2⟩
  · obtain ⟨x, y, h1⟩ := g.bg q b
    exact ⟨x, y, Ex.new hp _ _ h1⟩
theorem tup_rat {n d : Int} {x : Rat} (en : n = x.num) (ed : d = x.den) (H : Hp) (v : V) (h : (tup K [sc (.int n), sc (.int d)]).p H v) : (rat K x).p H v := by
  obtain ⟨p, vs, rfl, hs, ha⟩ := h
  obtain ⟨a, b, rfl, e1, e2⟩ := ha.inv2
  cases e1
  cases e2
  subst en ed
  exact ⟨p, rfl, hs⟩
/-- a new list, from where the heap stands -/
theorem e_new (e : En W0 M W σ ρ) (g : Go σ ρ W W2) {p : Addr} {vs : List V} (hp : W2.h p = none) (a : Al W2.r vs Ps) : ∃ W3, W3.h = upd W2.h p (.lst vs) ∧ W3.r = W2.r ∧ Go σ ρ W W3 ∧ ROk W W3 (.ref p) (.own Ps) := by
  have rp : W2.r p = none := by
    cases c : W2.r p with
    | none => rfl
    | some o => rw [g.sub _ _ c] at hp; cases hp
  have wp : W.h p = none := by
    cases c : W.h p with
    | none => rfl
    | some o =>
      by_cases bb : Bags σ ρ p
      · obtain ⟨_, _, z⟩ := g.bg p bb
        rw [hp] at z
        cases z
      · have := g.le.h p o bb c
        rw [hp] at this
        cases this
  refine ⟨⟨W2.r, upd W2.h p (.lst vs)⟩, rfl, rfl, ⟨fun q o hq => Ex.new hp _ _ (g.sub _ _ hq), ⟨g.le.r, fun q o n hq => Ex.new hp _ _ (g.le.h q o n hq), fun q hq => ?_⟩, fun q b => ?_⟩, p, vs, rfl, upd_same, rp, wp, a⟩
  · obtain ⟨⟨xs, h1, hnt⟩, h2⟩ := g.le.w q hq
    exact ⟨⟨xs, Ex.new hp _ _ h1, hnt⟩, h2⟩
  · obtain ⟨x, y, h1⟩ := g.bg q b
    exact ⟨x, y, Ex.new hp _ _ h1⟩
theorem e_lst (h : EA ρ tA fun ss => ∃ Ps, ss = Ps.map .val ∧ Nat.ble Ps.length 100000 = true ∧ Ψ (.own Ps)) : E ρ (tLst tA) Ψ := fun W0 M W σ e Q k => h W0 M W σ e _ fun ss vs W2 g a q => by
  obtain ⟨Ps, rfl, hl, q⟩ := q
  have al : Al W2.r vs Ps := by
    clear q hl h
    induction Ps generalizing vs with
    | nil =>
      cases a
      exact .nil
    | cons P Ps ih =>
      cases a with
      | cons p t => exact .cons p (ih _ t)
  refine ⟨sz_of (by rw [al.length]; exact Nat.le_of_ble_eq_true hl), fun p hp => ?_⟩
  obtain ⟨W3, e1, _, g3, r3⟩ := e_new e g hp al
  rw [← e1]
  exact k _ _ W3 g3 r3 q
theorem e_lstD (h : DA ρ tA Ps) (q : Ψ (.own Ps)) (hl : Nat.ble Ps.length 100000 = true := by rfl) : E ρ (tLst tA) Ψ := e_lst (EA.of h ⟨Ps, rfl, hl, q⟩)
/-- a builtin call that makes a list -/
def CbL (r : List V → Hp → VK → Prop) (Ps Qs : List MP) : Prop := ∀ (R H : Hp) vs, Ex R H → Al R vs Ps → ∀ C : VK, (∀ p ws, H p = none → Al R ws Qs → C (.ref p) (upd H p (.lst ws))) → r vs H C
theorem e_cbL {r : List V → Hp → VK → Prop} (ha : DA ρ tA Ps) (hr : CbL r Ps Qs) (q : Ψ (.own Qs)) : E ρ (tCB r tA) Ψ := fun W0 M W σ e Q k => ha W0 M W σ e _ fun vs W2 g a => hr W2.r W2.h vs g.sub a _ fun p ws hp al => by
  obtain ⟨W3, e1, _, g3, r3⟩ := e_new e g hp al
  rw [← e1]
  exact k _ _ W3 g3 r3 q
theorem cl_list : CbL (rListS K) [lst K Ps] Ps := fun R H vs s a C k => by
  obtain ⟨v, rfl, p, ws, rfl, h1, h2⟩ := a.inv1
  exact ⟨p, ws, rfl, .inl (ex_l s h1), fun l hl => k l ws hl h2⟩
theorem cl_listT : CbL (rListS K) [tup K Ps] Ps := fun R H vs s a C k => by
  obtain ⟨v, rfl, p, ws, rfl, h1, h2⟩ := a.inv1
  exact ⟨p, ws, rfl, .inr (ex_t s h1), fun l hl => k l ws hl h2⟩
end
/-! ### promises -/
def noBag : List Sl → Bool
  | [] => true
  | .bag :: _ => false
  | _ :: t => noBag t
def oneBag : List Sl → Bool
  | [] => true
  | .bag :: t => noBag t
  | _ :: t => oneBag t
theorem noBag_no : ∀ {ρ : List Sl} {i : Nat}, noBag ρ = true → ρ[i]? ≠ some .bag
  | [], _, _, e => by simp at e
  | .bag :: _, _, h, _ => by cases h
  | .un :: t, 0, _, e => by simp at e
  | .val _ :: t, 0, _, e => by simp at e
  | .own _ :: t, 0, _, e => by simp at e
  | .mat _ :: t, 0, _, e => by simp at e
  | .mat _ :: t, i + 1, h, e => noBag_no (ρ := t) (i := i) h (by simpa using e)
  | .un :: t, i + 1, h, e => noBag_no (ρ := t) (i := i) h (by simpa using e)
  | .val _ :: t, i + 1, h, e => noBag_no (ρ := t) (i := i) h (by simpa using e)
  | .own _ :: t, i + 1, h, e => noBag_no (ρ := t) (i := i) h (by simpa using e)
theorem oneBag_eq : ∀ {ρ : List Sl} {i j : Nat}, oneBag ρ = true → ρ[i]? = some .bag → ρ[j]? = some .bag → i = j
  | [], _, _, _, e, _ => by simp at e
  | .bag :: t, 0, 0, _, _, _ => rfl
  | .bag :: t, i + 1, _, h, e, _ => absurd (show t[i]? = some .bag by simpa using e) (noBag_no h)
  | .bag :: t, _, j + 1, h, _, e => absurd (show t[j]? = some .bag by simpa using e) (noBag_no h)
  | .un :: t, 0, _, _, e, _ => by simp at e
  | .val _ :: t, 0, _, _, e, _ => by simp at e
  | .own _ :: t, 0, _, _, e, _ => by simp at e
  | .mat _ :: t, 0, _, _, e, _ => by simp at e
  | .un :: t, _, 0, _, _, e => by simp at e
  | .val _ :: t, _, 0, _, _, e => by simp at e
  | .own _ :: t, _, 0, _, _, e => by simp at e
  | .mat _ :: t, _, 0, _, _, e => by simp at e
  | .mat _ :: t, i + 1, j + 1, h, e1, e2 => congrArg Nat.succ (oneBag_eq (ρ := t) h (by simpa using e1) (by simpa using e2))
  | .un :: t, i + 1, j + 1, h, e1, e2 => congrArg Nat.succ (oneBag_eq (ρ := t) h (by simpa using e1) (by simpa using e2))
  | .val _ :: t, i + 1, j + 1, h, e1, e2 => congrArg Nat.succ (oneBag_eq (ρ := t) h (by simpa using e1) (by simpa using e2))
  | .own _ :: t, i + 1, j + 1, h, e1, e2 => congrArg Nat.succ (oneBag_eq (ρ := t) h (by simpa using e1) (by simpa using e2))
theorem noBag_vals : ∀ (Ps : List MP), noBag (Ps.map .val) = true
  | [] => rfl
  | _ :: Ps => noBag_vals Ps
theorem oneBag_vals : ∀ (Ps : List MP), oneBag (Ps.map .val) = true
  | [] => rfl
  | _ :: Ps => oneBag_vals Ps
/-- an argument as the callee meets it -/
def POk (W : Wd) (v : V) : Sl → Prop
  | .val P => P.p W.r v
  | .bag => ∃ p, v = .ref p ∧ Bg W.h p ∧ W.r p = none
  | _ => False
inductive POks (W : Wd) : List V → List Sl → Prop
  | nil : POks W [] []
  | cons {v : V} {s : Sl} {vs : List V} {ss : List Sl} : POk W v s → POks W vs ss → POks W (v :: vs) (s :: ss)
theorem POks.length {W : Wd} : ∀ {vs : List V} {ss : List Sl}, POks W vs ss → vs.length = ss.length
  | _, _, .nil => rfl
  | _, _, .cons _ t => congrArg Nat.succ (POks.length t)
theorem POks.get {W : Wd} : ∀ {vs : List V} {ss : List Sl} {i : Nat} {s : Sl}, POks W vs ss → ss[i]? = some s → ∃ v, vs[i]? = some v ∧ POk W v s
  | _, _, _, _, .nil, e => by simp at e
  | _, _, 0, _, .cons h _, e => by
    have e' := Option.some.inj e
    subst e'
    exact ⟨_, rfl, h⟩
  | _, _, i + 1, _, .cons _ t, e => POks.get (i := i) t e
def BagOf (vs : List V) (ss : List Sl) (p : Addr) : Prop := ∃ i : Nat, ss[i]? = some .bag ∧ vs[i]? = some (.ref p)
def spP (pre : List Sl → (Sl → Prop) → Prop) : Sp := fun vs H Q _ => ∃ (W : Wd) (ss : List Sl) (Ψ : Sl → Prop), W.h = H ∧ Ex W.r W.h ∧ POks W vs ss ∧ oneBag ss = true ∧ pre ss Ψ ∧
  ∀ s v W2, Ex W2.r W2.h → Le (BagOf vs ss) W W2 → (∀ p, BagOf vs ss p → Bg W2.h p) → ROk W W2 v s → Ψ s → Q v W2.h
section
variable {K : PySem.W.Frag} {W0 W W1 W2 W3 : Wd} {M : Addr → Prop} {σ : L2.St} {ρ : List Sl} {i j : Nat} {P : MP} {Ps Qs : List MP} {ta tb tc te : TE} {tA tr : TA} {Ψ : Sl → Prop} {v w u : V} {pre : List Sl → (Sl → Prop) → Prop} {dvs : List V} {Ex0 : XK}
theorem AOks.pok (e : En W0 M W σ ρ) : ∀ {vs : List V} {ss : List Sl}, AOks σ ρ W vs ss → POks W vs ss
  | _, _, .nil => .nil
  | _, _, .cons (s := .val P) h t => .cons h (AOks.pok e t)
  | _, _, .cons (s := .bag) ⟨i, h1, h2⟩ t => by
    obtain ⟨u, e1, p, e2, h3, h4, _⟩ := e.ok i _ h1
    rw [h2] at e1
    cases e1
    cases e2
    exact .cons ⟨p, rfl, h3, h4⟩ (AOks.pok e t)
theorem AOks.bag : ∀ {vs : List V} {ss : List Sl} {p : Addr}, AOks σ ρ W vs ss → BagOf vs ss p → Bags σ ρ p
  | _, _, _, .nil, ⟨i, e, _⟩ => by simp at e
  | _, _, _, .cons h t, ⟨0, e1, e2⟩ => by
    simp at e1 e2
    subst e1 e2
    exact h
  | _, _, _, .cons h t, ⟨i + 1, e1, e2⟩ => AOks.bag t ⟨i, by simpa using e1, by simpa using e2⟩
theorem AOks.app {Vs : List MP} {ws : List V} (a : Al W.r ws Vs) : ∀ {vs : List V} {ss : List Sl}, AOks σ ρ W vs ss → AOks σ ρ W (vs ++ ws) (ss ++ Vs.map .val)
  | _, _, .nil => by
    show AOks σ ρ W ws (Vs.map .val)
    induction a with
    | nil => exact .nil
    | cons p _ ih => exact .cons p ih
  | _, _, .cons h t => .cons h (AOks.app a t)
theorem al_sc {H : Hp} : ∀ {vs : List V}, Al H vs (vs.map sc)
  | [] => .nil
  | _ :: _ => .cons rfl al_sc
theorem e_call (h : EA ρ tA fun ss => oneBag (ss ++ (dvs.map sc).map .val) = true ∧ pre (ss ++ (dvs.map sc).map .val) Ψ) : E ρ (tCall (spP pre) dvs Ex0 tA) Ψ := fun W0 M W σ e Q k => h W0 M W σ e _ fun ss vs W1 g1 as q => by
  have as' : AOks σ ρ W1 (vs ++ dvs) (ss ++ (dvs.map sc).map .val) := as.app al_sc
  refine ⟨W1, _, Ψ, rfl, g1.sub, as'.pok (e.go g1), q.1, q.2, fun s v W2 sub le bg r z => ?_⟩
  have g2 : Go σ ρ W1 W2 := ⟨sub, le.more fun p b => as'.bag b, fun p b => ?_⟩
  · exact k s v W2 (g1.trans g2) (r.back e g1) z
  · by_cases c : BagOf (vs ++ dvs) (ss ++ (dvs.map sc).map .val) p
    · exact bg p c
    · obtain ⟨x, y, hb⟩ := ((e.go g1).bag b).1
      exact ⟨x, y, le.h _ _ c hb⟩
theorem d_call (ha : DA ρ tA Ps) (h : ∀ Ψ : Sl → Prop, Ψ (.val P) → pre (Ps.map .val ++ (dvs.map sc).map .val) Ψ) : D ρ (tCall (spP pre) dvs Ex0 tA) P := fun W0 M W σ e Q k =>
  e_call (Ψ := fun s => s = .val P) (EA.of ha ⟨by rw [← List.map_append]; exact oneBag_vals _, h _ rfl⟩) W0 M W σ e _ fun s v W2 g r z => by
    subst z
    exact k v W2 g r
end
end WL

namespace WL
open PySem PySem.Spec PyProof.Rows L2 Evl NF
/-! ### statements -/
structure Post where
  nx : List Sl → Prop
  rt : Sl → Prop
  bk : List Sl → Prop := fun _ => False
  ct : List Sl → Prop := fun _ => False
structure Meets (W0 : Wd) (M : Addr → Prop) (D : Ends) (R : Post) : Prop where
  nx : ∀ W σ ρ, En W0 M W σ ρ → R.nx ρ → D.nx σ W.h
  bk : ∀ W σ ρ, En W0 M W σ ρ → R.bk ρ → D.bk σ W.h
  ct : ∀ W σ ρ, En W0 M W σ ρ → R.ct ρ → D.ct σ W.h
  rt : ∀ s v W, Ex W.r W.h → Le M W0 W → (∀ p, M p → Bg W.h p) → ROk W0 W v s → R.rt s → D.rt v W.h
def G (ts : TS) (ρ : List Sl) (R : Post) : Prop := ∀ W0 M W σ D, En W0 M W σ ρ → Meets W0 M D R → ts D σ W.h
section
variable {K : PySem.W.Frag} {W0 W W1 W2 W3 : Wd} {M : Addr → Prop} {σ : L2.St} {ρ ρ1 ρ2 : List Sl} {i j : Nat} {P P1 P2 P3 : MP} {Ps Qs : List MP} {ta tb tc te tl : TE} {tt t1 t2 : TT} {Ψ : Sl → Prop} {v w u : V} {b b1 b2 : Bool} {R : Post} {t tu tw tz : TS} {s : Sl} {tA : TA}
theorem ROk.base (e : En W0 M W σ ρ) (r : ROk W W2 v s) : ROk W0 W2 v s := by
  cases s with
  | val P => exact r
  | own Ps =>
    obtain ⟨p, vs, h1, h2, h3, h4, h5⟩ := r
    refine ⟨p, vs, h1, h2, h3, ?_, h5⟩
    cases c : W0.h p with
    | none => rfl
    | some o =>
      by_cases m : M p
      · obtain ⟨_, _, z⟩ := e.bags p m
        rw [h4] at z
        cases z
      · have := e.le.h p o m c
        rw [h4] at this
        cases this
  | mat Pss =>
    have nn : ∀ {p}, W.h p = none → W0.h p = none := fun {p} h4 => by
      cases c : W0.h p with
      | none => rfl
      | some o =>
        by_cases m : M p
        · obtain ⟨_, _, z⟩ := e.bags p m
          rw [h4] at z
          cases z
        · have := e.le.h p o m c
          rw [h4] at this
          cases this
    obtain ⟨p, ps, h1, h2, h3, h4, h5⟩ := r
    refine ⟨p, ps, h1, h2, nn h3, h4, ?_⟩
    clear h2 h4
    induction h5 with
    | nil => exact .nil
    | cons k1 k2 k3 k4 _ ih => exact .cons k1 k2 (nn k3) k4 ih
  | un => exact r
  | bag => exact r
/-- what a slot may change stands in the heap -/
theorem En.ft_some (e : En W0 M W σ ρ) {k : Nat} {t' : Sl} {u : Option V} {a : Addr} (hk : ρ[k]? = some t') (hu : σ[k]? = some u) (h : ft W.r u t' a) : ∃ o, W.h a = some o := by
  obtain ⟨u', hu', q⟩ := e.ok k t' hk
  rw [hu] at hu'
  cases hu'
  cases t' with
  | un => exact h.elim
  | val P => exact h.elim
  | own Qs =>
    obtain ⟨p', vs', e1, q2, _⟩ := q
    have h' : u = some (.ref a) := h
    rw [h'] at e1
    cases e1
    exact ⟨_, q2⟩
  | bag =>
    obtain ⟨p', e1, ⟨_, _, q2⟩, _⟩ := q
    have h' : u = some (.ref a) := h
    rw [h'] at e1
    cases e1
    exact ⟨_, q2⟩
  | mat Pss =>
    obtain ⟨p, ps, e1, k1, _, rw_⟩ := q
    obtain ⟨p2, ps2, e2, k2, hm⟩ := h
    rw [e1] at e2
    cases e2
    rw [k1] at k2
    have := map_ref_inj (HO.lst.inj (Option.some.inj k2))
    subst this
    obtain ⟨vs, _, _, k3, _⟩ := rw_.mem hm
    exact ⟨_, k3⟩
/-- a slot is set -/
theorem En.set (e : En W0 M W σ ρ) (g : Go σ ρ W W2) (r : ROk W W2 v s) (hi : i < ρ.length) : En W0 M W2 (σ.set i (some v)) (ρ.set i s) := by
  have e2 := e.go g
  have rb := ROk.base e r
  have hσ : i < σ.length := by rw [e.len]; exact hi
  refine ⟨e2.sub, e2.le, e2.old, e2.bags, by rw [List.length_set, List.length_set]; exact e.len, fun k t hk => ?_, fun k l t t' u w a hkl hk hl ku lu o1 o2 => ?_⟩
  · by_cases c : i = k
    · subst c
      rw [List.getElem?_set_self hi] at hk
      cases hk
      refine ⟨some v, List.getElem?_set_self hσ, ?_⟩
      cases s with
      | un => trivial
      | val P => exact ⟨v, rfl, r⟩
      | own Ps =>
        obtain ⟨p, vs, rfl, h2, h3, h4, h5⟩ := rb
        exact ⟨p, vs, rfl, h2, h3, h4, h5⟩
      | mat Pss =>
        obtain ⟨p, ps, rfl, h2, h3, h4, h5⟩ := rb
        exact ⟨p, ps, rfl, h2, h4, h5⟩
      | bag => exact r.elim
    · rw [List.getElem?_set_ne c] at hk
      rw [List.getElem?_set_ne c]
      exact e2.ok k t hk
  · have fr : ∀ {l : Nat} {t' : Sl} {w : Option V} {a : Addr}, ρ[l]? = some t' → σ[l]? = some w → ft W2.r w t' a → ¬ ft W2.r (some v) s a := by
      clear hk hl o1 o2 hkl ku lu
      intro l t' w a hl lu o2 o1
      have st : ∃ o, W.h a = some o := by
        refine e.ft_some hl lu ?_
        cases t' with
        | un => exact o2
        | val P => exact o2
        | own Ps => exact o2
        | bag => exact o2
        | mat Pss =>
          obtain ⟨p, ps, h1, h2, h3⟩ := o2
          obtain ⟨u', hu', p', ps', e1, k1, _⟩ := e.ok l _ hl
          rw [lu] at hu'
          cases hu'
          rw [h1] at e1
          cases e1
          have := g.le.r _ _ k1
          rw [h2] at this
          have := map_ref_inj (HO.lst.inj (Option.some.inj this))
          subst this
          exact ⟨p, ps, h1, k1, h3⟩
      obtain ⟨o, ho⟩ := st
      cases s with
      | un => exact o1
      | val P => exact o1
      | bag => exact r
      | own Ps =>
        obtain ⟨p, vs, rfl, h2, h3, h4, h5⟩ := r
        have o1' : some (V.ref p) = some (.ref a) := o1
        cases o1'
        rw [h4] at ho
        cases ho
      | mat Pss =>
        obtain ⟨p, ps, rfl, h2, h3, h4, h5⟩ := r
        obtain ⟨p', ps', e1, k1, hm⟩ := o1
        cases e1
        rw [h2] at k1
        have := map_ref_inj (HO.lst.inj (Option.some.inj k1))
        subst this
        obtain ⟨_, _, _, _, _, k3, _⟩ := h5.mem hm
        rw [k3] at ho
        cases ho
    by_cases c : i = k
    · subst c
      have c2 : i ≠ l := hkl
      rw [List.getElem?_set_self hi] at hk
      rw [List.getElem?_set_ne c2] at hl lu
      cases hk
      rw [List.getElem?_set_self hσ] at ku
      cases ku
      exact fr hl lu o2 o1
    · rw [List.getElem?_set_ne c] at hk ku
      by_cases c2 : i = l
      · subst c2
        rw [List.getElem?_set_self hi] at hl
        cases hl
        rw [List.getElem?_set_self hσ] at lu
        cases lu
        exact fr hk ku o1 o2
      · rw [List.getElem?_set_ne c2] at hl lu
        exact e2.ne k l t t' u w a hkl hk hl ku lu o1 o2
/-- less is said of a slot -/
theorem En.less (e : En W0 M W σ ρ) (hl : ρ2.length = ρ.length) (h : ∀ (i : Nat) s, ρ2[i]? = some s → s = .un ∨ ρ[i]? = some s) : En W0 M W σ ρ2 := by
  refine ⟨e.sub, e.le, e.old, e.bags, by rw [e.len, hl], fun i s hs => ?_, fun i j s t u w a n h1 h2 k1 k2 o1 o2 => ?_⟩
  · rcases h i s hs with rfl | h'
    · have hi : i < ρ2.length := (List.getElem?_eq_some_iff.mp hs).1
      exact ⟨_, List.getElem?_eq_getElem (by rw [e.len, ← hl]; exact hi), trivial⟩
    · exact e.ok i s h'
  · have a' : ρ[i]? = some s := (h i s h1).resolve_left fun z => by subst z; exact o1
    have b' : ρ[j]? = some t := (h j t h2).resolve_left fun z => by subst z; exact o2
    exact e.ne i j s t u w a n a' b' k1 k2 o1 o2
theorem g_seq (h : G t ρ { R with nx := fun ρ' => G tu ρ' R }) : G (tSeq t tu) ρ R := fun W0 M W σ D e m => h W0 M W σ _ e ⟨fun W2 σ2 ρ2 e2 q => q W0 M W2 σ2 D e2 m, m.bk, m.ct, m.rt⟩
theorem g_next (h : R.nx ρ) : G tNext ρ R := fun W0 M W σ D e m => m.nx W σ ρ e h
theorem g_asg (h : E ρ te fun s => R.nx (ρ.set i s)) (hi : Nat.blt i ρ.length = true := by rfl) : G (tAsg te (gName i)) ρ R := fun W0 M W σ D e m => h W0 M W σ e _ fun s v W2 g r q => m.nx W2 _ _ (e.set g r (Nat.le_of_ble_eq_true hi)) q
theorem g_asgD (h : D ρ te P) (q : R.nx (ρ.set i (.val P))) (hi : Nat.blt i ρ.length = true := by rfl) : G (tAsg te (gName i)) ρ R := g_asg (E.of h q) hi
theorem g_drop (h : E ρ te fun _ => R.nx ρ) : G (tDrop te) ρ R := fun W0 M W σ D e m => h W0 M W σ e _ fun s v W2 g r q => m.nx W2 _ _ (e.go g) q
theorem g_ret (h : E ρ te R.rt) : G (tRet te) ρ R := fun W0 M W σ D e m => h W0 M W σ e _ fun s v W2 g r q => m.rt s v W2 g.sub (e.go g).le (e.go g).bags (ROk.base e r) q
theorem g_retD (h : D ρ te P) (q : R.rt (.val P)) : G (tRet te) ρ R := g_ret (E.of h q)
theorem g_retN (q : R.rt (.val (sc .non))) : G tRetN ρ R := fun W0 M W σ D e m => m.rt (.val (sc .non)) .non W e.sub e.le e.bags rfl q
theorem g_retOwn (h : ρ[i]? = some (.own Ps)) (q : R.rt (.own Ps)) : G (tRet (tVar i)) ρ R := fun W0 M W σ D e m => by
  obtain ⟨u, h1, p, vs, rfl, h3, h4, h5, h6⟩ := e.ok i _ h
  exact ⟨_, h1, m.rt (.own Ps) _ W e.sub e.le e.bags ⟨p, vs, rfl, h3, h4, h5, h6⟩ q⟩
theorem g_if (h : T ρ tt fun b => if b = true then G tu ρ R else G tw ρ R) : G (tIfS tt tu tw) ρ R := fun W0 M W σ D e m => h W0 M W σ e _ fun b W2 g q => by
  cases b with
  | true => exact q W0 M W2 σ D (e.go g) m
  | false => exact q W0 M W2 σ D (e.go g) m
/-- a test that never holds, always holds -/
theorem g_no (h : T ρ tt fun b => b = false) (q : G tw ρ R) : G (tIfS tt tu tw) ρ R := g_if (h.mono fun b z => by subst z; exact q)
theorem g_yes (h : T ρ tt fun b => b = true) (q : G tu ρ R) : G (tIfS tt tu tw) ρ R := g_if (h.mono fun b z => by subst z; exact q)
theorem g_par {tA : TA} (h : DA ρ tA [P1, P2]) (q : R.nx ((ρ.set i (.val P1)).set j (.val P2))) (hi' : Nat.blt i ρ.length = true := by rfl) (hj' : Nat.blt j ρ.length = true := by rfl) : G (tPar i j tA) ρ R := fun W0 M W σ D e m => h W0 M W σ e _ fun vs W2 g a => by
  obtain ⟨v, w, rfl, p1, p2⟩ := a.inv2
  have hi := Nat.le_of_ble_eq_true hi'
  have hj := Nat.le_of_ble_eq_true hj'
  have e1 := e.set (i := i) (s := .val P1) g p1 hi
  exact ⟨v, w, rfl, m.nx W2 _ _ (e1.set (s := .val P2) e1.id p2 (by rw [List.length_set]; exact hj)) q⟩
/-- what is own is settled -/
theorem En.calm (e : En W0 M W σ ρ) (h : ρ[i]? = some (.own Ps)) (hP : ∀ (R : Hp) (p : Addr) (vs : List V), R p = some (.lst vs) → Al R vs Ps → P.p R (.ref p)) : ∃ W', W'.h = W.h ∧ Ex W.r W'.r ∧ En W0 M W' σ (ρ.set i (.val P)) := by
  obtain ⟨u, h1, p, vs, rfl, h3, h4, h5, h6⟩ := e.ok i _ h
  have ex : Ex W.r (upd W.r p (.lst vs)) := Ex.new h4
  have hi : i < ρ.length := (List.getElem?_eq_some_iff.mp h).1
  have ne' : ∀ {k : Nat} {s : Sl} {u : Option V} {a : Addr}, i ≠ k → ρ[k]? = some s → σ[k]? = some u → ft W.r u s a → a ≠ p := fun {k s u a} c hk hu hf z => e.ne i k _ _ _ _ p c h hk h1 hu rfl (z ▸ hf)
  have dn : ∀ {k : Nat} {s : Sl} {u : Option V} {a : Addr}, ρ[k]? = some s → σ[k]? = some u → ft (upd W.r p (.lst vs)) u s a → ft W.r u s a := fun {k s u a} hs hu hf => by
    cases s with
    | un => exact hf
    | val P => exact hf
    | own Ps => exact hf
    | bag => exact hf
    | mat Pss =>
      obtain ⟨p1, ps, h1, h2, h3⟩ := hf
      obtain ⟨u', hu', p', ps', e1, k1, _⟩ := e.ok k _ hs
      rw [hu] at hu'
      cases hu'
      rw [h1] at e1
      cases e1
      have := ex _ _ k1
      rw [h2] at this
      have := map_ref_inj (HO.lst.inj (Option.some.inj this))
      subst this
      exact ⟨p1, ps, h1, k1, h3⟩
  refine ⟨⟨upd W.r p (.lst vs), W.h⟩, rfl, ex, ⟨fun a o (ha : upd W.r p (.lst vs) a = some o) => ?_, ⟨e.le.r.trans ex, e.le.h, fun q hq => ?_⟩, e.old, e.bags, by rw [List.length_set]; exact e.len, fun k s hk => ?_, fun k l s t u w a hkl hk hl ku lu o1 o2 => ?_⟩⟩
  · by_cases c : a = p
    · subst c
      rw [upd_same] at ha
      cases ha
      exact h3
    · rw [upd_ne c] at ha
      exact e.sub _ _ ha
  · have c : q ≠ p := fun z => by
      obtain ⟨⟨xs, hx, _⟩, _⟩ := hq
      rw [z, h5] at hx
      cases hx
    exact ⟨(e.le.w q hq).1, by show upd W.r p _ q = none; rw [upd_ne c]; exact (e.le.w q hq).2⟩
  · by_cases c : i = k
    · subst c
      rw [List.getElem?_set_self hi] at hk
      cases hk
      exact ⟨_, h1, _, rfl, hP _ _ _ upd_same (h6.mono ex)⟩
    · rw [List.getElem?_set_ne c] at hk
      obtain ⟨u, hu, q⟩ := e.ok k s hk
      refine ⟨u, hu, ?_⟩
      cases s with
      | un => trivial
      | val P =>
        obtain ⟨v, rfl, h⟩ := q
        exact ⟨v, rfl, P.mono ex h⟩
      | own Qs =>
        obtain ⟨p', vs', rfl, q3, q4, q5, q6⟩ := q
        have c' : p' ≠ p := ne' c hk hu rfl
        exact ⟨p', vs', rfl, q3, by show upd W.r p _ p' = none; rw [upd_ne c']; exact q4, q5, q6.mono ex⟩
      | mat Pss =>
        obtain ⟨p', ps, rfl, q3, q4, q5⟩ := q
        refine ⟨p', ps, rfl, ex _ _ q3, q4, q5.mono ex (fun _ _ _ z => z) fun x hx hr => ?_⟩
        have c' : x ≠ p := ne' c hk hu ⟨p', ps, rfl, q3, hx⟩
        show upd W.r p _ x = none
        rw [upd_ne c']
        exact hr
      | bag =>
        obtain ⟨p', rfl, q3, q4, q5⟩ := q
        have c' : p' ≠ p := ne' c hk hu rfl
        exact ⟨p', rfl, q3, by show upd W.r p _ p' = none; rw [upd_ne c']; exact q4, q5⟩
  · have c1 : i ≠ k := fun z => by subst z; rw [List.getElem?_set_self hi] at hk; cases hk; exact o1
    have c2 : i ≠ l := fun z => by subst z; rw [List.getElem?_set_self hi] at hl; cases hl; exact o2
    rw [List.getElem?_set_ne c1] at hk
    rw [List.getElem?_set_ne c2] at hl
    exact e.ne k l s t u w a hkl hk hl ku lu (dn hk ku o1) (dn hl lu o2)
theorem g_set (h : ρ[i]? = some (.own Ps)) (q : G t (ρ.set i (.val (lst K Ps))) R) : G t ρ R := fun W0 M W σ D e m => by
  obtain ⟨W', e1, _, e2⟩ := En.calm (P := lst K Ps) e h fun R p vs h1 h2 => ⟨p, vs, rfl, SqL.of h1, h2⟩
  rw [← e1]
  exact q W0 M W' σ D e2 m
/-- an own list is another list behind -/
theorem En.put (e : En W0 M W σ ρ) (h : ρ[i]? = some (.own Ps)) {p : Addr} (h1 : σ[i]? = some (some (.ref p))) {vs : List V} (a : Al W.r vs Qs) : En W0 M ⟨W.r, upd W.h p (.lst vs)⟩ σ (ρ.set i (.own Qs)) := by
  obtain ⟨u, h1', p', vs', e1, h3, h4, h5, h6⟩ := e.ok i _ h
  rw [h1] at h1'
  cases h1'
  cases e1
  have hi : i < ρ.length := (List.getElem?_eq_some_iff.mp h).1
  have np : ∀ q, M q → q ≠ p := fun q m z => by
    obtain ⟨_, _, x⟩ := e.old q m
    rw [z, h5] at x
    cases x
  refine ⟨fun a o ha => ?_, ⟨e.le.r, fun q o n hq => ?_, fun q hq => ?_⟩, e.old, fun q m => ?_, by rw [List.length_set]; exact e.len, fun k s hk => ?_, fun k l s t u w a hkl hk hl ku lu o1 o2 => ?_⟩
  · have c : a ≠ p := fun z => by subst z; rw [show (⟨W.r, upd W.h a (.lst vs)⟩ : Wd).r a = W.r a from rfl, h4] at ha; cases ha
    show upd W.h p _ a = _
    rw [upd_ne c]
    exact e.sub _ _ ha
  · have c : q ≠ p := fun z => by subst z; rw [h5] at hq; cases hq
    show upd W.h p _ q = _
    rw [upd_ne c]
    exact e.le.h _ _ n hq
  · obtain ⟨⟨xs, hx, hnt⟩, h2⟩ := e.le.w q hq
    by_cases c : q = p
    · exact ⟨⟨_, by show upd W.h p _ q = _; rw [c, upd_same], rfl⟩, h2⟩
    · exact ⟨⟨xs, by show upd W.h p _ q = _; rw [upd_ne c]; exact hx, hnt⟩, h2⟩
  · obtain ⟨x, y, hb⟩ := e.bags q m
    exact ⟨x, y, by show upd W.h p _ q = _; rw [upd_ne (np q m)]; exact hb⟩
  · by_cases c : i = k
    · subst c
      rw [List.getElem?_set_self hi] at hk
      cases hk
      exact ⟨_, h1, p, vs, rfl, upd_same, h4, h5, a⟩
    · rw [List.getElem?_set_ne c] at hk
      obtain ⟨u, hu, q⟩ := e.ok k s hk
      refine ⟨u, hu, ?_⟩
      cases s with
      | un => trivial
      | val P => exact q
      | own Rs =>
        obtain ⟨p', vs', rfl, q3, q4, q5, q6⟩ := q
        have c' : p' ≠ p := fun z => e.ne i k _ _ _ _ p c h hk h1 hu rfl (z ▸ (show ft W.r (some (V.ref p')) (.own Rs) p' from rfl))
        exact ⟨p', vs', rfl, by show upd W.h p _ p' = _; rw [upd_ne c']; exact q3, q4, q5, q6⟩
      | mat Pss =>
        obtain ⟨p', ps, rfl, q3, q4, q5⟩ := q
        refine ⟨p', ps, rfl, q3, q4, Rw.mono (W := W) (W2 := ⟨W.r, upd W.h p (.lst vs)⟩) (Ex.refl _) q5 (fun x hx o ho => ?_) fun _ _ z => z⟩
        have c' : x ≠ p := fun z => e.ne i k _ _ _ _ p c h hk h1 hu rfl (z ▸ (show ft W.r (some (V.ref p')) (.mat Pss) x from ⟨p', ps, rfl, q3, hx⟩))
        show upd W.h p _ x = _
        rw [upd_ne c']
        exact ho
      | bag =>
        obtain ⟨p', rfl, ⟨x, y, q3⟩, q4, q5⟩ := q
        have c' : p' ≠ p := fun z => e.ne i k _ _ _ _ p c h hk h1 hu rfl (z ▸ (show ft W.r (some (V.ref p')) .bag p' from rfl))
        exact ⟨p', rfl, ⟨x, y, by show upd W.h p _ p' = _; rw [upd_ne c']; exact q3⟩, q4, q5⟩
  · have up : ∀ {k : Nat} {s : Sl} {u : Option V} {a : Addr}, (ρ.set i (.own Qs))[k]? = some s → ft W.r u s a → ∃ s', ρ[k]? = some s' ∧ ft W.r u s' a := fun {k s u a} hk o => by
      by_cases c : i = k
      · subst c
        rw [List.getElem?_set_self hi] at hk
        cases hk
        exact ⟨_, h, o⟩
      · rw [List.getElem?_set_ne c] at hk
        exact ⟨s, hk, o⟩
    obtain ⟨s', a1, a2⟩ := up hk o1
    obtain ⟨t', b1, b2⟩ := up hl o2
    exact e.ne k l s' t' u w a hkl a1 b1 ku lu a2 b2
/-- x.append(e) of an own list -/
theorem g_app (h : ρ[i]? = some (.own Ps)) (hl : Ps.length < 100000) (he : E ρ te fun s => ∃ P, Set K s P ∧ R.nx (ρ.set i (.own (Ps ++ [P])))) : G (tDrop (tBM K "list" rAppend (tVar i) (tCons te tNil))) ρ R := fun W0 M W σ D e m => by
  obtain ⟨u, h1, p, vs, rfl, h3, h4, h5, h6⟩ := e.ok i _ h
  refine ⟨_, h1, .inl ⟨rfl, _, SqL.of h3⟩, ?_⟩
  refine he W0 M W σ e _ fun s v W2 g r q => ?_
  obtain ⟨P, hs, q⟩ := q
  obtain ⟨W3, e1, _, g3, p3⟩ := settle e g r hs
  have e3 := e.go g3
  obtain ⟨u, h1', p', vs', e2, k3, k4, k5, k6⟩ := e3.ok i _ h
  rw [h1] at h1'
  cases h1'
  cases e2
  refine ⟨p, vs', v, rfl, rfl, by rw [← e1]; exact k3, sz_lt (by rw [k6.length]; exact hl), ?_⟩
  rw [← e1]
  exact m.nx _ _ _ (e3.put h h1 (k6.app (Al.one p3))) q
theorem g_appD (h : ρ[i]? = some (.own Ps)) (he : D ρ te P) (hl : Ps.length < 100000) (q : R.nx (ρ.set i (.own (Ps ++ [P])))) : G (tDrop (tBM K "list" rAppend (tVar i) (tCons te tNil))) ρ R := g_app h hl (E.of he ⟨P, .val, q⟩)
/-- x[k] = e -/
theorem g_put {n : Nat} (h : ρ[i]? = some (.own Ps)) (he : D ρ te P) (hn : D ρ tb (sc (.int (n : Int)))) (hl : n < Ps.length) (q : R.nx (ρ.set i (.own (Ps.set n P)))) : G (tAsg te (gSub (tVar i) tb rSetL)) ρ R := fun W0 M W σ D e m => he W0 M W σ e _ fun v W2 g2 pv => by
  have e2 := e.go g2
  obtain ⟨u, h1, p, vs, rfl, h3, h4, h5, h6⟩ := e2.ok i _ h
  refine ⟨_, h1, hn W0 M W2 σ e2 _ fun y W3 g3 py => ?_⟩
  cases py
  have e3 := e2.go g3
  obtain ⟨u, h1', p', vs', e1, k3, k4, k5, k6⟩ := e3.ok i _ h
  rw [h1] at h1'
  cases h1'
  cases e1
  refine ⟨p, vs', n, n, rfl, rfl, k3, ixN_nat (by rw [k6.length]; exact hl), ?_⟩
  exact m.nx _ _ _ (e3.put h h1 (k6.set (P.mono g3.le.r pv) n)) q
/-! ### loops -/
theorem g_forR {n : Int} (h : DA ρ tA [sc (.int n)]) (hn : n < 2 ^ 60) (hm : -(2 ^ 60) < n) (I : Nat → List Sl → Prop) (h0 : I 0 ρ) (hj : ∀ i ρ', I i ρ' → j < ρ'.length) (hs : ∀ (i : Nat) ρ', (i : Int) < n → I i ρ' → G t (ρ'.set j (.val (sc (.int (i : Int))))) { R with nx := I (i + 1), ct := I (i + 1), bk := R.nx }) (hd : ∀ ρ', I n.toNat ρ' → R.nx ρ') :
    G (tFor (iRng1 tA) (gName j) t) ρ R := fun W0 M W σ D e m => h W0 M W σ e _ fun vs W2 g a => by
  obtain ⟨v, rfl, pv⟩ := a.inv1
  cases pv
  refine ⟨n, rfl, by omega, by omega, for_range (lo := 0) (n := n.toNat) (fun i σ' H' => ∃ W' ρ', W'.h = H' ∧ En W0 M W' σ' ρ' ∧ I i ρ') ⟨W2, ρ, rfl, e.go g, h0⟩ ?_ ?_⟩
  · rintro i σ' H' hi ⟨W', ρ', rfl, e', q⟩
    have z : (0 : Int) + (i : Int) = (i : Int) := Int.zero_add _
    show t _ (σ'.set j (some (.int (0 + (i : Int))))) W'.h
    rw [z]
    refine hs i ρ' (by omega) q W0 M W' _ _ (e'.set (s := .val (sc (.int (i : Int)))) e'.id rfl (hj i ρ' q)) ⟨fun W σ ρ e q => ⟨W, ρ, rfl, e, q⟩, m.nx, fun W σ ρ e q => ⟨W, ρ, rfl, e, q⟩, m.rt⟩
  · rintro σ' H' ⟨W', ρ', rfl, e', q⟩
    exact m.nx W' σ' ρ' e' (hd ρ' q)
/-- the base may be raised to what is settled by now -/
theorem En.up (e : En W0 M W σ ρ) : En ⟨W.r, W0.h⟩ M W σ ρ := ⟨e.sub, ⟨Ex.refl _, e.le.h, fun p hp => by
  obtain ⟨h1, h2⟩ := hp
  exact ⟨by
    obtain ⟨xs, hx, hnt⟩ := h1
    by_cases m : M p
    · obtain ⟨x, y, hb⟩ := e.bags p m
      exact ⟨_, hb, rfl⟩
    · exact ⟨xs, e.le.h p _ m hx, hnt⟩, h2⟩⟩, e.old, e.bags, e.len, e.ok, e.ne⟩
theorem Le.down {W' : Wd} (e : Le M W0 W) (l : Le M ⟨W.r, W0.h⟩ W') : Le M W0 W' := ⟨e.r.trans l.r, l.h, fun p hp => l.w p ⟨hp.1, (e.w p hp).2⟩⟩
theorem En.down {W' : Wd} {σ' : L2.St} {ρ' : List Sl} (e : Le M W0 W) (e' : En ⟨W.r, W0.h⟩ M W' σ' ρ') : En W0 M W' σ' ρ' := ⟨e'.sub, Le.down e e'.le, e'.old, e'.bags, e'.len, e'.ok, e'.ne⟩
theorem g_forL (h : E ρ tl fun s => ∃ Ps, Set K s (lst K Ps) ∧ ∃ I : Nat → List Sl → Prop, I 0 ρ ∧ (∀ i ρ', I i ρ' → j < ρ'.length) ∧
      (∀ (i : Nat) P ρ', Ps[i]? = some P → I i ρ' → G t (ρ'.set j (.val P)) { R with nx := I (i + 1), ct := I (i + 1), bk := R.nx }) ∧ ∀ ρ', I Ps.length ρ' → R.nx ρ') :
    G (tFor (iList K tl) (gName j) t) ρ R := fun W0 M W σ D e m => h W0 M W σ e _ fun s v W2 g r q => by
  obtain ⟨Ps, hs, I, h0, hj, hs', hd⟩ := q
  obtain ⟨W3, e1, _, g3, p, vs, rfl, hp, al⟩ := settle e g r hs
  have e3 := e.go g3
  rw [← e1]
  refine ⟨p, rfl, ⟨vs, ex_l g3.sub hp⟩, for_list (xs := vs) (fun i σ' H' => ∃ W' ρ', W'.h = H' ∧ En ⟨W3.r, W0.h⟩ M W' σ' ρ' ∧ I i ρ') ⟨W3, ρ, rfl, e3.up, h0⟩ ?_ ?_ ?_⟩
  · rintro i σ' H' _ ⟨W', ρ', rfl, e', q⟩
    exact ex_l (Ex.trans e'.le.r e'.sub) hp
  · rintro i x σ' H' hi ⟨W', ρ', rfl, e', q⟩
    obtain ⟨P, hP, px⟩ := al.getV hi
    refine hs' i P ρ' hP q ⟨W3.r, W0.h⟩ M W' _ _ (e'.set (s := .val P) e'.id (P.mono e'.le.r px) (hj i ρ' q)) ⟨fun W σ ρ e q => ⟨W, ρ, rfl, e, q⟩, fun W σ ρ e q => m.nx W σ ρ (En.down e3.le e) q, fun W σ ρ e q => ⟨W, ρ, rfl, e, q⟩, fun s v W sub le bg r q => m.rt s v W sub (Le.down e3.le le) bg ?_ q⟩
    cases s with
    | val P => exact r
    | own Ps => exact r
    | mat Pss => exact r
    | un => exact r
    | bag => exact r
  · rintro σ' H' ⟨W', ρ', rfl, e', q⟩
    rw [al.length] at q
    exact m.nx W' σ' ρ' (En.down e3.le e') (hd ρ' q)
theorem g_while (I : Nat → List Sl → Prop) (m0 : Nat) (h0 : I m0 ρ) (hs : ∀ k ρ', I k ρ' → T ρ' tt fun b => if b = true then G t ρ' { R with nx := fun ρ2 => ∃ k2, k2 < k ∧ I k2 ρ2, ct := fun ρ2 => ∃ k2, k2 < k ∧ I k2 ρ2, bk := R.nx } else R.nx ρ') : G (tWhile tt t) ρ R := fun W0 M W σ D e m => by
  refine ⟨fun k σ' H' => ∃ W' ρ', W'.h = H' ∧ En W0 M W' σ' ρ' ∧ I k ρ', ⟨m0, W, ρ, rfl, e, h0⟩, ?_⟩
  rintro k σ' H' ⟨W', ρ', rfl, e', q⟩
  refine hs k ρ' q W0 M W' σ' e' _ fun b W2 g z => ?_
  cases b with
  | true => exact ⟨fun σ' H' => ∃ W' ρ', W'.h = H' ∧ En W0 M W' σ' ρ' ∧ ∃ k2, k2 < k ∧ I k2 ρ', fun σ' H' ⟨W', ρ', a, b, k2, c, d⟩ => ⟨k2, c, W', ρ', a, b, d⟩, z W0 M W2 σ' _ (e'.go g) ⟨fun W σ ρ e q => ⟨W, ρ, rfl, e, q⟩, m.nx, fun W σ ρ e q => ⟨W, ρ, rfl, e, q⟩, m.rt⟩⟩
  | false => exact m.nx W2 σ' ρ' (e'.go g) z
end
/-! ### a def -/
section
variable {P : Program} {w : World} {K : PySem.W.Frag} {mg : Str → Option Value} {base : Heap} {f : Addr} {fd : FuncData} {pre : List Sl → (Sl → Prop) → Prop}
def pEnd (Ψ : Sl → Prop) : Post := { nx := fun _ => Ψ (.val (sc .non)), rt := Ψ }
theorem en_start {N : List Str} {W : Wd} {vs : List V} {ss : List Sl} (sub : Ex W.r W.h) (h : POks W vs ss) (ob : oneBag ss = true) (hl : ss.length ≤ N.length) : En W (BagOf vs ss) W (start N vs) (ss ++ List.replicate (N.length - ss.length) .un) := by
  have hm : ∀ p, BagOf vs ss p → Bg W.h p ∧ W.r p = none := fun p ⟨i, h1, h2⟩ => by
    obtain ⟨v, e1, q, e2, h3, h4⟩ := h.get h1
    rw [h2] at e1
    cases e1
    cases e2
    exact ⟨h3, h4⟩
  have hin : ∀ {i : Nat} {s : Sl}, (ss ++ List.replicate (N.length - ss.length) Sl.un)[i]? = some s → s = .un ∨ ss[i]? = some s := fun {i s} hi => by
    by_cases c : i < ss.length
    · rw [List.getElem?_append_left c] at hi
      exact .inr hi
    · rw [List.getElem?_append_right (by omega)] at hi
      exact .inl (List.eq_of_mem_replicate (List.mem_of_getElem? hi))
  have lv := h.length
  have st : ∀ {i : Nat} {v : V}, vs[i]? = some v → (start N vs)[i]? = some (some v) := fun {i v} hi => by
    have hlt : i < vs.length := (List.getElem?_eq_some_iff.mp hi).1
    unfold L2.start
    rw [List.getElem?_append_left (by rw [List.length_map]; exact hlt), List.getElem?_map, hi]
    rfl
  have ln : (start N vs).length = N.length := by
    unfold L2.start
    rw [List.length_append, List.length_map, List.length_replicate]
    omega
  refine ⟨sub, Le.refl W, fun p m => (hm p m).1, fun p m => (hm p m).1, ?_, fun i s hi => ?_, fun i j s t u w a hij h1 h2 k1 k2 o1 o2 => ?_⟩
  · rw [ln, List.length_append, List.length_replicate]
    omega
  · have hlt : i < N.length := by
      have := (List.getElem?_eq_some_iff.mp hi).1
      rw [List.length_append, List.length_replicate] at this
      omega
    rcases hin hi with rfl | h'
    · exact ⟨_, List.getElem?_eq_getElem (by rw [ln]; exact hlt), trivial⟩
    · obtain ⟨v, e1, q⟩ := h.get h'
      refine ⟨_, st e1, ?_⟩
      cases s with
      | un => trivial
      | val P => exact ⟨v, rfl, q⟩
      | own Ps => exact q.elim
      | mat Pss => exact q.elim
      | bag =>
        obtain ⟨p, rfl, h3, h4⟩ := q
        exact ⟨p, rfl, h3, h4, .inr ⟨i, h', e1⟩⟩
  · have bagOf : ∀ {k : Nat} {s : Sl}, (ss ++ List.replicate (N.length - ss.length) Sl.un)[k]? = some s → s.ow = true → ss[k]? = some .bag := fun {k s} hk o => by
      rcases hin hk with rfl | h'
      · cases o
      · obtain ⟨v, e1, q⟩ := h.get h'
        cases s with
        | un => cases o
        | val P => cases o
        | own Ps => exact q.elim
        | mat Pss => exact q.elim
        | bag => exact h'
    exact hij (oneBag_eq ob (bagOf h1 (ft_ow o1)) (bagOf h2 (ft_ow o2)))
theorem fnP {x qual : Str} {st : Stmt} {N ps : List Str} {k : Nat} (F : Fun K x qual st f fd) (S : FnScope N ps (defScope st)) (hN : ps.length ≤ N.length) (len : ∀ ss Ψ, pre ss Ψ → ss.length = ps.length)
    (hb : ∀ (cdv : Value) (A : Around) (outer : List Env) (s : Shared) (H : Hp) (Ex0 : XK), Room k (A.deeper (envOfC qual (defScope st) s.heap.objs.size f cdv)) → ∃ t, PSs (cxOf CX0 P w K mg base N qual (defScope st) f cdv A outer s H Ex0).nox (defBody st) t ∧
      ∀ ss Ψ, pre ss Ψ → G t (ss ++ List.replicate (N.length - ss.length) .un) (pEnd Ψ)) : FnOk P w K mg base CX0 (k + 1) f fd ps (spP pre) := by
  refine F.ok S (fun vs H Q E0 h => ?_) (fun cdv A outer s H vs Q E0 hr h => ?_)
  · obtain ⟨W, ss, Ψ, _, _, h1, _, h2, _⟩ := h
    rw [h1.length]
    exact len ss Ψ h2
  · obtain ⟨W, ss, Ψ, rfl, sub, h1, ob, h2, q⟩ := h
    obtain ⟨t, ht, g⟩ := hb cdv A outer s W.h E0 hr
    refine ⟨t, ht, g ss Ψ h2 W (BagOf vs ss) W _ _ (en_start sub h1 ob (by rw [len ss Ψ h2]; exact hN)) ⟨fun W2 σ ρ e z => q (.val (sc .non)) .non W2 e.sub e.le e.bags rfl z, fun _ _ _ _ z => z.elim, fun _ _ _ _ z => z.elim, fun s v W2 sub le bg r z => q s v W2 sub le bg r z⟩⟩
theorem fnPD {x qual : Str} {params : Arguments} {body : List Stmt} {scope : Scope} {dvs : List V} {N ps : List Str} {k : Nat} (F : FunD K x qual params body scope dvs [] f fd) (S : FnScope N ps scope) (hN : ps.length ≤ N.length) (len : ∀ ss Ψ, pre ss Ψ → ss.length = ps.length)
    (hb : ∀ (cdv : Value) (A : Around) (outer : List Env) (s : Shared) (H : Hp) (Ex0 : XK), Room k (A.deeper (envOfC qual scope s.heap.objs.size f cdv)) → ∃ t, PSs (cxOf CX0 P w K mg base N qual scope f cdv A outer s H Ex0).nox body t ∧
      ∀ ss Ψ, pre ss Ψ → G t (ss ++ List.replicate (N.length - ss.length) .un) (pEnd Ψ)) : FnOk P w K mg base CX0 (k + 1) f fd ps (spP pre) := by
  obtain ⟨oc, od, dV, kV, doc, pm, an, cdv, ct, osl, rfl, lk, hcd, _, _⟩ := F.ex
  refine fn_of lk hcd S (fun vs H Q E0 h => ?_) (fun A outer s H vs Q E0 hr h => ?_)
  · obtain ⟨W, ss, Ψ, _, _, h1, _, h2, _⟩ := h
    rw [h1.length]
    exact len ss Ψ h2
  · obtain ⟨W, ss, Ψ, rfl, sub, h1, ob, h2, q⟩ := h
    obtain ⟨t, ht, g⟩ := hb cdv A outer s W.h E0 hr
    refine ⟨t, ht.nox, g ss Ψ h2 W (BagOf vs ss) W _ _ (en_start sub h1 ob (by rw [len ss Ψ h2]; exact hN)) ⟨fun W2 σ ρ e z => q (.val (sc .non)) .non W2 e.sub e.le e.bags rfl z, fun _ _ _ _ z => z.elim, fun _ _ _ _ z => z.elim, fun s v W2 sub le bg r z => q s v W2 sub le bg r z⟩⟩
end
end WL

namespace WL
open PySem PySem.Spec PyProof.Rows L2 Evl NF
/-! ### what a loop or a comprehension walks -/
structure Grow (W W2 : Wd) : Prop where
  sub : Ex W2.r W2.h
  le : Le (fun _ => False) W W2
abbrev Bd := List (Nat × MP)
def setV : L2.St → Bd → List V → L2.St
  | σ, (j, _) :: L, v :: vs => setV (σ.set j (some v)) L vs
  | σ, _, _ => σ
def setS : List Sl → Bd → List Sl
  | ρ, (j, P) :: L => setS (ρ.set j (.val P)) L
  | ρ, [] => ρ
structure Turns (J : It) (W : Wd) (g : TG) (n : Nat) (B : Nat → Bd → Prop) : Prop where
  stop : ∀ (i : Nat) (W1 : Wd), Ex W.r W1.r → Ex W1.r W1.h → n ≤ i → J.stop i W1.h
  go : ∀ (i : Nat) (W1 : Wd), Ex W.r W1.r → Ex W1.r W1.h → i < n → J.go i W1.h
  yld : ∀ (i : Nat) (W1 : Wd) x H', Ex W.r W1.r → Ex W1.r W1.h → i < n → J.yld i W1.h x H' → ∀ (σ : L2.St) (Q : L2.St → Hp → Prop), (∀ L W2 vs, B i L → Grow W1 W2 → Al W2.r vs (L.map (·.2)) → Q (setV σ L vs) W2.h) → g x σ H' Q
def Wk (ρ : List Sl) (wi : TI) (g : TG) (Φ : Nat → (Nat → Bd → Prop) → Prop) : Prop := ∀ W0 M W σ, En W0 M W σ ρ → ∀ R : It → Hp → Prop, (∀ J W2 n B, Go σ ρ W W2 → Turns J W2 g n B → Φ n B → R J W2.h) → wi σ W.h R
def wipeS (ρ : List Sl) : List Nat → List Sl
  | [] => ρ
  | v :: vs => (wipeS ρ vs).set v .un
section
variable {K : PySem.W.Frag} {W0 W W1 W2 W3 : Wd} {M : Addr → Prop} {σ σ2 : L2.St} {ρ ρ2 : List Sl} {i j k n : Nat} {P P1 P2 P3 : MP} {Ps Qs : List MP} {ta tb tc te tl : TE} {tt t1 t2 : TT} {Ψ : Sl → Prop} {v w u : V} {R : Post} {t tu tw tz : TS} {s : Sl} {tA : TA} {wi : TI} {g : TG} {L : Bd} {Φ : Nat → (Nat → Bd → Prop) → Prop} {vs : List Nat}
theorem Grow.refl (h : Ex W.r W.h) : Grow W W := ⟨h, Le.refl W⟩
theorem Grow.go (e : En W0 M W σ ρ) (g : Grow W W2) : Go σ ρ W W2 := ⟨g.sub, g.le.more fun _ z => z.elim, fun p b => by
  obtain ⟨x, y, h⟩ := (e.bag b).1
  exact ⟨x, y, g.le.h _ _ (fun z => z) h⟩⟩
theorem setS_len : ∀ (L : Bd) (ρ : List Sl), (setS ρ L).length = ρ.length
  | [], _ => rfl
  | (j, P) :: L, ρ => by rw [setS, setS_len L, List.length_set]
theorem En.sets : ∀ {L : Bd} {σ : L2.St} {ρ : List Sl} {vs : List V}, En W0 M W σ ρ → (∀ x ∈ L, x.1 < ρ.length) → Al W.r vs (L.map (·.2)) → En W0 M W (setV σ L vs) (setS ρ L)
  | [], _, _, _, e, _, .nil => e
  | (j, P) :: L, σ, ρ, _, e, h, .cons (v := v) (vs := vs) p t => by
    have e1 : En W0 M W (σ.set j (some v)) (ρ.set j (.val P)) := e.set (s := .val P) e.id p (h (j, P) (List.mem_cons_self ..))
    exact En.sets (L := L) e1 (fun x hx => by rw [List.length_set]; exact h x (List.mem_cons_of_mem _ hx)) t
theorem bags_set (h : s ≠ .bag) {u : Option V} {p : Addr} (b : Bags (σ.set i u) (ρ.set i s) p) : Bags σ ρ p := by
  obtain ⟨k, h1, h2⟩ := b
  by_cases c : i = k
  · subst c
    rw [List.getElem?_set] at h1
    simp only [if_true] at h1
    split at h1
    · exact absurd (Option.some.inj h1) h
    · cases h1
  · rw [List.getElem?_set_ne c] at h1 h2
    exact ⟨k, h1, h2⟩
theorem bags_sets : ∀ {L : Bd} {σ : L2.St} {ρ : List Sl} {vs : List V} {p : Addr}, vs.length = L.length → Bags (setV σ L vs) (setS ρ L) p → Bags σ ρ p
  | [], _, _, [], _, _, b => b
  | [], _, _, _ :: _, _, h, _ => by cases h
  | _ :: _, _, _, [], _, h, _ => by cases h
  | (j, P) :: L, σ, ρ, v :: vs, p, h, b => bags_set (fun z => by cases z) (bags_sets (L := L) (vs := vs) (by simpa using h) b)
theorem En.wipe1 (e : En W0 M W σ ρ) : En W0 M W (σ.set i none) (ρ.set i .un) := by
  refine ⟨e.sub, e.le, e.old, e.bags, by rw [List.length_set, List.length_set]; exact e.len, fun k s hk => ?_, fun k l s t u w a n h1 h2 k1 k2 o1 o2 => ?_⟩
  · by_cases c : i = k
    · subst c
      have hl : i < (ρ.set i Sl.un).length := (List.getElem?_eq_some_iff.mp hk).1
      rw [List.length_set] at hl
      rw [List.getElem?_set_self hl] at hk
      cases hk
      exact ⟨none, List.getElem?_set_self (by rw [e.len]; exact hl), trivial⟩
    · rw [List.getElem?_set_ne c] at hk ⊢
      exact e.ok k s hk
  · have ne : ∀ {k : Nat} {s : Sl} {u : Option V} {a : Addr}, (ρ.set i Sl.un)[k]? = some s → ft W.r u s a → i ≠ k := fun {k s u a} hk o c => by
      subst c
      have hl : i < (ρ.set i Sl.un).length := (List.getElem?_eq_some_iff.mp hk).1
      rw [List.length_set] at hl
      rw [List.getElem?_set_self hl] at hk
      cases hk
      exact o
    have a' := ne h1 o1
    have b' := ne h2 o2
    rw [List.getElem?_set_ne a'] at h1 k1
    rw [List.getElem?_set_ne b'] at h2 k2
    exact e.ne k l s t u w a n h1 h2 k1 k2 o1 o2
theorem En.wipe : ∀ (vs : List Nat), En W0 M W σ ρ → En W0 M W (L2.wipe σ vs) (wipeS ρ vs)
  | [], e => e
  | v :: vs, e => (En.wipe vs e).wipe1
theorem bags_wipe : ∀ {vs : List Nat} {p : Addr}, Bags (L2.wipe σ vs) (wipeS ρ vs) p → Bags σ ρ p
  | [], _, b => b
  | v :: vs, _, b => bags_wipe (vs := vs) (bags_set (fun z => by cases z) b)
theorem wipeS_len : ∀ (vs : List Nat) (ρ : List Sl), (wipeS ρ vs).length = ρ.length
  | [], _ => rfl
  | v :: vs, ρ => by rw [wipeS, List.length_set, wipeS_len vs]
theorem wipe_get : ∀ {vs : List Nat} {σ : L2.St} {i : Nat}, (L2.wipe σ vs)[i]? = if i ∈ vs then (if i < σ.length then some none else none) else σ[i]?
  | [], σ, i => by simp [L2.wipe]
  | v :: vs, σ, i => by
    show ((L2.wipe σ vs).set v none)[i]? = _
    by_cases c : v = i
    · subst c
      rw [List.getElem?_set]
      simp only [if_true, L2.wipe_length, List.mem_cons_self]
    · rw [List.getElem?_set_ne c, wipe_get]
      have : i ∈ v :: vs ↔ i ∈ vs := by simp [Ne.symm c]
      simp only [this]
theorem setV_len : ∀ (L : Bd) (σ : L2.St) (vs : List V), (setV σ L vs).length = σ.length
  | [], _, _ => by cases ‹List V› <;> rfl
  | _ :: _, _, [] => rfl
  | (j, P) :: L, σ, v :: vs => by rw [setV, setV_len L, List.length_set]
theorem setV_get : ∀ {L : Bd} {σ : L2.St} {us : List V} {i : Nat}, (∀ x ∈ L, x.1 ≠ i) → (setV σ L us)[i]? = σ[i]?
  | [], σ, us, i, _ => by cases us <;> rfl
  | _ :: _, _, [], _, _ => rfl
  | (j, P) :: L, σ, v :: vs, i, h => by
    rw [setV, setV_get (fun x hx => h x (List.mem_cons_of_mem _ hx)), List.getElem?_set_ne (h (j, P) (List.mem_cons_self ..))]
theorem wipe_sets {us : List V} (h : ∀ x ∈ L, x.1 ∈ vs) : L2.wipe (setV (L2.wipe σ vs) L us) vs = L2.wipe σ vs := by
  apply List.ext_getElem?
  intro i
  rw [wipe_get, setV_len, L2.wipe_length]
  by_cases c : i ∈ vs
  · rw [if_pos c, wipe_get, if_pos c]
  · rw [if_neg c, setV_get (i := i) fun x hx z => c (by rw [← z]; exact h x hx)]
theorem Go.sub_ (e : En W0 M W σ ρ) (h : ∀ p, Bags σ2 ρ2 p → Bags σ ρ p) (g : Go σ2 ρ2 W W2) : Go σ ρ W W2 := ⟨g.sub, g.le.more h, fun p b => by
  by_cases c : Bags σ2 ρ2 p
  · exact g.bg p c
  · obtain ⟨x, y, hb⟩ := (e.bag b).1
    exact ⟨x, y, g.le.h _ _ c hb⟩⟩
def fitS (L : Bd) (n : Nat) : Bool := L.all fun x => Nat.blt x.1 n
def fitC (L : Bd) (n : Nat) (vs : List Nat) : Bool := L.all fun x => Nat.blt x.1 n && vs.any fun v => Nat.beq x.1 v
theorem fitS_ok (h : fitS L n = true) : ∀ x ∈ L, x.1 < n := fun x hx => Nat.le_of_ble_eq_true (List.all_eq_true.mp h x hx)
theorem fitC_ok (h : fitC L n vs = true) : ∀ x ∈ L, x.1 < n ∧ x.1 ∈ vs := fun x hx => by
  have := List.all_eq_true.mp h x hx
  rw [Bool.and_eq_true] at this
  obtain ⟨a, b⟩ := this
  obtain ⟨v, hv, e⟩ := List.any_eq_true.mp b
  refine ⟨Nat.le_of_ble_eq_true a, ?_⟩
  rw [Nat.eq_of_beq_eq_true e]
  exact hv
/-! ### for -/
theorem g_for (h : Wk ρ wi g fun n B => ∃ I : Nat → List Sl → Prop, I 0 ρ ∧ (∀ i L ρ', i < n → B i L → I i ρ' → fitS L ρ'.length = true ∧ G t (setS ρ' L) { R with nx := I (i + 1), ct := I (i + 1), bk := R.nx }) ∧ ∀ ρ', I n ρ' → R.nx ρ') : G (tFor wi g t) ρ R := fun W0 M W σ D e m => h W0 M W σ e _ fun J W3 n B g3 T q => by
  obtain ⟨I, h0, hs, hd⟩ := q
  have e3 := e.go g3
  refine ⟨fun i m σ' H' => m = n - i ∧ i ≤ n ∧ ∃ W' ρ', W'.h = H' ∧ En ⟨W3.r, W0.h⟩ M W' σ' ρ' ∧ I i ρ', ⟨_, rfl, Nat.zero_le _, W3, ρ, rfl, e3.up, h0⟩, ?_⟩
  rintro i m' σ' H' ⟨rfl, hi, W', ρ', rfl, e', q⟩
  by_cases hlt : i < n
  · refine .inr ⟨T.go i W' e'.le.r e'.sub hlt, fun σ' H' => ∃ W' ρ', W'.h = H' ∧ En ⟨W3.r, W0.h⟩ M W' σ' ρ' ∧ I (i + 1) ρ', fun σ2 H2 z => ⟨n - (i + 1), by omega, rfl, hlt, z⟩, fun x H2 y => ?_⟩
    refine T.yld i W' x H2 e'.le.r e'.sub hlt y σ' _ fun L W4 us hB gr al => ?_
    obtain ⟨hL, body⟩ := hs i L ρ' hlt hB q
    have e4 := (e'.go (gr.go e')).sets (fitS_ok hL) al
    refine body ⟨W3.r, W0.h⟩ M W4 _ _ e4 ⟨fun W σ ρ e q => ⟨W, ρ, rfl, e, q⟩, fun W σ ρ e q => m.nx W σ ρ (En.down e3.le e) q, fun W σ ρ e q => ⟨W, ρ, rfl, e, q⟩, fun s v W sub le bg r q => m.rt s v W sub (Le.down e3.le le) bg ?_ q⟩
    cases s with
    | val P => exact r
    | own Ps => exact r
    | mat Pss => exact r
    | un => exact r
    | bag => exact r
  · have ei : i = n := by omega
    subst ei
    exact .inl ⟨T.stop i W' e'.le.r e'.sub (Nat.le_refl _), m.nx W' σ' ρ' (En.down e3.le e') (hd ρ' q)⟩
/-! ### list comprehensions -/
theorem e_lc (h : Wk ρ wi g fun n B => n ≤ 50000 ∧ ∃ I : Nat → List MP → Prop, I 0 [] ∧ (∀ i L acc, i < n → B i L → I i acc → fitC L ρ.length vs = true ∧ acc.length ≤ i ∧ T (setS (wipeS ρ vs) L) tt fun b => if b = true then E (setS (wipeS ρ vs) L) te (fun s => ∃ P, Set K s P ∧ I (i + 1) (acc ++ [P])) else I (i + 1) acc) ∧ ∀ acc, I n acc → Ψ (.own acc)) :
    E ρ (tLc wi g tt te vs) Ψ := fun W0 M W σ e Q k => h W0 M W σ e _ fun J W2 n B g2 T q => by
  obtain ⟨hn, I, h0, hs, hd⟩ := q
  intro Dl hD
  have e2 := e.go g2
  have nb : ∀ {p}, Bags σ ρ p → p ≠ Dl := fun b z => by
    obtain ⟨_, _, x⟩ := (e2.bag b).1
    rw [z, hD] at x
    cases x
  have rD : W2.r Dl = none := by
    cases c : W2.r Dl with
    | none => rfl
    | some o => rw [g2.sub _ _ c] at hD; cases hD
  refine ⟨fun i m H' => m = n - i ∧ i ≤ n ∧ ∃ W' av ap, W'.h = H' ∧ Go σ ρ W2 W' ∧ H' Dl = some (.lst av) ∧ W'.r Dl = none ∧ Al W'.r av ap ∧ I i ap, ⟨_, rfl, Nat.zero_le _, ?_⟩, ?_⟩
  · obtain ⟨W3, e1, e4, g3, _⟩ := e_new (Ps := []) e2 e2.id hD .nil
    exact ⟨W3, [], [], e1, g3, upd_same, by rw [e4]; exact rD, .nil, h0⟩
  · rintro i m' H' ⟨rfl, hi, W', av, ap, rfl, g', hDl, rD', al, q⟩
    have e' := e2.go g'
    by_cases hlt : i < n
    · refine .inr ⟨T.go i W' g'.le.r g'.sub hlt, fun H' => ∃ W' av ap, W'.h = H' ∧ Go σ ρ W2 W' ∧ H' Dl = some (.lst av) ∧ W'.r Dl = none ∧ Al W'.r av ap ∧ I (i + 1) ap, fun H2 z => ⟨n - (i + 1), by omega, rfl, hlt, z⟩, fun x H2 y => ?_⟩
      refine T.yld i W' x H2 g'.le.r g'.sub hlt y (L2.wipe σ vs) _ fun L W4 us hB gr alu => ?_
      obtain ⟨hL', hlen, body⟩ := hs i L ap hlt hB q
      have hL := fitC_ok hL'
      refine ⟨wipe_sets fun x hx => (hL x hx).2, ?_⟩
      have g4 : Go σ ρ W' W4 := gr.go e'
      have e4 : En W0 M W4 (setV (L2.wipe σ vs) L us) (setS (wipeS ρ vs) L) := ((e'.go g4).wipe vs).sets (fun x hx => by rw [wipeS_len]; exact (hL x hx).1) alu
      have sb : ∀ p, Bags (setV (L2.wipe σ vs) L us) (setS (wipeS ρ vs) L) p → Bags σ ρ p := fun p b => bags_wipe (bags_sets (by rw [alu.length, List.length_map]) b)
      refine body W0 M W4 _ e4 _ fun b W5 g5 z => ?_
      have G5 : Go σ ρ W' W5 := g4.trans (Go.sub_ (e'.go g4) sb g5)
      have e5 := e'.go G5
      have dl : W5.h Dl = some (.lst av) := G5.le.h _ _ (fun b => nb b rfl) hDl
      have rd : W5.r Dl = none := (G5.le.w Dl ⟨⟨_, hDl, rfl⟩, rD'⟩).2
      cases b with
      | false => exact ⟨W5, av, ap, rfl, g'.trans G5, dl, rd, al.mono G5.le.r, z⟩
      | true =>
        refine z W0 M W5 _ (e4.go g5) _ fun s v W6 g6 r q6 => ?_
        obtain ⟨P, hS, hI⟩ := q6
        obtain ⟨W7, e1, _, g7, p7⟩ := settle (e4.go g5) g6 r hS
        have G7 : Go σ ρ W5 W7 := Go.sub_ e5 sb g7
        have dl7 : W7.h Dl = some (.lst av) := G7.le.h _ _ (fun b => nb b rfl) dl
        have rd7 : W7.r Dl = none := (G7.le.w Dl ⟨⟨_, dl, rfl⟩, rd⟩).2
        have al7 := (al.mono G5.le.r).mono G7.le.r
        have GG := (g'.trans G5).trans G7
        refine ⟨av, by rw [← e1]; exact dl7, sz_lt (by rw [al.length]; omega), ?_⟩
        rw [← e1]
        refine ⟨⟨W7.r, upd W7.h Dl (.lst (av ++ [v]))⟩, av ++ [v], ap ++ [P], rfl, ⟨fun a o ha => ?_, ⟨GG.le.r, fun p o n hp => ?_, fun p hp => ?_⟩, fun p b => ?_⟩, upd_same, rd7, al7.app (Al.one p7), hI⟩
        · have c : a ≠ Dl := fun z => by
            have ha' : W7.r a = some o := ha
            rw [z, rd7] at ha'
            cases ha'
          show upd W7.h Dl _ a = _
          rw [upd_ne c]
          exact GG.sub _ _ ha
        · have c : p ≠ Dl := fun z => by rw [z, hD] at hp; cases hp
          show upd W7.h Dl _ p = _
          rw [upd_ne c]
          exact GG.le.h _ _ n hp
        · have c : p ≠ Dl := fun z => by
            obtain ⟨⟨xs, hx, _⟩, _⟩ := hp
            rw [z, hD] at hx
            cases hx
          obtain ⟨⟨xs, hx, hnt⟩, hr⟩ := GG.le.w p hp
          exact ⟨⟨xs, by show upd W7.h Dl _ p = _; rw [upd_ne c]; exact hx, hnt⟩, hr⟩
        · obtain ⟨x, y, hb⟩ := GG.bg p b
          exact ⟨x, y, by show upd W7.h Dl _ p = _; rw [upd_ne (nb b)]; exact hb⟩
    · have ei : i = n := by omega
      subst ei
      refine .inl ⟨T.stop i W' g'.le.r g'.sub (Nat.le_refl _), k (.own ap) _ W' (g2.trans g') (ROk.back e g2 ⟨Dl, av, rfl, hDl, rD', hD, al⟩) (hd ap q)⟩
/-! ### what may be walked -/
theorem wk_range {m : Int} (h : DA ρ tA [sc (.int m)]) (hn : m < 2 ^ 60) (hm : -(2 ^ 60) < m) (q : Φ m.toNat fun i L => L = [(j, sc (.int (i : Int)))]) : Wk ρ (iRng1 tA) (gName j) Φ := fun W0 M W σ e R k => h W0 M W σ e _ fun vs W2 g a => by
  obtain ⟨v, rfl, pv⟩ := a.inv1
  cases pv
  refine ⟨m, rfl, by omega, by omega, k _ W2 _ _ g ⟨fun i W1 _ _ h => h, fun i W1 _ _ h => h, fun i W1 x H' _ sub hi y σ' Q z => ?_⟩ q⟩
  obtain ⟨rfl, rfl⟩ := y
  have := z [(j, sc (.int (i : Int)))] W1 [.int (i : Int)] rfl (Grow.refl sub) (Al.one rfl)
  have z0 : (0 : Int) + (i : Int) = (i : Int) := Int.zero_add _
  show Q (σ'.set j (some (.int (0 + (i : Int))))) W1.h
  rw [z0]
  exact this
theorem wk_list (h : E ρ tl fun s => ∃ Ps, Set K s (lst K Ps) ∧ Φ Ps.length fun i L => ∃ P, Ps[i]? = some P ∧ L = [(j, P)]) : Wk ρ (iList K tl) (gName j) Φ := fun W0 M W σ e R k => h W0 M W σ e _ fun s v W2 g r q => by
  obtain ⟨Ps, hs, q⟩ := q
  obtain ⟨W3, e1, _, g3, p, vs, rfl, hp, al⟩ := settle e g r hs
  rw [← e1]
  have sq : ∀ {W1 : Wd}, Ex W3.r W1.r → Ex W1.r W1.h → SqL K W1.h p vs := fun a b => ex_l (a.trans b) hp
  refine ⟨p, rfl, ⟨vs, ex_l g3.sub hp⟩, k _ W3 _ _ g3 ⟨fun i W1 a b h => ⟨vs, sq a b, by rw [al.length]; exact h⟩, fun i W1 a b h => ⟨vs, _, sq a b, List.getElem?_eq_getElem (by rw [al.length]; exact h)⟩, fun i W1 x H' a b hi y σ' Q z => ?_⟩ q⟩
  obtain ⟨rfl, y⟩ := y
  obtain ⟨P, hP, px⟩ := al.getV (y vs (sq a b))
  exact z [(j, P)] W1 [x] ⟨P, hP, rfl⟩ (Grow.refl b) (Al.one (P.mono a px))
theorem wk_listD (h : D ρ tl (lst K Ps)) (q : Φ Ps.length fun i L => ∃ P, Ps[i]? = some P ∧ L = [(j, P)]) : Wk ρ (iList K tl) (gName j) Φ := wk_list (E.of h ⟨Ps, .val, q⟩)
/-- a new pair in the heap -/
theorem grow_tup {p : Addr} {us : List V} (sub : Ex W.r W.h) (hp : W.h p = none) : Grow W ⟨upd W.r p (.tup us), upd W.h p (.tup us)⟩ := by
  have rp : W.r p = none := by
    cases c : W.r p with
    | none => rfl
    | some o => rw [sub _ _ c] at hp; cases hp
  refine ⟨fun q o hq => ?_, ⟨Ex.new rp, fun q o _ hq => Ex.new hp _ _ hq, fun q hq => ?_⟩⟩
  · by_cases c : q = p
    · subst c
      have hq' : upd W.r q (.tup us) q = some o := hq
      rw [upd_same] at hq'
      cases hq'
      exact upd_same
    · have hq' : upd W.r p (.tup us) q = some o := hq
      rw [upd_ne c] at hq'
      show upd W.h p _ q = _
      rw [upd_ne c]
      exact sub _ _ hq'
  · obtain ⟨⟨xs, h1, hnt⟩, h2⟩ := hq
    have c : q ≠ p := fun z => by rw [z, hp] at h1; cases h1
    exact ⟨⟨xs, by show upd W.h p _ q = _; rw [upd_ne c]; exact h1, hnt⟩, by show upd W.r p _ q = _; rw [upd_ne c]; exact h2⟩
theorem wk_enum (h : D ρ tl (lst K Ps)) (q : Φ Ps.length fun i L => ∃ P, Ps[i]? = some P ∧ L = [(j, sc (.int (i : Int))), (k, P)]) : Wk ρ (iEnum K (tCons tl tNil)) (gTup K 2 (gCons (gName j) (gCons (gName k) gNil))) Φ := fun W0 M W σ e R kk => h W0 M W σ e _ fun v W2 g pv => by
  obtain ⟨p, vs, rfl, hp, al⟩ := pv
  have sq : ∀ {W1 : Wd}, Ex W2.r W1.r → Ex W1.r W1.h → SqL K W1.h p vs := fun a b => ex_l (a.trans b) hp
  refine ⟨p, vs, rfl, ex_l g.sub hp, kk _ W2 _ _ g ⟨fun i W1 a b h => ⟨vs, sq a b, by rw [al.length]; exact h⟩, fun i W1 a b h => ⟨vs, _, sq a b, List.getElem?_eq_getElem (by rw [al.length]; exact h)⟩, fun i W1 x H' a b hi y σ' Q z => ?_⟩ q⟩
  obtain ⟨T, y, rfl, nT, rfl, fy⟩ := y
  obtain ⟨P, hP, px⟩ := al.getV (fy vs (sq a b))
  have gr := grow_tup (us := [.int (i : Int), y]) b nT
  exact ⟨T, _, rfl, SqT.of upd_same, rfl, _, _, rfl, _, _, rfl, rfl, z [(j, sc (.int (i : Int))), (k, P)] _ [.int (i : Int), y] ⟨P, hP, rfl⟩ gr (.cons rfl (Al.one (P.mono gr.le.r (P.mono a px))))⟩
theorem wk_zip {tl2 : TE} (h : D ρ tl (lst K Ps)) (h2 : D ρ tl2 (lst K Qs)) (hl : Ps.length = Qs.length) (q : Φ Ps.length fun i L => ∃ P Q, Ps[i]? = some P ∧ Qs[i]? = some Q ∧ L = [(j, P), (k, Q)]) : Wk ρ (iZip K (tCons tl (tCons tl2 tNil))) (gTup K 2 (gCons (gName j) (gCons (gName k) gNil))) Φ := fun W0 M W σ e R kk => h W0 M W σ e _ fun v W2 g pv => h2 W0 M W2 σ (e.go g) _ fun v3 W3 g3 pv3 => by
  obtain ⟨p, vs, rfl, hp, al⟩ := pv
  obtain ⟨p3, vs3, rfl, hp3, al3⟩ := pv3
  have al := al.mono g3.le.r
  have hp := ex_l g3.le.r hp
  have sq : ∀ {W1 : Wd}, Ex W3.r W1.r → Ex W1.r W1.h → SqL K W1.h p vs := fun a b => ex_l (a.trans b) hp
  have sq3 : ∀ {W1 : Wd}, Ex W3.r W1.r → Ex W1.r W1.h → SqL K W1.h p3 vs3 := fun a b => ex_l (a.trans b) hp3
  refine ⟨p, p3, vs, vs3, rfl, ex_l g3.sub hp, ex_l g3.sub hp3, kk _ W3 _ _ (g.trans g3) ⟨fun i W1 a b h => ⟨vs, vs3, sq a b, sq3 a b, .inl (by rw [al.length]; exact h)⟩, fun i W1 a b h => ⟨vs, vs3, _, _, sq a b, sq3 a b, List.getElem?_eq_getElem (by rw [al.length]; exact h), List.getElem?_eq_getElem (by rw [al3.length, ← hl]; exact h)⟩, fun i W1 x H' a b hi y σ' Q z => ?_⟩ q⟩
  obtain ⟨T, y, y3, rfl, nT, rfl, fy, fy3⟩ := y
  obtain ⟨P, hP, px⟩ := al.getV (fy vs (sq a b))
  obtain ⟨P3, hP3, px3⟩ := al3.getV (fy3 vs3 (sq3 a b))
  have gr := grow_tup (us := [y, y3]) b nT
  exact ⟨T, _, rfl, SqT.of upd_same, rfl, _, _, rfl, _, _, rfl, rfl, z [(j, P), (k, P3)] _ [y, y3] ⟨P, P3, hP, hP3, rfl⟩ gr (.cons (P.mono gr.le.r (P.mono a px)) (Al.one (P3.mono gr.le.r (P3.mono a px3))))⟩
end
end WL

namespace NF
open PySem PySem.Spec PyProof.Rows L2 Evl
theorem call_listK {X : Cx} {K : PySem.W.Frag} (h : X.K = K) : CallR X (.type "list") (rListS K) := h ▸ call_list_of
theorem ix_listK {X : Cx} {K : PySem.W.Frag} (h : X.K = K) : IxR X (rIxL K) := h ▸ ix_list
theorem ix_tupK {X : Cx} {K : PySem.W.Frag} (h : X.K = K) : IxR X (rIxT K) := h ▸ ix_tup
/-! ### a op b op c op d -/
def tChain3 (r1 r2 r3 : R2) (ta tb tc td : TE) : TE := fun σ H Q => ta σ H fun x H1 => tb σ H1 fun y H2 => r1 x y H2 fun z H3 => ∃ k, z = .bl k ∧ (if k = true then tc σ H3 fun u H4 => r2 y u H4 fun z2 H5 => ∃ k2, z2 = .bl k2 ∧ (if k2 = true then td σ H5 fun v H6 => r3 u v H6 Q else Q (.bl false) H5) else Q (.bl false) H3)
theorem pe_chain3 {X : Cx} {a b c d : Expr} {pos : Pos} {ta tb tc td : TE} {o1 o2 o3 : CmpOp} {r1 r2 r3 : R2} (h1 : OpR X (compareOp o1) r1) (h2 : OpR X (compareOp o2) r2) (h3 : OpR X (compareOp o3) r3) (ha : PE X a ta) (hb : PE X b tb) (hc : PE X c tc) (hd : PE X d td)
    (hm : lastMarks [o1, o2, o3] [b, c, d] = false := by with_unfolding_all rfl) : PE X (.Compare a [o1, o2, o3] [b, c, d] pos) (tChain3 r1 r2 r3 ta tb tc td) := by
  constructor
  intro pins s σ H Q I h
  refine Compare_chain (thn (ha.run pins s σ H _ I h) ?_) hm
  rintro va s1 ⟨x, H1, I1, q1, p1⟩
  refine chain_link (thn (hb.run pins s1 σ H1 _ I1 p1) ?_)
  rintro vb s2 ⟨y, H2, I2, q2, p2⟩
  refine thn (h1 pins s2 σ H2 x y va vb _ I2 q1 q2 p2) ?_
  rintro vz s3 ⟨z, H3, I3, q3, k, rfl, p3⟩
  cases q3
  refine wpAny_truthy_bool ?_
  cases k with
  | false => exact ⟨.bl false, H3, I3, rfl, p3⟩
  | true =>
    refine chain_link (thn (hc.run pins s3 σ H3 _ I3 p3) ?_)
    rintro vc s4 ⟨u, H4, I4, q4, p4⟩
    refine thn (h2 pins s4 σ H4 y u vb vc _ I4 q2 q4 p4) ?_
    rintro vy s5 ⟨z2, H5, I5, q5, k2, rfl, p5⟩
    cases q5
    refine wpAny_truthy_bool ?_
    cases k2 with
    | false => exact ⟨.bl false, H5, I5, rfl, p5⟩
    | true => exact chain_last (thn (hd.run pins s5 σ H5 _ I5 p5) fun vd s6 ⟨v, H6, I6, q6, p6⟩ => h3 pins s6 σ H6 u v vc vd Q I6 q4 q6 p6)
section
variable {K : PySem.W.Frag} {H H1 H2 : Hp} {σ : L2.St} {ta tb tc td te tl : TE} {t : TT} {v w x y z u : V} {r1 r2 r3 : R2} {k k2 k3 : Bool}
theorem ev_chain (ha : Ev ta σ H x) (hb : Ev tb σ H y) (hr : RV r1 x y H (.bl k)) (hc : k = true → Ev tc σ H z) (hr2 : k = true → RV r2 y z H (.bl k2)) : Ev (tChain r1 r2 ta tb tc) σ H (.bl (k && k2)) := fun H1 e Q q =>
  ha H1 e _ fun H2 e2 => hb H2 (e.trans e2) _ fun H3 e3 => hr H3 ((e.trans e2).trans e3) _ fun H4 e4 => ⟨k, rfl, by
    have E4 := ((e.trans e2).trans e3).trans e4
    cases k with
    | false => exact q H4 ((e2.trans e3).trans e4)
    | true => exact hc rfl H4 E4 _ fun H5 e5 => hr2 rfl H5 (E4.trans e5) Q fun H6 e6 => q H6 ((((e2.trans e3).trans e4).trans e5).trans e6)⟩
theorem ev_chain3 (ha : Ev ta σ H x) (hb : Ev tb σ H y) (hr : RV r1 x y H (.bl true)) (hc : Ev tc σ H z) (hr2 : RV r2 y z H (.bl true)) (hd : Ev td σ H u) (hr3 : RV r3 z u H (.bl true)) : Ev (tChain3 r1 r2 r3 ta tb tc td) σ H (.bl true) := fun H1 e Q q =>
  ha H1 e _ fun H2 e2 => hb H2 (e.trans e2) _ fun H3 e3 => hr H3 ((e.trans e2).trans e3) _ fun H4 e4 => ⟨true, rfl, by
    have E4 := ((e.trans e2).trans e3).trans e4
    have F4 := (e2.trans e3).trans e4
    exact hc H4 E4 _ fun H5 e5 => hr2 H5 (E4.trans e5) _ fun H6 e6 => ⟨true, rfl, hd H6 ((E4.trans e5).trans e6) _ fun H7 e7 => hr3 H7 (((E4.trans e5).trans e6).trans e7) Q fun H8 e8 => q H8 ((((F4.trans e5).trans e6).trans e7).trans e8)⟩⟩
/-! ### [.. for c in text], all([..]) -/
theorem el_lcS {zs : Str} {j : Nat} {vs : List Nat} (f : Nat → Bool) (g : Nat → V) (h : Ev tl σ H (.str zs)) (hz : zs.cps.size ≤ 40000) (hw : ∀ x, wipe ((wipe σ vs).set j (some x)) vs = wipe σ vs)
    (ht : ∀ (i c : Nat) H1, Ex H H1 → zs.cps[i]? = some c → EvT t ((wipe σ vs).set j (some (.str ⟨#[c]⟩))) H1 (f i)) (he : ∀ (i c : Nat) H1, Ex H H1 → zs.cps[i]? = some c → f i = true → Ev te ((wipe σ vs).set j (some (.str ⟨#[c]⟩))) H1 (g i)) :
    EvL (tLc (iStr tl) (gName j) t te vs) σ H (given zs.cps.size f g) := fun H0 e Q q => h H0 e _ fun H1 e1 => ⟨zs, rfl, fun Dl hD => by
  refine ⟨fun i m G => m = zs.cps.size - i ∧ i ≤ zs.cps.size ∧ Cw H1 f g Dl i G, ⟨_, rfl, Nat.zero_le _, hD, Ex.new hD, upd_same⟩, ?_⟩
  rintro i m G ⟨rfl, hi, p⟩
  by_cases hlt : i < zs.cps.size
  · refine .inr ⟨hlt, Cw H1 f g Dl (i + 1), fun G' p' => ⟨zs.cps.size - (i + 1), by omega, rfl, hlt, p'⟩, ?_⟩
    rintro x G' ⟨rfl, c, hc, rfl⟩
    exact ⟨hw _, cw_turn p (by omega) (ht i c H1 (e.trans e1) hc) fun hf => he i c H1 (e.trans e1) hc hf⟩
  · have ei : i = zs.cps.size := by omega
    subst ei
    exact .inl ⟨Nat.le_refl _, q Dl G (fresh_back e1 p.1) (e1.trans p.2.1) p.2.2⟩⟩
theorem given_all (n : Nat) (g : Nat → V) : given n (fun _ => true) g = (List.range n).map g := by
  unfold given
  rw [List.filter_eq_self.mpr (fun _ _ => rfl)]
theorem given_bl (n : Nat) (b : Nat → Bool) : given n (fun _ => true) (fun i => V.bl (b i)) = ((List.range n).map b).map V.bl := by
  rw [given_all, List.map_map]
  rfl
theorem ev_allN {bs : List Bool} (h : EvL te σ H (bs.map V.bl)) : Ev (tCB (rAll K) (tCons te tNil)) σ H (.bl (bs.all id)) := fun H1 e Q q =>
  h H1 e _ fun p H2 _ e2 hp => ⟨p, bs, rfl, SqL.of hp, q H2 e2⟩
theorem ev_allT {n : Nat} (h : EvL te σ H (given n (fun _ => true) fun _ => V.bl true)) : Ev (tCB (rAll K) (tCons te tNil)) σ H (.bl true) := by
  rw [given_bl n fun _ => true] at h
  have := ev_allN (K := K) h
  have e : (((List.range n).map fun _ => true).all id) = true := by
    rw [List.all_eq_true]
    intro x hx
    obtain ⟨_, _, rfl⟩ := List.mem_map.mp hx
    rfl
  rw [e] at this
  exact this
end
/-! ### marks, shares -/
def Mk (z : Str) : Prop := 1 ≤ z.cps.size ∧ z.cps.size ≤ 4 ∧ ∀ c ∈ z.cps.toList, 97 ≤ c ∧ c ≤ 122
def Shr (x : Rat) : Prop := 0 ≤ x.num ∧ x.num ≤ x.den ∧ x.den ≤ 999
theorem Shr.sz {x : Rat} (h : Shr x) : Sz 10 x := by
  obtain ⟨h1, h2, h3⟩ := h
  constructor <;> omega
def spMark (K : PySem.W.Frag) : Sp := fun vs H Q _ => ∃ z : Str, vs = [.str z] ∧ Mk z ∧ ∀ H', Ex H H' → Q (.bl true) H'
def spShare (K : PySem.W.Frag) : Sp := fun vs H Q _ => ∃ (v : V) (x : Rat), vs = [v] ∧ Rt K H v x ∧ Shr x ∧ ∀ H', Ex H H' → Q (.bl true) H'
/-- the shares of a room: fractions, each a share, together one -/
def Shs (xs : List Rat) (n : Nat) : Prop := xs.length = n ∧ (∀ x ∈ xs, Shr x) ∧ sumF 0 xs = 1
def spRoom (K : PySem.W.Frag) : Sp := fun vs H Q _ => ∃ (a : Addr) (us : List V) (xs : List Rat) (n : Nat), vs = [.int (n : Int), .ref a] ∧ SqL K H a us ∧ RtAll K H us xs ∧ Shs xs n ∧ n ≤ 6 ∧ ∀ H', Ex H H' → Q (.bl true) H'
/-- rows of shares -/
inductive Rows (K : PySem.W.Frag) (H : Hp) : List V → List (List Rat) → Prop
  | nil : Rows K H [] []
  | cons {p : Addr} {us vs : List V} {xs : List Rat} {xss : List (List Rat)} : SqL K H p us → RtAll K H us xs → Rows K H vs xss → Rows K H (.ref p :: vs) (xs :: xss)
theorem Rows.mono {K : PySem.W.Frag} {H H1 : Hp} (e : Ex H H1) : ∀ {vs : List V} {xss : List (List Rat)}, Rows K H vs xss → Rows K H1 vs xss
  | _, _, .nil => .nil
  | _, _, .cons h r t => .cons (ex_l e h) (r.mono e) (Rows.mono e t)
theorem Rows.length {K : PySem.W.Frag} {H : Hp} : ∀ {vs : List V} {xss : List (List Rat)}, Rows K H vs xss → vs.length = xss.length
  | _, _, .nil => rfl
  | _, _, .cons _ _ t => congrArg Nat.succ (Rows.length t)
theorem Rows.get {K : PySem.W.Frag} {H : Hp} : ∀ {vs : List V} {xss : List (List Rat)} {i : Nat} {v : V}, Rows K H vs xss → vs[i]? = some v → ∃ p us xs, v = .ref p ∧ xss[i]? = some xs ∧ SqL K H p us ∧ RtAll K H us xs
  | _, _, _, _, .nil, e => by simp at e
  | _, _, 0, _, .cons h r _, e => by
    have e' := Option.some.inj e
    subst e'
    exact ⟨_, _, _, rfl, rfl, h, r⟩
  | _, _, i + 1, _, .cons _ _ t, e => Rows.get (i := i) t e
def spMarks (K : PySem.W.Frag) : Sp := fun vs H Q _ => ∃ (a : Addr) (zs : List Str), vs = [.ref a] ∧ SqL K H a (zs.map V.str) ∧ 1 ≤ zs.length ∧ zs.length ≤ 6 ∧ (∀ z ∈ zs, Mk z) ∧ ∀ H', Ex H H' → Q .non H'
def spShares (K : PySem.W.Frag) : Sp := fun vs H Q _ => ∃ (a : Addr) (us : List V) (xss : List (List Rat)) (n : Nat), vs = [.int (n : Int), .ref a] ∧ SqL K H a us ∧ Rows K H us xss ∧ xss.length = n ∧ n ≤ 6 ∧ (∀ xs ∈ xss, Shs xs n) ∧ ∀ H', Ex H H' → Q .non H'
end NF

namespace NF
open PySem PySem.Spec PyProof.Rows L2 Evl
/-! ### len(x), x an instance whose class has a __len__ of its own -/
structure LenO (P : Program) (w : World) (K : PySem.W.Frag) (mg : Str → Option Value) (base : Heap) (C : Addr) (k : Nat) (sp : Sp) : Prop where
  ex : ∃ (f : Addr) (fd : FuncData), PySem.W.findIn K (.ref C) "__len__" = some (some (.ref f)) ∧ PySem.W.isFn K (.ref f) = true ∧ FnOk P w K mg base CX0 k f fd ["self"] sp ∧ Binds K fd ["self"] []
def rLenO (C : Addr) (sp : Sp) : List V → Hp → VK → Prop := fun xs H Q => ∃ (a dx : Addr) (fs : List (Str × V)), xs = [.ref a] ∧ H a = some (.ins C dx fs) ∧ sp [.ref a] H (fun v H' => ∃ n : Int, v = .int n ∧ 0 ≤ n ∧ n < 2 ^ 63 ∧ Q (.int n) H') E0
theorem call_lenO {X : Cx} {C : Addr} {k j : Nat} {sp : Sp} (L : LenO X.prog X.w X.K X.mg X.base C k sp) (hr : Room j X.A) (hk : k + 1 ≤ j) : CallR X (.builtin "len") (rLenO C sp) := by
  obtain ⟨f, fd, hl, hf, F, hb⟩ := L.ex
  intro pins s σ H xs us Q I r h
  obtain ⟨a, dx, fs, rfl, ea, hs⟩ := h
  obtain ⟨u, rfl, ru⟩ := vals1 r
  cases (show u = Value.ref a from ru)
  obtain ⟨mA, O, _⟩ := ins_get I.hok ea
  obtain ⟨od, J, _⟩ := O.look
  obtain ⟨m, fr⟩ := I.fr
  have b := hb s [.ref a] I.kIn rfl
  refine PySem.W.len_K fr I.ok.mod.kin J hl hf (wpAny_call (codeAny_mono (F.run X.A.in1 X.stack s H ⟨[.ref a], []⟩ [.ref a] [.ref a] _ E0 (hr.mono hk).in1 I.env0.in1 b (.cons rfl .nil) hs) ?_))
  intro rr s2 z
  match rr, z with
  | .error y, z => exact z.elim
  | .ok (.ret u), z =>
    obtain ⟨v, H', I', rv, n, rfl, h0, h1, q⟩ := I.after z
    obtain ⟨t, rfl⟩ := rv
    exact ⟨⟨h0, h1⟩, .int n, H', I'.tok _, ⟨_, rfl⟩, q⟩
/-! ### o.m(..) -/
structure CalM (P : Program) (w : World) (K : PySem.W.Frag) (mg : Str → Option Value) (base : Heap) (C : Addr) (k : Nat) (m : Str) (ps : List Str) (sp : Sp) : Prop where
  ex : ∃ (f : Addr) (fd : FuncData), Meth K C m f ∧ FnOk P w K mg base CX0 k f fd ps sp ∧ Binds K fd ps []
  cl : Cls K C
section
variable {X : Cx} {C : Addr} {j k : Nat} {m : Str} {ps : List Str} {sp : Sp} {o e : Expr} {es : List Expr} {ta : TE} {t : TA} {pos apos : Pos} {pl : Sem Bool}
theorem pe_calM (M : CalM X.prog X.w X.K X.mg X.base C k m ps sp) (hr : Room j X.A) (hk : k ≤ j) (he : PE X o ta) (ha : PA X (e :: es) t)
    (hst : starEach (e :: es) X.env = (false, eval e X.env) :: starEach es X.env := by rfl) (hpl : (backTo pos (starEach es X.env)).any (·.1) = false := by rfl)
    (ht : eval (.Call (.Attribute o m apos) (e :: es) [] pos) X.env = (do
      let ov ← eval o X.env
      standAt apos.atName
      let (g, first) ← holding [ov] (getMethod ov m pl)
      callWith pos g first (backTo pos (starEach (e :: es) X.env)) (backToKw pos (keywordEach [] X.env))) := by rfl) : PE X (.Call (.Attribute o m apos) (e :: es) [] pos) (tMeth C m sp [] E0 ta t) := by
  obtain ⟨f, fd, hm, F, b⟩ := M.ex
  exact pe_meth he M.cl hm F (hr.mono hk) b .nil pass0 ha hst hpl ht
end
/-! ### a Machine -/
def MaAt (K : PySem.W.Frag) (C : Addr) (H : Hp) (m : Addr) (zs : List Str) (xss : List (List Rat)) : Prop := ∃ (dx am as : Addr) (us : List V), H m = some (.ins C dx [("kept_marks", .ref am), ("kept_shares", .ref as)]) ∧ H am = some (.lst (zs.map V.str)) ∧ H as = some (.lst us) ∧ Rows K H us xss
theorem MaAt.mono {K : PySem.W.Frag} {C m : Addr} {H H1 : Hp} {zs : List Str} {xss : List (List Rat)} (h : MaAt K C H m zs xss) (e : Ex H H1) : MaAt K C H1 m zs xss := by
  obtain ⟨dx, am, as, us, h1, h2, h3, h4⟩ := h
  exact ⟨dx, am, as, us, e _ _ h1, e _ _ h2, e _ _ h3, h4.mono e⟩
/-- a machine as the document has it -/
def Good (zs : List Str) (xss : List (List Rat)) : Prop := 1 ≤ zs.length ∧ zs.length ≤ 6 ∧ (∀ z ∈ zs, NF.Mk z) ∧ xss.length = zs.length ∧ ∀ xs ∈ xss, Shs xs zs.length
theorem RtAll.sq {K : PySem.W.Frag} {H H1 : Hp} (e : ∀ {a xs}, SqT K H a xs → SqT K H1 a xs) : ∀ {vs : List V} {xs : List Rat}, RtAll K H vs xs → RtAll K H1 vs xs
  | _, _, .nil => .nil
  | _, _, .cons ⟨p, e1, h⟩ t => .cons ⟨p, e1, e h⟩ (RtAll.sq e t)
theorem Rows.snoc {K : PySem.W.Frag} {H : Hp} {p : Addr} {us : List V} {xs : List Rat} (h : SqL K H p us) (r : RtAll K H us xs) : ∀ {vs : List V} {xss : List (List Rat)}, Rows K H vs xss → Rows K H (vs ++ [.ref p]) (xss ++ [xs])
  | _, _, .nil => .cons h r .nil
  | _, _, .cons h' r' t => .cons h' r' (Rows.snoc h r t)
section
variable {K : PySem.W.Frag} {H H1 H2 : Hp} {σ : L2.St} {ta tb te tl : TE} {E : XK} {D : Ends} {tz : TS}
/-- rows may stand where an object that is no tuple and no row of theirs changes -/
theorem Rows.exN {st : Addr} {o : HO} (e : Exs st H H1) (hs : H st = some o) (nt : ∀ xs, o ≠ .tup xs) (nf : ∀ ob xs, o ≠ .frz ob (.tup xs)) (nl : ∀ xs, o ≠ .lst xs) (nk : ∀ ob xs, o ≠ .frz ob (.lst xs)) : ∀ {vs : List V} {xss : List (List Rat)}, Rows K H vs xss → Rows K H1 vs xss := by
  have et : ∀ {a xs}, SqT K H a xs → SqT K H1 a xs := fun {a xs} h => by
    rcases h with (h | ⟨ob, h⟩) | h
    · exact .inl (.inl (e _ _ (ne_of h hs fun z => nt _ z.symm) h))
    · exact .inl (.inr ⟨ob, e _ _ (ne_of h hs fun z => nf _ _ z.symm) h⟩)
    · exact .inr h
  have el : ∀ {a xs}, SqL K H a xs → SqL K H1 a xs := fun {a xs} h => by
    rcases h with (h | ⟨ob, h⟩) | h
    · exact .inl (.inl (e _ _ (ne_of h hs fun z => nl _ z.symm) h))
    · exact .inl (.inr ⟨ob, e _ _ (ne_of h hs fun z => nk _ _ z.symm) h⟩)
    · exact .inr h
  have er : ∀ {vs xs}, RtAll K H vs xs → RtAll K H1 vs xs := by
    intro vs xs h
    induction h with
    | nil => exact .nil
    | cons r _ ih =>
      obtain ⟨p, e1, h⟩ := r
      exact .cons ⟨p, e1, et h⟩ ih
  intro vs xss h
  induction h with
  | nil => exact .nil
  | cons h r _ ih => exact .cons (el h) (er r) ih
def EvRows (K : PySem.W.Frag) (te : TE) (σ : L2.St) (H : Hp) (xss : List (List Rat)) : Prop := ∀ H1, Ex H H1 → ∀ Q : VK, (∀ p vs H2, H1 p = none → Ex H1 H2 → H2 p = some (.lst vs) → Rows K H2 vs xss → Q (.ref p) H2) → te σ H1 Q
/-- [list(row) for row in rows] -/
theorem er_copy {a : Addr} {us : List V} {xss : List (List Rat)} {j : Nat} {vs : List Nat} (h : Ev tl σ H (.ref a)) (ha : SqL K H a us) (hr : Rows K H us xss) (hz : us.length ≤ 1000) (hw : ∀ x, wipe ((wipe σ vs).set j (some x)) vs = wipe σ vs) (hj : ∀ x, ((wipe σ vs).set j (some x))[j]? = some (some x)) :
    EvRows K (tLc (iList K tl) (gName j) tYes (tCB (fun xs H Q => ∃ p ys, xs = [V.ref p] ∧ (SqL K H p ys ∨ SqT K H p ys) ∧ ∀ l, H l = none → Q (.ref l) (upd H l (.lst ys))) (tCons (tVar j) tNil)) vs) σ H xss := fun H0 e Q q => h H0 e _ fun H1 e1 => ⟨a, rfl, ⟨us, ex_l (e.trans e1) ha⟩, fun Dl hD => by
  have E1 := e.trans e1
  refine lc_list (xs := us) (fun i G => ∃ ws, H1 Dl = none ∧ Ex H1 G ∧ G Dl = some (.lst ws) ∧ ws.length = i ∧ Rows K (fun b => if b = Dl then none else G b) ws (xss.take i)) ⟨[], hD, Ex.new hD, upd_same, rfl, .nil⟩ (fun i G _ p => p.elim fun ws p => ex_l (E1.trans p.2.1) ha) ?_ ?_
  · rintro i x G hi ⟨ws, n1, x1, hDl, hl, hR⟩
    obtain ⟨p, ys, xs, rfl, hx, hp, hxs⟩ := (hr.mono (E1.trans x1)).get hi
    refine ⟨hw _, ?_⟩
    refine ⟨_, hj _, p, ys, rfl, .inl hp, fun l nl => ?_⟩
    have nlD : l ≠ Dl := fun z => by rw [z, hDl] at nl; cases nl
    have hlt : i < us.length := (List.getElem?_eq_some_iff.mp hi).1
    refine ⟨ws, by rw [upd_ne nlD.symm]; exact hDl, Nat.lt_of_lt_of_le (show ws.length < 1001 by omega) (by decide), ws ++ [.ref l], n1, fun b o hb => ?_, upd_same, by simp [hl], ?_⟩
    · rw [upd_ne (ne_of_none hb n1), upd_ne (fun z => by rw [z] at hb; have := x1 _ _ hb; rw [nl] at this; cases this)]
      exact x1 _ _ hb
    · have ex2 : Ex (fun b => if b = Dl then none else G b) (fun b => if b = Dl then none else (upd (upd G l (.lst ys)) Dl (.lst (ws ++ [.ref l]))) b) := fun b o hb => by
        by_cases c : b = Dl
        · simp [c] at hb
        · simp only [c, if_false] at hb ⊢
          rw [upd_ne c, upd_ne (fun z => by rw [z, nl] at hb; cases hb)]
          exact hb
      have hlx : (fun b => if b = Dl then none else (upd (upd G l (.lst ys)) Dl (.lst (ws ++ [.ref l]))) b) l = some (.lst ys) := by
        simp only [nlD, if_false]
        rw [upd_ne nlD, upd_same]
      have hys : RtAll K (fun b => if b = Dl then none else (upd (upd G l (.lst ys)) Dl (.lst (ws ++ [.ref l]))) b) ys xs := by
        have noD : ∀ {a xs}, SqT K G a xs → SqT K (fun b => if b = Dl then none else (upd (upd G l (.lst ys)) Dl (.lst (ws ++ [.ref l]))) b) a xs := fun {a xs} ht => by
          rcases ht with (ht | ⟨ob, ht⟩) | ht
          · have c1 : a ≠ Dl := ne_of ht hDl (fun z => by cases z)
            have c2 : a ≠ l := fun z => by rw [z, nl] at ht; cases ht
            exact .inl (.inl (by show (if a = Dl then none else _) = _; rw [if_neg c1, upd_ne c1, upd_ne c2]; exact ht))
          · have c1 : a ≠ Dl := ne_of ht hDl (fun z => by cases z)
            have c2 : a ≠ l := fun z => by rw [z, nl] at ht; cases ht
            exact .inl (.inr ⟨ob, by show (if a = Dl then none else _) = _; rw [if_neg c1, upd_ne c1, upd_ne c2]; exact ht⟩)
          · exact .inr ht
        exact hxs.sq noD
      rw [List.take_add_one, hx]
      exact (hR.mono ex2).snoc (SqL.of hlx) hys
  · rintro G ⟨ws, n1, x1, hDl, hl, hR⟩
    rw [hr.length, List.take_length] at hR
    refine q Dl ws G (fresh_back e1 n1) (e1.trans x1) hDl (hR.mono fun b o hb => ?_)
    by_cases c : b = Dl
    · simp [c] at hb
    · simpa [c] using hb⟩
end
end NF

namespace NF
open PySem PySem.Spec PyProof.Rows L2 Evl
theorem pi_listK {X : Cx} {K : PySem.W.Frag} {tg l : Expr} {tl : TE} (h : X.K = K) (hl : PE X l tl) : PI X tg l (iList K tl) := h ▸ pi_list hl
section
variable {K : PySem.W.Frag} {H H1 H2 : Hp} {σ : L2.St} {ta tb te tl : TE} {E : XK} {D : Ends} {tz : TS} {B : Nat}
theorem rt_map {v : Nat → V} {x : Nat → Rat} : ∀ {l : List Nat}, (∀ i ∈ l, Rt K H (v i) (x i)) → RtAll K H (l.map v) (l.map x)
  | [], _ => .nil
  | a :: l, h => .cons (h a (List.mem_cons_self ..)) (rt_map fun i hi => h i (List.mem_cons_of_mem _ hi))
theorem RtAll.exLst {st : Addr} {ys : List V} (e : Exs st H H1) (hs : H st = some (.lst ys)) {vs : List V} {xs : List Rat} (h : RtAll K H vs xs) : RtAll K H1 vs xs := h.sq fun {a xs} ht => by
  rcases ht with (ht | ⟨ob, ht⟩) | ht
  · exact .inl (.inl (e _ _ (ne_of ht hs (fun z => by cases z)) ht))
  · exact .inl (.inr ⟨ob, e _ _ (ne_of ht hs (fun z => by cases z)) ht⟩)
  · exact .inr ht
theorem RtAll.push : ∀ {vs : List V} {xs : List Rat} {v : V} {x : Rat}, RtAll K H vs xs → Rt K H v x → RtAll K H (vs ++ [v]) (xs ++ [x])
  | _, _, _, _, .nil, r => .cons r .nil
  | _, _, _, _, .cons h t, r => .cons h (RtAll.push t r)
/-- [fraction for w in a list] -/
theorem er_lcL {a : Addr} {ws : List V} {xs : List Rat} {j : Nat} {vs : List Nat} (h : Ev tl σ H (.ref a)) (ha : SqL K H a ws) (hl : ws.length = xs.length) (hz : ws.length ≤ 1000) (hw : ∀ x, wipe ((wipe σ vs).set j (some x)) vs = wipe σ vs)
    (he : ∀ (i : Nat) (w : V) (x : Rat) H1, Ex H H1 → ws[i]? = some w → xs[i]? = some x → EvF K te ((wipe σ vs).set j (some w)) H1 x) : EvR K (tLc (iList K tl) (gName j) tYes te vs) σ H xs := fun H0 e Q q => h H0 e _ fun H1 e1 => ⟨a, rfl, ⟨ws, ex_l (e.trans e1) ha⟩, fun Dl hD => by
  have E1 := e.trans e1
  refine lc_list (xs := ws) (fun i G => ∃ us, H1 Dl = none ∧ Ex H1 G ∧ G Dl = some (.lst us) ∧ us.length = i ∧ RtAll K G us (xs.take i)) ⟨[], hD, Ex.new hD, upd_same, rfl, .nil⟩ (fun i G _ p => p.elim fun us p => ex_l (E1.trans p.2.1) ha) ?_ ?_
  · rintro i w G hi ⟨us, n1, x1, hDl, hl1, hR⟩
    have hlt : i < ws.length := (List.getElem?_eq_some_iff.mp hi).1
    have hx : xs[i]? = some xs[i] := List.getElem?_eq_getElem (by omega)
    refine ⟨hw _, ?_⟩
    show te _ G _
    refine he i w xs[i] G (E1.trans x1) hi hx G (Ex.refl G) _ fun u G2 x2 ru => ?_
    have hD2 := x2 _ _ hDl
    refine ⟨us, hD2, Nat.lt_of_lt_of_le (show us.length < 1001 by omega) (by decide), us ++ [u], n1, fun b o hb => ?_, upd_same, by simp [hl1], ?_⟩
    · rw [upd_ne (ne_of_none hb n1)]
      exact (x1.trans x2) _ _ hb
    · rw [List.take_add_one, hx]
      exact ((hR.mono x2).push ru).exLst Exs.upd hD2
  · rintro G ⟨us, n1, x1, hDl, hl1, hR⟩
    rw [hl, List.take_length] at hR
    exact q Dl us G (fresh_back e1 n1) (e1.trans x1) hDl hR⟩
theorem ef_totR {xs : List Rat} (h : EvR K tl σ H xs) (hs : ∀ x ∈ xs, Sz B x) (hB : (xs.length + 2) * (B + 1) ≤ 4000) (h0 : 0 < B) : EvF K (tCall (spTot K) [.non] E (tCons tl tNil)) σ H (sumF 0 xs) := fun H1 e Q q =>
  h H1 e _ fun p us H2 _ e2 hp hx => ⟨p, us, xs, .non, 0, B, rfl, SqL.of hp, hx, .inl ⟨rfl, rfl⟩, ⟨Nat.pow_pos (by decide), by show 1 < 2 ^ B; exact Nat.one_lt_two_pow (by omega)⟩, hs, hB, fun u H' e3 r => q u H' (e2.trans e3) r⟩
/-- an item of a list of fractions, of a row of rows -/
theorem ef_at {a : Addr} {us : List V} {xs : List Rat} {x : Rat} {j : Nat} (h1 : Ev ta σ H (.ref a)) (h2 : Ev tb σ H (.int (j : Int))) (ha : SqL K H a us) (hr : RtAll K H us xs) (hj : xs[j]? = some x) : EvF K (tOp (rIxL K) ta tb) σ H x := fun H1 e Q q =>
  h1 H1 e _ fun H2 e2 => h2 H2 (e.trans e2) _ fun H3 e3 => by
    have E3 := (e.trans e2).trans e3
    have hl : j < us.length := by
      rw [hr.length]
      exact (List.getElem?_eq_some_iff.mp hj).1
    obtain ⟨x', e1, r1⟩ := hr.get (List.getElem?_eq_getElem hl)
    rw [hj] at e1
    cases e1
    exact ⟨a, us, j, us[j], rfl, rfl, ex_l E3 ha, atI_nat (List.getElem?_eq_getElem hl), q _ H3 (e2.trans e3) (r1.mono E3)⟩
theorem ev_row {a : Addr} {us : List V} {xss : List (List Rat)} {xs : List Rat} {j : Nat} (h1 : Ev ta σ H (.ref a)) (h2 : Ev tb σ H (.int (j : Int))) (ha : SqL K H a us) (hr : Rows K H us xss) (hj : xss[j]? = some xs) : ∃ p ws, Ev (tOp (rIxL K) ta tb) σ H (.ref p) ∧ SqL K H p ws ∧ RtAll K H ws xs := by
  have hl : j < us.length := by
    rw [hr.length]
    exact (List.getElem?_eq_some_iff.mp hj).1
  obtain ⟨p, ws, xs', e1, e2, h3, h4⟩ := hr.get (List.getElem?_eq_getElem hl)
  rw [hj] at e2
  cases e2
  exact ⟨p, ws, ev_op h1 h2 (rv_ixL ha (atI_nat (by rw [List.getElem?_eq_getElem hl, e1]))), h3, h4⟩
end
/-! ### a step of a machine -/
def dot (xss : List (List Rat)) (cs : List Rat) (to : Nat) : Rat := sumF 0 ((List.range xss.length).map fun r => cs.getD r 0 * (xss.getD r []).getD to 0)
def step1 (xss : List (List Rat)) (cs : List Rat) : List Rat := (List.range xss.length).map (dot xss cs)
def unit (n r : Nat) : List Rat := (List.range n).map fun i => if i = r then 1 else 0
def walk (xss : List (List Rat)) (r : Nat) : Nat → List Rat
  | 0 => unit xss.length r
  | k + 1 => step1 xss (walk xss r k)
theorem walk_len (xss : List (List Rat)) (r k : Nat) : (walk xss r k).length = xss.length := by
  cases k with
  | zero => simp [walk, unit]
  | succ k => simp [walk, step1]
def spStand (K : PySem.W.Frag) : Sp := fun vs H Q _ => ∃ n r : Nat, vs = [.int (n : Int), .int (r : Int)] ∧ n ≤ 6 ∧ ∀ p us H', H p = none → Ex H H' → H' p = some (.lst us) → RtAll K H' us (unit n r) → Q (.ref p) H'
def spStep (K : PySem.W.Frag) : Sp := fun vs H Q _ => ∃ (a b : Addr) (us ws : List V) (xss : List (List Rat)) (cs : List Rat), vs = [.ref a, .ref b] ∧ SqL K H a us ∧ Rows K H us xss ∧ SqL K H b ws ∧ RtAll K H ws cs ∧ xss.length ≤ 6 ∧ cs.length = xss.length ∧ (∀ xs ∈ xss, Shs xs xss.length) ∧ (∀ c ∈ cs, Sz 245 c) ∧
  ∀ p us' H', H p = none → Ex H H' → H' p = some (.lst us') → RtAll K H' us' (step1 xss cs) → Q (.ref p) H'
end NF

namespace NF
open PySem PySem.Spec PyProof.Rows L2 Evl
/-! ### the other laws' state: a list of two ints -/
def Bg (st : Addr) (H : Hp) : Prop := ∃ g m : Int, H st = some (.lst [.int g, .int m])
theorem Bg.mono {st : Addr} {H H1 : Hp} (e : Ex H H1) (h : Bg st H) : Bg st H1 := by
  obtain ⟨g, m, h⟩ := h
  exact ⟨g, m, e _ _ h⟩
def ExS (st : Addr) (H H' : Hp) : Prop := ∀ b o, b ≠ st → H b = some o → H' b = some o
theorem ExS.refl (st : Addr) (H : Hp) : ExS st H H := fun _ _ _ h => h
theorem ExS.trans {st : Addr} {H H1 H2 : Hp} (a : ExS st H H1) (b : ExS st H1 H2) : ExS st H H2 := fun c o n h => b c o n (a c o n h)
theorem ExS.of {st : Addr} {H H1 : Hp} (e : Ex H H1) : ExS st H H1 := fun c o _ h => e c o h
theorem ExS.upd {st : Addr} {H : Hp} {o : HO} : ExS st H (upd H st o) := fun c u n h => by rw [upd_ne n]; exact h
theorem ExS.ex {st : Addr} {H H1 : Hp} (h : H st = none) (e : ExS st H H1) : Ex H H1 := fun b o hb => e b o (ne_of_none hb h) hb
theorem ExS.tup {K : PySem.W.Frag} {st a : Addr} {H H1 : Hp} {xs : List V} (e : ExS st H H1) (hs : Bg st H) (h : SqT K H a xs) : SqT K H1 a xs := by
  obtain ⟨g, m, hs⟩ := hs
  rcases h with (h | ⟨o, h⟩) | h
  · exact .inl (.inl (e _ _ (ne_of h hs (fun z => by cases z)) h))
  · exact .inl (.inr ⟨o, e _ _ (ne_of h hs (fun z => by cases z)) h⟩)
  · exact .inr h
theorem Rt.exS {K : PySem.W.Frag} {st : Addr} {H H1 : Hp} {v : V} {x : Rat} (r : Rt K H v x) (e : ExS st H H1) (hs : Bg st H) : Rt K H1 v x := by
  obtain ⟨p, e1, h⟩ := r
  exact ⟨p, e1, e.tup hs h⟩
theorem RtAll.exS {K : PySem.W.Frag} {st : Addr} {H H1 : Hp} {vs : List V} {xs : List Rat} (h : RtAll K H vs xs) (e : ExS st H H1) (hs : Bg st H) : RtAll K H1 vs xs := h.sq fun ht => e.tup hs ht
def spBag (K : PySem.W.Frag) : Sp := fun vs H Q _ => ∃ (a : Addr) (ns : List Int) (k : Nat), vs = [.ref a, .int (k : Int)] ∧ SqL K H a (ns.map V.int) ∧ ns.length ≤ 1000 ∧ k ≤ 1000 ∧ ∀ st H', H st = none → Ex H H' → Bg st H' → Q (.ref st) H'
def spOut : Sp := fun vs H Q _ => ∃ (st : Addr) (many : Int), vs = [.ref st, .int many] ∧ Bg st H ∧ 0 < many ∧ many < 2 ^ 60 ∧ ∀ d H', 0 ≤ d → d < many → Bg st H' → ExS st H H' → Q (.int d) H'
def spLow (K : PySem.W.Frag) : Sp := fun vs H Q _ => ∃ (a b : Int) (B : Nat), vs = [.int a, .int b] ∧ 0 < b ∧ a.natAbs < 2 ^ B ∧ b.natAbs < 2 ^ B ∧ 0 < B ∧ B ≤ 9000 ∧ ∀ v H', Ex H H' → Rt K H' v (Rat.divInt a b) → Q v H'
section
variable {K : PySem.W.Frag} {H H1 H2 : Hp} {σ : L2.St} {ta tb te tl : TE} {E : XK} {D : Ends} {tz : TS} {B : Nat} {st : Addr}
theorem ef_low {a b : Int} (ha : Ev ta σ H (.int a)) (hb : Ev tb σ H (.int b)) (hn : 0 < b) (ba : a.natAbs < 2 ^ B) (bb : b.natAbs < 2 ^ B) (h0 : 0 < B) (h4 : B ≤ 9000) : EvF K (tCall (spLow K) [] E (tCons ta (tCons tb tNil))) σ H (Rat.divInt a b) := fun H1 e Q q =>
  ha H1 e _ fun H2 e2 => hb H2 (e.trans e2) _ fun H3 e3 => ⟨a, b, B, rfl, hn, ba, bb, h0, h4, fun u H' e4 ru => q u H' ((e2.trans e3).trans e4) ru⟩
theorem out_ev {i : Nat} {Q : VK} (many : Int) (h1 : σ[i]? = some (some (.ref st))) (hb : Ev tb σ H (.int many)) (hs : Bg st H) (h0 : 0 < many) (hm : many < 2 ^ 60) (q : ∀ d H', 0 ≤ d → d < many → Bg st H' → ExS st H H' → Q (.int d) H') : tCall spOut [] E (tCons (tVar i) (tCons tb tNil)) σ H Q :=
  ⟨_, h1, hb H (Ex.refl H) _ fun H1 e => ⟨st, many, rfl, hs.mono e, h0, hm, fun d H' a b c x => q d H' a b c ((ExS.of e).trans x)⟩⟩
end
end NF

namespace NF
/-! ### whole numbers of Nths -/
def Ml (N : Nat) (x : Rat) : Prop := ∃ t : Int, x * (N : Rat) = (t : Rat)
theorem Ml.add {N : Nat} {x y : Rat} (h : Ml N x) (g : Ml N y) : Ml N (x + y) := by
  obtain ⟨s, hs⟩ := h
  obtain ⟨t, ht⟩ := g
  exact ⟨s + t, by rw [Rat.add_mul, hs, ht, Rat.intCast_add]⟩
theorem Ml.mul {M N : Nat} {x y : Rat} (h : Ml M x) (g : Ml N y) : Ml (M * N) (x * y) := by
  obtain ⟨s, hs⟩ := h
  obtain ⟨t, ht⟩ := g
  refine ⟨s * t, ?_⟩
  rw [Rat.intCast_mul, ← hs, ← ht, Rat.natCast_mul]
  grind
theorem Ml.zero {N : Nat} : Ml N 0 := ⟨0, by simp⟩
theorem Ml.one {N : Nat} : Ml N 1 := ⟨(N : Int), by rw [Rat.one_mul]; rfl⟩
theorem Ml.up {M N : Nat} {x : Rat} (h : Ml M x) (d : M ∣ N) : Ml N x := by
  obtain ⟨s, hs⟩ := h
  obtain ⟨k, rfl⟩ := d
  refine ⟨s * k, ?_⟩
  rw [Rat.intCast_mul, ← hs, Rat.natCast_mul]
  have e : ((k : Int) : Rat) = (k : Rat) := rfl
  grind
theorem div_eq (t : Int) {b : Nat} (hb : 0 < b) : Rat.divInt t b * (b : Rat) = (t : Rat) := by
  have hb' : (b : Rat) ≠ 0 := by
    intro z
    have : b = 0 := by exact_mod_cast z
    omega
  rw [Rat.divInt_eq_div]
  have e : ((b : Int) : Rat) = (b : Rat) := rfl
  rw [e]
  grind
theorem ml_div (t : Int) {b : Nat} (hb : 0 < b) : Ml b (Rat.divInt t b) := ⟨t, div_eq t hb⟩
theorem Ml.eq {N : Nat} {x : Rat} (h : Ml N x) (hN : 0 < N) : ∃ t : Int, x = Rat.divInt t N := by
  obtain ⟨t, ht⟩ := h
  refine ⟨t, ?_⟩
  have h2 := div_eq t hN
  have hb' : (N : Rat) ≠ 0 := by
    intro z
    have : N = 0 := by exact_mod_cast z
    omega
  grind
theorem den_le {t : Int} {N : Nat} (hN : 0 < N) : (Rat.divInt t N).den ≤ N := by
  rw [Rat.den_divInt, if_neg (by omega)]
  exact Nat.le_trans (Nat.div_le_self ..) (by omega)
theorem num01 {x : Rat} (h0 : 0 ≤ x) (h1 : x ≤ 1) : 0 ≤ x.num ∧ x.num ≤ x.den := by
  constructor
  · exact Rat.num_nonneg.mpr h0
  · have h := (not_congr (lt_rt 1 x)).mp (by grind)
    have e1 : (1 : Rat).num = 1 := rfl
    have e2 : (1 : Rat).den = 1 := rfl
    rw [e1, e2] at h
    omega
theorem of01 {x : Rat} (h0 : 0 ≤ x.num) (h1 : x.num ≤ x.den) : 0 ≤ x ∧ x ≤ 1 := by
  constructor
  · exact Rat.num_nonneg.mp h0
  · have h := (not_congr (lt_rt 1 x)).mpr (by
      have e1 : (1 : Rat).num = 1 := rfl
      have e2 : (1 : Rat).den = 1 := rfl
      rw [e1, e2]
      omega)
    grind
theorem Ml.sz {N B : Nat} {x : Rat} (h : Ml N x) (hN : 0 < N) (h0 : 0 ≤ x) (h1 : x ≤ 1) (hb : N < 2 ^ B) : Sz B x := by
  obtain ⟨t, rfl⟩ := h.eq hN
  have hd := den_le (t := t) hN
  obtain ⟨a, b⟩ := num01 h0 h1
  constructor <;> omega
/-! ### sums -/
theorem sumF_snoc (x0 : Rat) (xs : List Rat) (x : Rat) : sumF x0 (xs ++ [x]) = sumF x0 xs + x := by simp [sumF]
theorem sumF_shift (f : Rat) : ∀ (x0 : Rat) (xs : List Rat), sumF (x0 + f) xs = sumF x0 xs + f
  | _, [] => rfl
  | x0, x :: xs => by
    show sumF (x0 + f + x) xs = sumF (x0 + x) xs + f
    rw [show x0 + f + x = x0 + x + f by grind]
    exact sumF_shift f (x0 + x) xs
theorem sumF_first (f : Rat) (xs : List Rat) : sumF f xs = sumF 0 xs + f := by
  rw [← sumF_shift, show (0 : Rat) + f = f by grind]
theorem sumF_cons (x : Rat) (xs : List Rat) : sumF 0 (x :: xs) = x + sumF 0 xs := by
  show sumF (0 + x) xs = _
  rw [sumF_first]
  grind
theorem sumF_app : ∀ (xs ys : List Rat), sumF 0 (xs ++ ys) = sumF 0 xs + sumF 0 ys
  | [], ys => by show sumF 0 ys = 0 + _; grind
  | x :: xs, ys => by
    rw [List.cons_append, sumF_cons, sumF_cons, sumF_app xs ys]
    grind
theorem sumF_rot (xs : List Rat) (k : Nat) : sumF 0 (xs.drop k ++ xs.take k) = sumF 0 xs := by
  rw [sumF_app]
  have h := sumF_app (xs.take k) (xs.drop k)
  rw [List.take_append_drop] at h
  grind
theorem ml_sum {N : Nat} : ∀ {xs : List Rat}, (∀ x ∈ xs, Ml N x) → Ml N (sumF 0 xs)
  | [], _ => Ml.zero
  | x :: xs, h => by
    rw [sumF_cons]
    exact (h x (List.mem_cons_self ..)).add (ml_sum fun y hy => h y (List.mem_cons_of_mem _ hy))
theorem sum_nn : ∀ {xs : List Rat}, (∀ x ∈ xs, 0 ≤ x) → 0 ≤ sumF 0 xs
  | [], _ => by decide
  | x :: xs, h => by
    rw [sumF_cons]
    have h1 := h x (List.mem_cons_self ..)
    have h2 := sum_nn fun y hy => h y (List.mem_cons_of_mem x hy)
    grind
theorem le_sum : ∀ {xs : List Rat}, (∀ x ∈ xs, 0 ≤ x) → ∀ x ∈ xs, x ≤ sumF 0 xs
  | [], _, _, hx => by cases hx
  | y :: ys, h, x, hx => by
    rw [sumF_cons]
    have h1 := h y (List.mem_cons_self ..)
    have h2 := sum_nn fun z hz => h z (List.mem_cons_of_mem y hz)
    rcases List.mem_cons.mp hx with rfl | hx
    · grind
    · have h3 := le_sum (fun z hz => h z (List.mem_cons_of_mem y hz)) x hx
      grind
/-- the sum of f 0 .. f (n - 1) -/
def Su (n : Nat) (f : Nat → Rat) : Rat := sumF 0 ((List.range n).map f)
theorem su_succ (n : Nat) (f : Nat → Rat) : Su (n + 1) f = Su n f + f n := by
  unfold Su
  rw [List.range_succ, List.map_append]
  exact sumF_snoc ..
theorem su_zero (f : Nat → Rat) : Su 0 f = 0 := rfl
theorem su_add (f g : Nat → Rat) : ∀ n, Su n (fun i => f i + g i) = Su n f + Su n g
  | 0 => by simp [su_zero]; grind
  | n + 1 => by
    rw [su_succ, su_succ, su_succ, su_add f g n]
    grind
theorem su_mul (c : Rat) (f : Nat → Rat) : ∀ n, Su n (fun i => c * f i) = c * Su n f
  | 0 => by simp [su_zero]
  | n + 1 => by
    rw [su_succ, su_succ, su_mul c f n]
    grind
theorem su_swap (f : Nat → Nat → Rat) (n : Nat) : ∀ m, Su n (fun j => Su m fun i => f i j) = Su m fun i => Su n fun j => f i j
  | 0 => by
    simp only [su_zero]
    have : ∀ n, Su n (fun _ => (0 : Rat)) = 0 := fun n => by
      induction n with
      | zero => rfl
      | succ n ih => rw [su_succ, ih]; grind
    exact this n
  | m + 1 => by
    simp only [su_succ]
    rw [su_add (fun j => Su m fun i => f i j) (fun j => f m j) n, su_swap f n m]
theorem su_congr {f g : Nat → Rat} : ∀ {n : Nat}, (∀ i, i < n → f i = g i) → Su n f = Su n g
  | 0, _ => rfl
  | n + 1, h => by
    rw [su_succ, su_succ, h n (by omega), su_congr fun i hi => h i (by omega)]
theorem su_list (xs : List Rat) : sumF 0 xs = Su xs.length fun i => xs.getD i 0 := by
  unfold Su
  congr 1
  apply List.ext_getElem?
  intro i
  by_cases h : i < xs.length
  · simp [h]
  · simp [h]
/-! ### the chances of a walk -/
theorem Shr.le {x : Rat} (h : Shr x) : 0 ≤ x ∧ x ≤ 1 := of01 h.1 h.2.1
theorem step_sum {xss : List (List Rat)} {cs : List Rat} (hl : cs.length = xss.length) (hs : ∀ xs ∈ xss, Shs xs xss.length) : sumF 0 (step1 xss cs) = sumF 0 cs := by
  show Su xss.length (fun to => Su xss.length fun r => cs.getD r 0 * (xss.getD r []).getD to 0) = _
  rw [su_swap (fun r to => cs.getD r 0 * (xss.getD r []).getD to 0), su_list cs, hl]
  refine su_congr fun r hr => ?_
  rw [su_mul]
  have hx : xss.getD r [] ∈ xss := by
    rw [List.getD_eq_getElem?_getD, List.getElem?_eq_getElem hr]
    exact List.getElem_mem hr
  obtain ⟨h1, _, h3⟩ := hs _ hx
  rw [su_list, h1] at h3
  rw [h3]
  grind
theorem getD_ok {P : Rat → Prop} {xs : List Rat} (h0 : P 0) (h : ∀ x ∈ xs, P x) (i : Nat) : P (xs.getD i 0) := by
  rw [List.getD_eq_getElem?_getD]
  by_cases hi : i < xs.length
  · rw [List.getElem?_eq_getElem hi]
    exact h _ (List.getElem_mem hi)
  · rw [List.getElem?_eq_none (by omega)]
    exact h0
theorem getD_row {P : Rat → Prop} {xss : List (List Rat)} (h0 : P 0) (h : ∀ xs ∈ xss, ∀ x ∈ xs, P x) (r i : Nat) : P ((xss.getD r []).getD i 0) := by
  rw [List.getD_eq_getElem?_getD (l := xss)]
  by_cases hi : r < xss.length
  · rw [List.getElem?_eq_getElem hi]
    exact getD_ok h0 (h _ (List.getElem_mem hi)) i
  · rw [List.getElem?_eq_none (by omega)]
    simpa using h0
theorem walk_ok {xss : List (List Rat)} {N r : Nat} (hs : ∀ xs ∈ xss, Shs xs xss.length) (hm : ∀ xs ∈ xss, ∀ x ∈ xs, Ml N x) (hr : r < xss.length) : ∀ k, sumF 0 (walk xss r k) = 1 ∧ ∀ c ∈ walk xss r k, 0 ≤ c ∧ c ≤ 1 ∧ Ml (N ^ k) c
  | 0 => by
    have e : sumF 0 (walk xss r 0) = 1 := by
      show Su xss.length (fun i => if i = r then 1 else 0) = 1
      have : ∀ n, Su n (fun i => if i = r then (1 : Rat) else 0) = if r < n then 1 else 0 := fun n => by
        induction n with
        | zero => rfl
        | succ n ih =>
          rw [su_succ, ih]
          by_cases h1 : r < n
          · rw [if_pos h1, if_neg (show n ≠ r by omega), if_pos (by omega)]
            grind
          · rw [if_neg h1]
            by_cases h2 : n = r
            · rw [if_pos h2, if_pos (by omega)]
              grind
            · rw [if_neg h2, if_neg (by omega)]
              grind
      rw [this, if_pos hr]
    refine ⟨e, fun c hc => ?_⟩
    obtain ⟨i, _, rfl⟩ := List.mem_map.mp hc
    split
    · exact ⟨by decide, by decide, Ml.one⟩
    · exact ⟨by decide, by decide, Ml.zero⟩
  | k + 1 => by
    obtain ⟨e, h⟩ := walk_ok hs hm hr k
    have e1 : sumF 0 (walk xss r (k + 1)) = 1 := by
      show sumF 0 (step1 xss (walk xss r k)) = 1
      rw [step_sum (walk_len xss r k) hs, e]
    have c0 : ∀ i, 0 ≤ (walk xss r k).getD i 0 := getD_ok (P := fun c => 0 ≤ c) (by decide) fun c hc => (h c hc).1
    have cm : ∀ i, Ml (N ^ k) ((walk xss r k).getD i 0) := getD_ok Ml.zero fun c hc => (h c hc).2.2
    have s0 : ∀ i j, 0 ≤ (xss.getD i []).getD j 0 := getD_row (P := fun c => 0 ≤ c) (by decide) fun xs hx x h => ((hs xs hx).2.1 x h).le.1
    have sm : ∀ i j, Ml N ((xss.getD i []).getD j 0) := getD_row Ml.zero hm
    have nn : ∀ c ∈ walk xss r (k + 1), 0 ≤ c := by
      intro c hc
      obtain ⟨to, _, rfl⟩ := List.mem_map.mp hc
      refine sum_nn fun x hx => ?_
      obtain ⟨i, _, rfl⟩ := List.mem_map.mp hx
      exact Rat.mul_nonneg (c0 i) (s0 i to)
    refine ⟨e1, fun c hc => ⟨nn c hc, ?_, ?_⟩⟩
    · have := le_sum nn c hc
      rw [e1] at this
      exact this
    · obtain ⟨to, _, rfl⟩ := List.mem_map.mp hc
      refine ml_sum fun x hx => ?_
      obtain ⟨i, _, rfl⟩ := List.mem_map.mp hx
      rw [Nat.pow_succ]
      exact (cm i).mul (sm i to)
/-- a bottom for all rows: those of rows multiplied -/
theorem rows_ml {b : Nat} : ∀ {xss : List (List Rat)}, (∀ xs ∈ xss, ∃ d : Nat, 0 < d ∧ d ≤ b ∧ ∀ x ∈ xs, Ml d x) → ∃ N : Nat, 0 < N ∧ N ≤ b ^ xss.length ∧ ∀ xs ∈ xss, ∀ x ∈ xs, Ml N x
  | [], _ => ⟨1, by decide, Nat.le_refl _, nofun⟩
  | xs :: xss, h => by
    obtain ⟨d, d0, db, hd⟩ := h xs (List.mem_cons_self ..)
    obtain ⟨N, n0, nb, hN⟩ := rows_ml fun ys hy => h ys (List.mem_cons_of_mem _ hy)
    refine ⟨d * N, Nat.mul_pos d0 n0, ?_, fun ys hy => ?_⟩
    · rw [List.length_cons, Nat.pow_succ, Nat.mul_comm]
      exact Nat.mul_le_mul nb db
    · rcases List.mem_cons.mp hy with rfl | hy
      · exact fun x hx => (hd x hx).up ⟨N, rfl⟩
      · exact fun x hx => (hN ys hy x hx).up ⟨d, Nat.mul_comm ..⟩
theorem small_ml {x : Rat} {d : Nat} (h0 : 0 < d) (h : d ≤ 12) (hx : Ml d x) : Ml 27720 x := by
  refine hx.up ?_
  have : d = 1 ∨ d = 2 ∨ d = 3 ∨ d = 4 ∨ d = 5 ∨ d = 6 ∨ d = 7 ∨ d = 8 ∨ d = 9 ∨ d = 10 ∨ d = 11 ∨ d = 12 := by omega
  rcases this with rfl | rfl | rfl | rfl | rfl | rfl | rfl | rfl | rfl | rfl | rfl | rfl <;> decide
/-- the machines that the laws draw: their bottoms are small, or there are few steps -/
def Bot (b : Nat) (xss : List (List Rat)) : Prop := ∀ xs ∈ xss, ∃ d : Nat, 0 < d ∧ d ≤ b ∧ ∀ x ∈ xs, Ml d x
theorem walk_small {xss : List (List Rat)} {r k : Nat} (hs : ∀ xs ∈ xss, Shs xs xss.length) (hb : Bot 12 xss) (hr : r < xss.length) (hk : k ≤ 12) : ∀ c ∈ walk xss r k, Sz 245 c := by
  have hm : ∀ xs ∈ xss, ∀ x ∈ xs, Ml 27720 x := fun xs hx x h => by
    obtain ⟨d, d0, db, hd⟩ := hb xs hx
    exact small_ml d0 db (hd x h)
  intro c hc
  obtain ⟨h0, h1, h2⟩ := (walk_ok hs hm hr k).2 c hc
  refine h2.sz (Nat.pow_pos (by decide)) h0 h1 ?_
  exact Nat.lt_of_le_of_lt (Nat.pow_le_pow_right (by decide) hk) (by decide)
theorem walk_great {xss : List (List Rat)} {r k : Nat} (hs : ∀ xs ∈ xss, Shs xs xss.length) (hb : Bot 999 xss) (h6 : xss.length ≤ 6) (hr : r < xss.length) (hk : k ≤ 4) : ∀ c ∈ walk xss r k, Sz 245 c := by
  obtain ⟨N, n0, nb, hN⟩ := rows_ml hb
  intro c hc
  obtain ⟨h0, h1, h2⟩ := (walk_ok hs hN hr k).2 c hc
  refine h2.sz (Nat.pow_pos n0) h0 h1 ?_
  have a1 : N ≤ 999 ^ 6 := Nat.le_trans nb (Nat.pow_le_pow_right (by decide) h6)
  exact Nat.lt_of_le_of_lt (Nat.le_trans (Nat.pow_le_pow_left a1 k) (Nat.pow_le_pow_right (by decide) hk)) (by decide)
/-- behind one step: the room's shares -/
theorem walk_one {xss : List (List Rat)} {r : Nat} {xs : List Rat} (hx : xss[r]? = some xs) (hs : ∀ xs ∈ xss, Shs xs xss.length) : walk xss r 1 = xs := by
  obtain ⟨hr, e⟩ := List.getElem?_eq_some_iff.mp hx
  have hl : xs.length = xss.length := (hs xs (e ▸ List.getElem_mem hr)).1
  show (List.range xss.length).map (dot xss (unit xss.length r)) = xs
  have hd : ∀ to, dot xss (unit xss.length r) to = xs.getD to 0 := fun to => by
    show Su xss.length (fun i => (unit xss.length r).getD i 0 * (xss.getD i []).getD to 0) = _
    have e1 : Su xss.length (fun i => (unit xss.length r).getD i 0 * (xss.getD i []).getD to 0) = Su xss.length (fun i => if i = r then xs.getD to 0 else 0) := su_congr fun i hi => by
      have : (unit xss.length r).getD i 0 = if i = r then 1 else 0 := by
        unfold unit
        simp [List.getD_eq_getElem?_getD, hi]
      rw [this]
      by_cases c : i = r
      · subst c
        rw [if_pos rfl, if_pos rfl, List.getD_eq_getElem?_getD (l := xss), hx]
        grind
      · rw [if_neg c, if_neg c]
        grind
    rw [e1]
    have : ∀ n, Su n (fun i => if i = r then xs.getD to 0 else 0) = if r < n then xs.getD to 0 else 0 := fun n => by
      induction n with
      | zero => rfl
      | succ n ih =>
        rw [su_succ, ih]
        by_cases h1 : r < n
        · rw [if_pos h1, if_neg (show n ≠ r by omega), if_pos (by omega)]
          grind
        · rw [if_neg h1]
          by_cases h2 : n = r
          · rw [if_pos h2, if_pos (by omega)]
            grind
          · rw [if_neg h2, if_neg (by omega)]
            grind
    rw [this, if_pos hr]
  rw [← hl]
  apply List.ext_getElem?
  intro i
  by_cases h : i < xs.length
  · rw [List.getElem?_map, List.getElem?_range h, Option.map_some, hl, hd, List.getD_eq_getElem?_getD, List.getElem?_eq_getElem h]
    rfl
  · rw [List.getElem?_eq_none (by simpa using h), List.getElem?_eq_none (by omega)]
end NF

namespace NF
open PySem PySem.Spec PyProof.Rows L2 Evl
/-! ### "".join of signs -/
theorem foldl_cps : ∀ (cs : List Nat) (acc : Array Nat), ((cs.map fun c => (⟨#[c]⟩ : Str)).foldl (fun (acc : Array Nat) p => acc ++ (Str.ofString "").cps ++ p.cps) acc).toList = acc.toList ++ cs
  | [], acc => by simp
  | c :: cs, acc => by
    rw [List.map_cons, List.foldl_cons, foldl_cps cs]
    have : (Str.ofString "").cps = #[] := by decide +kernel
    simp [this]
theorem glue_cps (cs : List Nat) : (Txt.join (Str.ofString "") (cs.map fun c => ⟨#[c]⟩)).cps.toList = cs := by
  cases cs with
  | nil => rfl
  | cons c cs =>
    show ((cs.map fun c => (⟨#[c]⟩ : Str)).foldl (fun (acc : Array Nat) p => acc ++ (Str.ofString "").cps ++ p.cps) #[c]).toList = _
    rw [foldl_cps]
    rfl
theorem mk_glue {cs : List Nat} (h1 : 1 ≤ cs.length) (h4 : cs.length ≤ 4) (hc : ∀ c ∈ cs, 97 ≤ c ∧ c ≤ 122) : NF.Mk (Txt.join (Str.ofString "") (cs.map fun c => ⟨#[c]⟩)) := by
  have e := glue_cps cs
  have el : (Txt.join (Str.ofString "") (cs.map fun c => ⟨#[c]⟩)).cps.size = cs.length := by
    rw [← Array.length_toList, e]
  exact ⟨by omega, by omega, by rw [e]; exact hc⟩
/-! ### raw steps -/
section
variable {K : PySem.W.Frag} {H H1 H2 : Hp} {σ : L2.St} {ta tb te tl : TE} {v w u : V} {x y : Rat} {E : XK} {D : Ends} {tz t1 t2 : TS} {tc : TT} {tA : TA} {Q : VK} {l st : Addr} {xs ys : List V}
theorem q_raw {i : Nat} (h : te σ H fun x H1 => tz D (σ.set i (some x)) H1) : tSeq (tAsg te (gName i)) tz D σ H := h
theorem s_raw (h : te σ H D.rt) : tRet te D σ H := h
theorem a_raw {i : Nat} (h : te σ H fun x H1 => D.nx (σ.set i (some x)) H1) : tAsg te (gName i) D σ H := h
theorem op_raw {r : R2} (h : ta σ H fun x H1 => tb σ H1 fun y H2 => r x y H2 Q) : tOp r ta tb σ H Q := h
theorem call_raw {sp : Sp} {dvs : List V} (h : tA σ H fun vs H1 => sp (vs ++ dvs) H1 Q E) : tCall sp dvs E tA σ H Q := h
theorem cons_raw {Q : List V → Hp → Prop} (h : ta σ H fun x H1 => tA σ H1 fun xs H2 => Q (x :: xs) H2) : tCons ta tA σ H Q := h
theorem nil_raw {Q : List V → Hp → Prop} (h : Q [] H) : tNil σ H Q := h
theorem c_raw (h : Q v H) : tC v σ H Q := h
theorem v_raw {i : Nat} (e : σ[i]? = some (some v)) (h : Q v H) : tVar i σ H Q := ⟨v, e, h⟩
theorem cb_raw {r : List V → Hp → VK → Prop} (h : tA σ H fun vs H1 => r vs H1 Q) : tCB r tA σ H Q := h
theorem lst_raw (h : tA σ H fun xs H1 => xs.length ≤ sizeLine ∧ ∀ p, H1 p = none → Q (.ref p) (upd H1 p (.lst xs))) : tLst tA σ H Q := h
theorem if_raw (h : tc σ H fun b H1 => if b = true then t1 { D with nx := tz D } σ H1 else t2 { D with nx := tz D } σ H1) : tSeq (tIfS tc t1 t2) tz D σ H := h
theorem test_raw {Q : Bool → Hp → Prop} (h : te σ H fun x H' => ∃ k, x = .bl k ∧ Q k H') : tTest te σ H Q := h
theorem not_raw {Q : Bool → Hp → Prop} (h : tc σ H fun b H1 => Q (!b) H1) : tNot tc σ H Q := h
theorem app_eq {Q : Hp → Prop} : (fun (y : V) (H2 : Hp) => rAppend (.ref l) [y] H2 fun _ H3 => Q H3) = fun y H2 => ∃ xs, H2 l = some (.lst xs) ∧ xs.length < sizeLine ∧ Q (upd H2 l (.lst (xs ++ [y]))) := by
  funext y H2
  apply propext
  constructor
  · rintro ⟨l', xs, y', e1, e2, h1, h2, h3⟩
    cases e1
    cases e2
    exact ⟨xs, h1, h2, h3⟩
  · rintro ⟨xs, h1, h2, h3⟩
    exact ⟨l, xs, y, rfl, rfl, h1, h2, h3⟩
theorem qapp_raw {i : Nat} (e : σ[i]? = some (some (.ref l))) (hl : H l = some (.lst xs)) (h : te σ H fun y H2 => ∃ xs, H2 l = some (.lst xs) ∧ xs.length < sizeLine ∧ tz D σ (upd H2 l (.lst (xs ++ [y])))) : tSeq (tDrop (tBM K "list" rAppend (tVar i) (tCons te tNil))) tz D σ H := by
  refine ⟨_, e, .inl ⟨rfl, xs, SqL.of hl⟩, ?_⟩
  show te σ H fun y H2 => rAppend (.ref l) [y] H2 fun _ H3 => tz D σ H3
  rw [app_eq]
  exact h
theorem sapp_raw {i : Nat} (e : σ[i]? = some (some (.ref l))) (hl : H l = some (.lst xs)) (h : te σ H fun y H2 => ∃ xs, H2 l = some (.lst xs) ∧ xs.length < sizeLine ∧ D.nx σ (upd H2 l (.lst (xs ++ [y])))) : tDrop (tBM K "list" rAppend (tVar i) (tCons te tNil)) D σ H :=
  qapp_raw (K := K) (tz := fun D => D.nx) (D := D) e hl h
theorem sz_lt' {n : Nat} (h : n < 100000) : n < sizeLine := Nat.lt_of_lt_of_le h (by decide)
theorem q_appF {i : Nat} (e : σ[i]? = some (some (.ref l))) (hl : H l = some (.lst xs)) (h : EvF K te σ H x) (hx : xs.length < 100000) (k : ∀ u H1, Ex H H1 → Rt K H1 u x → tz D σ (upd H1 l (.lst (xs ++ [u])))) : tSeq (tDrop (tBM K "list" rAppend (tVar i) (tCons te tNil))) tz D σ H :=
  qapp_raw e hl (h H (Ex.refl H) _ fun u H1 e1 r => ⟨xs, e1 _ _ hl, sz_lt' hx, k u H1 e1 r⟩)
theorem s_appF {i : Nat} (e : σ[i]? = some (some (.ref l))) (hl : H l = some (.lst xs)) (h : EvF K te σ H x) (hx : xs.length < 100000) (k : ∀ u H1, Ex H H1 → Rt K H1 u x → D.nx σ (upd H1 l (.lst (xs ++ [u])))) : tDrop (tBM K "list" rAppend (tVar i) (tCons te tNil)) D σ H :=
  sapp_raw e hl (h H (Ex.refl H) _ fun u H1 e1 r => ⟨xs, e1 _ _ hl, sz_lt' hx, k u H1 e1 r⟩)
theorem el_cat (ha : EvL ta σ H xs) (hb : EvL tb σ H ys) (hl : xs.length + ys.length ≤ 100000) : EvL (tOp rCat ta tb) σ H (xs ++ ys) := fun H1 e Q q =>
  ha H1 e _ fun p H2 np e2 hp => hb H2 (e.trans e2) _ fun p' H3 np' e3 hp' => ⟨p, p', xs, ys, rfl, rfl, e3 _ _ hp, hp', Nat.le_trans hl (by decide), fun r nr => q r _ (fresh_back (e2.trans e3) nr) ((e2.trans e3).trans (Ex.new nr)) upd_same⟩
/-! ### fractions in lists -/
theorem RtAll.append : ∀ {vs ws : List V} {xs ys : List Rat}, RtAll K H vs xs → RtAll K H ws ys → RtAll K H (vs ++ ws) (xs ++ ys)
  | _, _, _, _, .nil, h => h
  | _, _, _, _, .cons r t, h => .cons r (RtAll.append t h)
theorem RtAll.drop : ∀ {vs : List V} {xs : List Rat} (k : Nat), RtAll K H vs xs → RtAll K H (vs.drop k) (xs.drop k)
  | _, _, 0, h => h
  | _, _, k + 1, .nil => .nil
  | _, _, k + 1, .cons _ t => RtAll.drop k t
theorem RtAll.take : ∀ {vs : List V} {xs : List Rat} (k : Nat), RtAll K H vs xs → RtAll K H (vs.take k) (xs.take k)
  | _, _, 0, _ => .nil
  | _, _, k + 1, .nil => .nil
  | _, _, k + 1, .cons r t => .cons r (RtAll.take k t)
theorem cut_rot {α : Type} {k : Nat} : True := trivial
theorem cutV_hi {vs : List V} {k : Nat} (h : k ≤ vs.length) : cutV vs (some (k : Int)) none = vs.drop k := by
  unfold cutV HT.sIx
  simp only
  rw [if_neg (by omega), Int.toNat_natCast, Nat.min_eq_left h, ← List.length_drop, List.take_length]
theorem cutV_lo {vs : List V} {k : Nat} (h : k ≤ vs.length) : cutV vs none (some (k : Int)) = vs.take k := by
  unfold cutV HT.sIx
  simp only
  rw [if_neg (by omega), Int.toNat_natCast, Nat.min_eq_left h]
  simp
/-! ### a heap without some of its objects -/
def Off (S : List Addr) (H : Hp) : Hp := fun b => if b ∈ S then none else H b
theorem Off.ex {S : List Addr} (h : ∀ b o, b ∉ S → H b = some o → H1 b = some o) : Ex (Off S H) (Off S H1) := fun b o e => by
  unfold Off at e ⊢
  by_cases c : b ∈ S
  · rw [if_pos c] at e
    cases e
  · rw [if_neg c] at e ⊢
    exact h b o c e
theorem Off.le {S : List Addr} : Ex (Off S H) H := fun b o e => by
  unfold Off at e
  by_cases c : b ∈ S
  · rw [if_pos c] at e
    cases e
  · rw [if_neg c] at e
    exact e
theorem Off.lst {S : List Addr} {a : Addr} {us : List V} (n : a ∉ S) (h : SqL K H a us) : SqL K (Off S H) a us := by
  have e : ∀ {o}, H a = some o → Off S H a = some o := fun h => by
    unfold Off
    rw [if_neg n]
    exact h
  rcases h with (h | ⟨ob, h⟩) | h
  · exact .inl (.inl (e h))
  · exact .inl (.inr ⟨ob, e h⟩)
  · exact .inr h
theorem Off.rt {S : List Addr} (hS : ∀ b ∈ S, ∃ xs, H b = some (.lst xs)) {vs : List V} {xs : List Rat} (h : RtAll K H vs xs) : RtAll K (Off S H) vs xs := h.sq fun {a zs} ht => by
  have e : ∀ {o}, (∀ xs, o ≠ .lst xs) → H a = some o → Off S H a = some o := fun hn h => by
    unfold Off
    rw [if_neg fun c => ?_]
    · exact h
    · obtain ⟨xs, hx⟩ := hS a c
      rw [hx] at h
      cases h
      exact hn _ rfl
  rcases ht with (h | ⟨ob, h⟩) | h
  · exact .inl (.inl (e (fun _ z => by cases z) h))
  · exact .inl (.inr ⟨ob, e (fun _ z => by cases z) h⟩)
  · exact .inr h
/-! ### what stays where the state changes -/
theorem SqL.exS {a : Addr} {us : List V} (e : ExS st H H1) (hs : Bg st H) (hn : ∀ g m : Int, us ≠ [.int g, .int m]) (h : SqL K H a us) : SqL K H1 a us := by
  obtain ⟨g, m, hs⟩ := hs
  rcases h with (h | ⟨ob, h⟩) | h
  · exact .inl (.inl (e _ _ (fun z => by rw [z, hs] at h; cases h; exact hn _ _ rfl) h))
  · exact .inl (.inr ⟨ob, e _ _ (ne_of h hs (fun z => by cases z)) h⟩)
  · exact .inr h
theorem RtAll.noInt {us : List V} {xs : List Rat} {g m : Int} (h : RtAll K H us xs) : us ≠ [.int g, .int m] := by
  rintro rfl
  cases h with
  | cons r _ =>
    obtain ⟨p, e, _⟩ := r
    cases e
theorem Rows.exS (e : ExS st H H1) (hs : Bg st H) : ∀ {vs : List V} {xss : List (List Rat)}, Rows K H vs xss → Rows K H1 vs xss
  | _, _, .nil => .nil
  | _, _, .cons h r t => .cons (SqL.exS e hs (fun _ _ => r.noInt) h) (r.exS e hs) (Rows.exS e hs t)
theorem Rows.noInt {us : List V} {xss : List (List Rat)} {g m : Int} (h : Rows K H us xss) : us ≠ [.int g, .int m] := by
  rintro rfl
  cases h
theorem strs_noInt {zs : List Str} {g m : Int} : zs.map V.str ≠ [.int g, .int m] := by
  intro h
  cases zs with
  | nil => cases h
  | cons z zs => cases h
theorem MaAt.exS {C m : Addr} {zs : List Str} {xss : List (List Rat)} (h : MaAt K C H m zs xss) (e : ExS st H H1) (hs : Bg st H) : MaAt K C H1 m zs xss := by
  obtain ⟨dx, am, as, us, h1, h2, h3, h4⟩ := h
  obtain ⟨g, n, hst⟩ := id hs
  refine ⟨dx, am, as, us, e _ _ (ne_of h1 hst (fun z => by cases z)) h1, e _ _ (fun z => ?_) h2, e _ _ (fun z => ?_) h3, h4.exS e hs⟩
  · rw [z, hst] at h2
    have h2' := HO.lst.inj (Option.some.inj h2)
    exact strs_noInt h2'.symm
  · rw [z, hst] at h3
    have h3' := HO.lst.inj (Option.some.inj h3)
    exact h4.noInt h3'.symm
theorem Bg.new {p : Addr} {o : HO} (h : Bg st H) (np : H p = none) : Bg st (upd H p o) := h.mono (Ex.new np)
theorem Bg.upd {p : Addr} {o : HO} (h : Bg st H) (n : p ≠ st) : Bg st (upd H p o) := by
  obtain ⟨g, m, h⟩ := h
  exact ⟨g, m, by rw [upd_ne n.symm]; exact h⟩
/-! ### what the laws draw -/
def spWord : Sp := fun vs H Q _ => ∃ st : Addr, vs = [.ref st] ∧ Bg st H ∧ ∀ z H', NF.Mk z → Bg st H' → ExS st H H' → Q (.str z) H'
def spGoes (K : PySem.W.Frag) : Sp := fun vs H Q _ => ∃ (st : Addr) (n wide : Nat), vs = [.ref st, .int (n : Int), .int (wide : Int)] ∧ Bg st H ∧ 1 ≤ n ∧ n ≤ 6 ∧ 6 ≤ wide ∧ wide ≤ 999 ∧
  ∀ p us xs H', H p = none → Bg st H' → ExS st H H' → H' p = some (.lst us) → RtAll K H' us xs → Shs xs n → (∃ d : Nat, 0 < d ∧ d ≤ wide ∧ ∀ x ∈ xs, Ml d x) → Q (.ref p) H'
/-- names and rows of a machine in the heap -/
def KitAt (K : PySem.W.Frag) (H : Hp) (a b : Addr) (zs : List Str) (us : List V) (xss : List (List Rat)) : Prop := H a = some (.lst (zs.map V.str)) ∧ H b = some (.lst us) ∧ Rows K H us xss ∧ Good zs xss
theorem KitAt.mono {a b : Addr} {zs : List Str} {us : List V} {xss : List (List Rat)} (h : KitAt K H a b zs us xss) (e : Ex H H1) : KitAt K H1 a b zs us xss := ⟨e _ _ h.1, e _ _ h.2.1, h.2.2.1.mono e, h.2.2.2⟩
theorem KitAt.exS {a b : Addr} {zs : List Str} {us : List V} {xss : List (List Rat)} (h : KitAt K H a b zs us xss) (e : ExS st H H1) (hs : Bg st H) : KitAt K H1 a b zs us xss := by
  obtain ⟨h1, h2, h3, h4⟩ := h
  obtain ⟨g, n, hst⟩ := id hs
  refine ⟨e _ _ (fun z => ?_) h1, e _ _ (fun z => ?_) h2, h3.exS e hs, h4⟩
  · rw [z, hst] at h1
    exact strs_noInt (HO.lst.inj (Option.some.inj h1)).symm
  · rw [z, hst] at h2
    exact h3.noInt (HO.lst.inj (Option.some.inj h2)).symm
def spKit (K : PySem.W.Frag) : Sp := fun vs H Q _ => ∃ (st : Addr) (wide : Nat), vs = [.ref st, .int 6, .int (wide : Int)] ∧ Bg st H ∧ 6 ≤ wide ∧ wide ≤ 999 ∧
  ∀ p a b zs us xss H', H p = none → H a = none → H b = none → Bg st H' → ExS st H H' → H' p = some (.tup [.ref a, .ref b]) → KitAt K H' a b zs us xss → Bot wide xss → Q (.ref p) H'
theorem word_ev {i : Nat} (h1 : σ[i]? = some (some (.ref st))) (hs : Bg st H) (q : ∀ z H', NF.Mk z → Bg st H' → ExS st H H' → Q (.str z) H') : tCall spWord [] E (tCons (tVar i) tNil) σ H Q := ⟨_, h1, st, rfl, hs, q⟩
theorem goes_ev {i j k n wide : Nat} (h1 : σ[i]? = some (some (.ref st))) (h2 : σ[j]? = some (some (.int (n : Int)))) (h3 : σ[k]? = some (some (.int (wide : Int)))) (hs : Bg st H) (n1 : 1 ≤ n) (n6 : n ≤ 6) (w6 : 6 ≤ wide) (w9 : wide ≤ 999)
    (q : ∀ p us xs H', H p = none → Bg st H' → ExS st H H' → H' p = some (.lst us) → RtAll K H' us xs → Shs xs n → (∃ d : Nat, 0 < d ∧ d ≤ wide ∧ ∀ x ∈ xs, Ml d x) → Q (.ref p) H') : tCall (spGoes K) [] E (tCons (tVar i) (tCons (tVar j) (tCons (tVar k) tNil))) σ H Q :=
  ⟨_, h1, _, h2, _, h3, st, n, wide, rfl, hs, n1, n6, w6, w9, q⟩
end
/-! ### the mathematics of a row -/
theorem shr_div {p : Int} {b : Nat} (h0 : 0 ≤ p) (h1 : p ≤ b) (hb : 0 < b) (h9 : b ≤ 999) : Shr (Rat.divInt p b) := by
  have h := div_eq p hb
  have hb' : (0 : Rat) < (b : Rat) := by exact_mod_cast hb
  have p0 : (0 : Rat) ≤ (p : Rat) := by exact_mod_cast h0
  have p1 : (p : Rat) ≤ (b : Rat) := by
    have : (p : Rat) ≤ ((b : Int) : Rat) := by exact_mod_cast h1
    exact this
  have x0 : 0 ≤ Rat.divInt p b := by
    rw [← Rat.num_nonneg, Rat.num_divInt]
    apply Int.ediv_nonneg
    · rw [Int.sign_eq_one_of_pos (by omega)]
      omega
    · omega
  have x1 : Rat.divInt p b ≤ 1 := by
    apply Rat.not_lt.mp
    intro c
    have : (1 : Rat) * b < Rat.divInt p b * b := Rat.mul_lt_mul_of_pos_right c hb'
    grind
  obtain ⟨a, c⟩ := num01 x0 x1
  exact ⟨a, c, by have := den_le (t := p) hb; omega⟩
end NF

namespace NF
open PySem PySem.Spec PyProof.Rows L2 Evl
/-! ### lists of fractions compared -/
theorem eqv_rts : ∀ (xs : List Rat), PyData.eqvAll (xs.map fd) (xs.map fd) = true
  | [] => by simp [PyData.eqvAll]
  | x :: xs => by
    have := eqv_rts xs
    have e : PyData.eqv (fd x) (fd x) = true := by
      unfold fd
      rw [eqv_rt]
      simp
    simp [PyData.eqvAll, this, e]
theorem eqv_rtL (xs : List Rat) : PyData.eqv (.list (xs.map fd)) (.list (xs.map fd)) = true := by
  simp [PyData.eqv, eqv_rts]
theorem shaped_rts (xs : List Rat) : SeqAt.shaped (.list (xs.map fd)) = true := by
  have h1 : PyData.canLayAll0 (xs.map fd) = true := by
    induction xs with
    | nil => rfl
    | cons x xs ih =>
      rw [List.map_cons]
      simp only [PyData.canLayAll0, ih, Bool.and_true]
      rfl
  have h2 : (PyData.list (xs.map fd)).depth ≤ 2 := by
    induction xs with
    | nil => show 1 ≤ 2; decide
    | cons x xs ih =>
      have := ih (by simp only [List.map_cons, PyData.canLayAll0, Bool.and_eq_true] at h1; exact h1.2)
      have hx : (fd x).depth ≤ 1 := by show 1 ≤ 1; decide
      simp only [PyData.depth, List.map_cons, PyData.depthAll] at *
      omega
  unfold SeqAt.shaped
  simp [PyData.canLay0, h1]
  omega
section
variable {K : PySem.W.Frag} {H H1 H2 : Hp} {σ : L2.St} {ta tb te tl : TE} {v w u : V} {x y : Rat} {E : XK} {D : Ends} {tz t1 t2 : TS} {tc : TT} {tA : TA} {Q : VK} {l st C m : Addr} {xs ys : List Rat} {zs : List Str} {xss : List (List Rat)}
/-- a list of fractions, old or new -/
def EvLs (K : PySem.W.Frag) (te : TE) (σ : L2.St) (H : Hp) (xs : List Rat) : Prop := ∀ H1, Ex H H1 → ∀ Q : VK, (∀ p us H2, Ex H1 H2 → SqL K H2 p us → RtAll K H2 us xs → Q (.ref p) H2) → te σ H1 Q
theorem EvR.ls (h : EvR K te σ H xs) : EvLs K te σ H xs := fun H1 e Q q => h H1 e _ fun p us H2 _ e2 hp hr => q p us H2 e2 (SqL.of hp) hr
theorem els_of {a : Addr} {us : List V} (h : Ev te σ H (.ref a)) (ha : SqL K H a us) (hr : RtAll K H us xs) : EvLs K te σ H xs := fun H1 e Q q =>
  h H1 e _ fun H2 e2 => q a us H2 e2 (ex_l (e.trans e2) ha) (hr.mono (e.trans e2))
theorem els_row {a : Addr} {us : List V} {j : Nat} (h1 : Ev ta σ H (.ref a)) (h2 : Ev tb σ H (.int (j : Int))) (ha : SqL K H a us) (hr : Rows K H us xss) (hj : xss[j]? = some xs) : EvLs K (tOp (rIxL K) ta tb) σ H xs := by
  obtain ⟨p, ws, h3, h4, h5⟩ := ev_row h1 h2 ha hr hj
  exact els_of h3 h4 h5
theorem ev_neLs (ha : EvLs K ta σ H xs) (hb : EvLs K tb σ H xs) : Ev (tOp (rNeD K) ta tb) σ H (.bl false) := fun H1 e Q q =>
  ha H1 e _ fun p us H2 e2 hp hr => hb H2 (e.trans e2) _ fun p' us' H3 e3 hp' hr' => ⟨_, _, .lst (ex_l e3 hp) (dp_rts (hr.mono e3)), .lst hp' (dp_rts hr'), shaped_rts _, shaped_rts _, by
    rw [eqv_rtL]
    exact q H3 (e2.trans e3)⟩
/-- [fraction for i in range(n)] -/
theorem er_lcR {n j : Nat} {vs : List Nat} (h : EvA tA σ H [.int (n : Int)]) (hl : xs.length = n) (hn : n ≤ 1000) (hw : ∀ x, wipe ((wipe σ vs).set j (some x)) vs = wipe σ vs)
    (he : ∀ (i : Nat) (x : Rat) H1, Ex H H1 → xs[i]? = some x → EvF K te ((wipe σ vs).set j (some (.int (i : Int)))) H1 x) : EvR K (tLc (iRng1 tA) (gName j) tYes te vs) σ H xs := fun H0 e Q q => h H0 e _ fun H1 e1 => ⟨(n : Int), rfl, by omega, by omega, fun Dl hD => by
  have E1 := e.trans e1
  refine lc_range (lo := 0) (n := (n : Int).toNat) (fun i G => ∃ us, H1 Dl = none ∧ Ex H1 G ∧ G Dl = some (.lst us) ∧ us.length = i ∧ RtAll K G us (xs.take i)) ⟨[], hD, Ex.new hD, upd_same, rfl, .nil⟩ ?_ ?_
  · rintro i G hi ⟨us, n1, x1, hDl, hl1, hR⟩
    rw [Int.toNat_natCast] at hi
    have hx : xs[i]? = some xs[i] := List.getElem?_eq_getElem (by omega)
    refine ⟨hw _, ?_⟩
    show te _ G _
    have hz : (0 : Int) + (i : Int) = (i : Int) := Int.zero_add _
    rw [hz]
    refine he i xs[i] G (E1.trans x1) hx G (Ex.refl G) _ fun u G2 x2 ru => ?_
    have hD2 := x2 _ _ hDl
    refine ⟨us, hD2, Nat.lt_of_lt_of_le (show us.length < 1001 by omega) (by decide), us ++ [u], n1, fun b o hb => ?_, upd_same, by simp [hl1], ?_⟩
    · rw [upd_ne (ne_of_none hb n1)]
      exact (x1.trans x2) _ _ hb
    · rw [List.take_add_one, hx]
      exact ((hR.mono x2).push ru).exLst Exs.upd hD2
  · rintro G ⟨us, n1, x1, hDl, hl1, hR⟩
    rw [Int.toNat_natCast, ← hl, List.take_length] at hR
    exact q Dl us G (fresh_back e1 n1) (e1.trans x1) hDl hR⟩
theorem asg_raw {g : TG} (h : te σ H fun x H1 => g x σ H1 fun σ2 H2 => tz D σ2 H2) : tSeq (tAsg te g) tz D σ H := h
theorem drop_raw (h : te σ H fun _ H1 => tz D σ H1) : tSeq (tDrop te) tz D σ H := h
theorem bag_ev {i j : Nat} {a : Addr} {ns : List Int} {k : Nat} (h1 : σ[i]? = some (some (.ref a))) (h2 : σ[j]? = some (some (.int (k : Int)))) (ha : SqL K H a (ns.map V.int)) (hl : ns.length ≤ 1000) (hk : k ≤ 1000) (q : ∀ st H', H st = none → Ex H H' → Bg st H' → Q (.ref st) H') :
    tCall (spBag K) [] E (tCons (tVar i) (tCons (tVar j) tNil)) σ H Q := ⟨_, h1, _, h2, a, ns, k, rfl, ha, hl, hk, q⟩
theorem kit_ev {i wide : Nat} (h1 : σ[i]? = some (some (.ref st))) (hb : Ev tb σ H (.int (wide : Int))) (hs : Bg st H) (w6 : 6 ≤ wide) (w9 : wide ≤ 999)
    (q : ∀ p a b zs us xss H', H p = none → H a = none → H b = none → Bg st H' → ExS st H H' → H' p = some (.tup [.ref a, .ref b]) → KitAt K H' a b zs us xss → Bot wide xss → Q (.ref p) H') : tCall (spKit K) [] E (tCons (tVar i) (tCons (tC (.int 6)) (tCons tb tNil))) σ H Q :=
  ⟨_, h1, hb H (Ex.refl H) _ fun H1 e1 => ⟨st, wide, rfl, hs.mono e1, w6, w9, fun p a b zs us xss H' np na nb hs' x' hp hk hB => q p a b zs us xss H' (fresh_back e1 np) (fresh_back e1 na) (fresh_back e1 nb) hs' ((ExS.of e1).trans x') hp hk hB⟩⟩
theorem ev_min2 {i j : Int} (ha : Ev ta σ H (.int i)) (hb : Ev tb σ H (.int j)) : Ev (tCB (fun xs H Q => ∃ i j, xs = [V.int i, V.int j] ∧ Q (.int (if j < i then j else i)) H) (tCons ta (tCons tb tNil))) σ H (.int (if j < i then j else i)) := fun H1 e Q q =>
  ha H1 e _ fun H2 e2 => hb H2 (e.trans e2) _ fun H3 e3 => ⟨i, j, rfl, q H3 (e2.trans e3)⟩
theorem ev_intB {b : Bool} (h : Ev ta σ H (.bl b)) : Ev (tCB (fun xs H Q => (∃ i, xs = [V.int i] ∧ Q (.int i) H) ∨ ∃ k, xs = [V.bl k] ∧ Q (.int (if k = true then 1 else 0)) H) (tCons ta tNil)) σ H (.int (if b = true then 1 else 0)) := fun H1 e Q q =>
  h H1 e _ fun H2 e2 => .inr ⟨b, rfl, q H2 e2⟩
theorem Ex.updN {p : Addr} {o : HO} (e : Ex H H1) (n : H p = none) : Ex H (upd H1 p o) := fun b ob hb => by
  rw [upd_ne (ne_of_none hb n)]
  exact e _ _ hb
end
/-! ### C(..), f(a, k = v) -/
structure CalK (P : Program) (w : World) (K : PySem.W.Frag) (mg : Str → Option Value) (base : Heap) (k : Nat) (x : Str) (C : Addr) (ps : List Str) (sp : Sp) : Prop where
  ex : ∃ (f : Addr) (fd : FuncData), L2.Mk K C f ∧ FnOk P w K mg base CX0 k f fd ps sp ∧ Binds K fd ps []
  nm : mg x = some (.ref C)
theorem pe_calK {X : Cx} {j k : Nat} {x : Str} {C : Addr} {ps : List Str} {sp : Sp} {e : Expr} {es : List Expr} {t : TA} {p pos : Pos} (M : CalK X.prog X.w X.K X.mg X.base k x C ps sp) (hr : Room j X.A) (hk : k + 1 ≤ j) (hg : Gl X x)
    (ha : PA X (e :: es) t) (hdb : (x == ("__debug__" : Str)) = false := by decide) (he : starEach (e :: es) X.env = (false, eval e X.env) :: starEach es X.env := by rfl) (hpl : (backTo pos (starEach es X.env)).any (·.1) = false := by rfl) :
    PE X (.Call (.Name x p) (e :: es) [] pos) (tMake C sp [] E0 t) := by
  obtain ⟨f, fd, m, F, b⟩ := M.ex
  exact pe_make m F (hr.mono hk) hg M.nm b .nil pass0 ha hdb he hpl
structure CaN (P : Program) (w : World) (K : PySem.W.Frag) (mg : Str → Option Value) (base : Heap) (k : Nat) (x : Str) (ps : List Str) (n : Nat) (ks : List Str) (gV : List V → List V → List V) (sp : Sp) : Prop where
  ex : ∃ (f : Addr) (fd : FuncData) (g : List Value → List Value → List Value), FnOk P w K mg base CX0 k f fd ps sp ∧ mg x = some (.ref f) ∧ PySem.W.keepIn K (.ref f) = true ∧ KBn K fd ps n ks g gV
theorem pe_caN {X : Cx} {j k n : Nat} {x : Str} {ps ks : List Str} {gV : List V → List V → List V} {sp : Sp} {e : Expr} {es : List Expr} {kws : List Keyword} {t tk : TA} {p pos : Pos} (C : CaN X.prog X.w X.K X.mg X.base k x ps n ks gV sp) (hr : Room j X.A) (hk : k ≤ j) (hg : Gl X x)
    (ha : PA X (e :: es) t) (hkw : PK X kws tk) (hall : ((backToKw pos (keywordEach kws X.env)).all (·.1.isSome)) = true := by rfl) (hks : (backToKw pos (keywordEach kws X.env)).filterMap (·.1) = ks := by rfl) (hdb : (x == ("__debug__" : Str)) = false := by decide)
    (he : starEach (e :: es) X.env = (false, eval e X.env) :: starEach es X.env := by rfl) (hpl : ((backTo pos (starEach (e :: es) X.env)).any (·.1) || (backToKw pos (keywordEach kws X.env)).any (·.1.isNone)) = false := by rfl) :
    PE X (.Call (.Name x p) (e :: es) kws pos) (tCallN n ks.length sp gV E0 t tk) := by
  obtain ⟨f, fd, g, F, hm, kp, b⟩ := C.ex
  exact pe_callN F (hr.mono hk) hg hm kp b pass0 ha hkw hall hks hdb he hpl
end NF

namespace WL
open PySem PySem.Spec PyProof.Rows L2 Evl NF
section
variable {K : PySem.W.Frag} {W0 W W1 W2 W3 : Wd} {M : Addr → Prop} {σ σ2 : L2.St} {ρ ρ2 : List Sl} {i j k n : Nat} {P P1 P2 P3 : MP} {Ps Qs : List MP} {ta tb tc td te tl : TE} {tt t1 t2 : TT} {Ψ : Sl → Prop} {v w u : V} {R : Post} {t tu tw tz : TS} {s : Sl} {tA tr : TA} {b b1 b2 b3 : Bool} {r r1 r2 r3 : R2}
/-! ### kinds -/
abbrev int (i : Int) : MP := sc (.int i)
abbrev str (z : Str) : MP := sc (.str z)
abbrev tru (b : Bool) : MP := sc (.bl b)
abbrev rats (K : PySem.W.Frag) (xs : List Rat) : MP := lst K (xs.map (rat K))
abbrev rows (K : PySem.W.Frag) (xss : List (List Rat)) : MP := lst K (xss.map (rats K))
abbrev txts (K : PySem.W.Frag) (zs : List Str) : MP := lst K (zs.map str)
abbrev nums (K : PySem.W.Frag) (ns : List Int) : MP := lst K (ns.map int)
theorem al_int {H : Hp} : ∀ {ns : List Int} {vs : List V}, Al H vs (ns.map int) → vs = ns.map V.int
  | [], _, .nil => rfl
  | _ :: _, _, .cons h t => by
    rw [h, al_int t]
    rfl
theorem al_str {H : Hp} : ∀ {ns : List Str} {vs : List V}, Al H vs (ns.map str) → vs = ns.map V.str
  | [], _, .nil => rfl
  | _ :: _, _, .cons h t => by
    rw [h, al_str t]
    rfl
theorem al_bl {H : Hp} : ∀ {ns : List Bool} {vs : List V}, Al H vs (ns.map tru) → vs = ns.map V.bl
  | [], _, .nil => rfl
  | _ :: _, _, .cons h t => by
    rw [h, al_bl t]
    rfl
theorem al_of_int {H : Hp} : ∀ (ns : List Int), Al H (ns.map V.int) (ns.map int)
  | [] => .nil
  | _ :: ns => .cons rfl (al_of_int ns)
theorem al_of_str {H : Hp} : ∀ (ns : List Str), Al H (ns.map V.str) (ns.map str)
  | [] => .nil
  | _ :: ns => .cons rfl (al_of_str ns)
theorem al_rat {H : Hp} : ∀ {xs : List Rat} {vs : List V}, Al H vs (xs.map (rat K)) → RtAll K H vs xs
  | [], _, .nil => .nil
  | _ :: _, _, .cons h t => .cons h (al_rat t)
theorem al_of_rat {H : Hp} : ∀ {xs : List Rat} {vs : List V}, RtAll K H vs xs → Al H vs (xs.map (rat K))
  | [], _, .nil => .nil
  | _ :: _, _, .cons h t => .cons h (al_of_rat t)
theorem al_rows {H : Hp} : ∀ {xss : List (List Rat)} {vs : List V}, Al H vs (xss.map (rats K)) → Rows K H vs xss
  | [], _, .nil => .nil
  | _ :: _, _, .cons h t => by
    obtain ⟨p, us, rfl, h1, h2⟩ := h
    exact .cons h1 (al_rat h2) (al_rows t)
theorem map_at {α : Type} {f : α → MP} {xs : List α} {i : Nat} {P : MP} (h : (xs.map f)[i]? = some P) : ∃ x, xs[i]? = some x ∧ P = f x := by
  rw [List.getElem?_map] at h
  cases c : xs[i]? with
  | none => rw [c] at h; cases h
  | some x => rw [c] at h; cases h; exact ⟨x, rfl, rfl⟩
theorem at_map {α : Type} {f : α → MP} {xs : List α} {i : Nat} {x : α} (h : xs[i]? = some x) : (xs.map f)[i]? = some (f x) := by rw [List.getElem?_map, h]; rfl
/-! ### more tests -/
theorem d_chain3 (ha : D ρ ta P) (hb : D ρ tb P1) (h1 : OpV r1 P P1 (tru b1)) (hc : b1 = true → D ρ tc P2) (h2 : b1 = true → OpV r2 P1 P2 (tru b2)) (hd : b1 = true → b2 = true → D ρ td P3) (h3 : b1 = true → b2 = true → OpV r3 P2 P3 (tru b3)) : D ρ (tChain3 r1 r2 r3 ta tb tc td) (tru (b1 && (b2 && b3))) := fun W0 M W σ e Q k =>
  ha W0 M W σ e _ fun x W1 g1 px => hb W0 M W1 σ (e.go g1) _ fun y W2 g2 py => h1 W2.r W2.h x y g2.sub (P.mono g2.le.r px) py _ fun v pv => by
    cases pv
    refine ⟨b1, rfl, ?_⟩
    have e2 := (e.go g1).go g2
    cases b1 with
    | false => exact k _ W2 (g1.trans g2) rfl
    | true =>
      refine hc rfl W0 M W2 σ e2 _ fun z W3 g3 pz => h2 rfl W3.r W3.h y z g3.sub (P1.mono g3.le.r py) pz _ fun v pv => ?_
      cases pv
      refine ⟨b2, rfl, ?_⟩
      cases b2 with
      | false => exact k _ W3 ((g1.trans g2).trans g3) rfl
      | true => exact hd rfl rfl W0 M W3 σ (e2.go g3) _ fun u W4 g4 pu => h3 rfl rfl W4.r W4.h z u g4.sub (P2.mono g4.le.r pz) pu _ fun v pv => k v W4 (((g1.trans g2).trans g3).trans g4) pv
theorem T.is (h : D ρ te (tru b)) : T ρ (tTest te) fun c => c = b := T.of h rfl
theorem T.isB (h : D ρ te (tru b)) : T ρ (tB te) fun c => c = b := T.of h rfl
/-- two tests by what they come to -/
theorem t_or2 (h1 : T ρ t1 fun c => c = b1) (h2 : b1 = false → T ρ t2 fun c => c = b2) : T ρ (tOr t1 t2) fun c => c = (b1 || b2) := t_or (h1.mono fun c z => by
  subst z
  cases c with
  | true => rfl
  | false => exact (h2 rfl).mono fun c z => by subst z; rfl)
theorem t_and2 (h1 : T ρ t1 fun c => c = b1) (h2 : b1 = true → T ρ t2 fun c => c = b2) : T ρ (tAnd t1 t2) fun c => c = (b1 && b2) := t_and (h1.mono fun c z => by
  subst z
  cases c with
  | false => rfl
  | true => exact (h2 rfl).mono fun c z => by subst z; rfl)
theorem t_not1 (h1 : T ρ t1 fun c => c = b1) : T ρ (tNot t1) fun c => c = !b1 := t_not (h1.mono fun c z => by subst z; rfl)
theorem T.eq (h : T ρ tt fun c => c = b1) (e : b1 = b) : T ρ tt fun c => c = b := e ▸ h
/-- an if by what its test comes to -/
theorem g_ifb (h : T ρ tt fun c => c = b) (h1 : b = true → G tu ρ R) (h2 : b = false → G tw ρ R) : G (tIfS tt tu tw) ρ R := g_if (h.mono fun c z => by
  subst z
  cases c with
  | true => exact h1 rfl
  | false => exact h2 rfl)
theorem g_when (h : T ρ tt fun c => c = b) (h1 : b = true → G tu ρ R) (h2 : b = false → R.nx ρ) : G (tIfS tt tu tNext) ρ R := g_ifb h h1 fun z => g_next (h2 z)
/-! ### lists that are read and made -/
theorem cl_sorted {ns : List Int} {ms : List Int} (hl : ns.length < 64) (hp : ms.Perm ns) (hs : ms.Pairwise (· ≤ ·)) : CbL (rSorted K) [nums K ns] (ms.map int) := fun R H vs s a C k => by
  obtain ⟨v, rfl, p, ws, rfl, h1, h2⟩ := a.inv1
  rw [al_int h2] at h1
  refine ⟨p, ns, rfl, ex_l s h1, hl, fun ns' q hp' hs' hq => ?_⟩
  have : ns' = ms := List.Perm.eq_of_pairwise (le := (· ≤ ·)) (fun a b _ _ h1 h2 => Int.le_antisymm h1 h2) hs' hs (hp'.trans hp.symm)
  subst this
  exact k q _ hq (al_of_int _)
theorem own_sorted {ns : List Int} {ms : List Int} (h : ρ[i]? = some (.own (ns.map int))) (hl : ns.length < 64) (hp : ms.Perm ns) (hs : ms.Pairwise (· ≤ ·)) (q : Ψ (.own (ms.map int))) : E ρ (tCB (rSorted K) (tCons (tVar i) tNil)) Ψ := fun W0 M W σ e Q kk => by
  obtain ⟨u, h1, p, vs, rfl, h3, h4, h5, h6⟩ := e.ok i _ h
  rw [al_int h6] at h3
  refine ⟨_, h1, p, ns, rfl, SqL.of h3, hl, fun ns' q' hp' hs' hq => ?_⟩
  have : ns' = ms := List.Perm.eq_of_pairwise (le := (· ≤ ·)) (fun a b _ _ h1 h2 => Int.le_antisymm h1 h2) hs' hs (hp'.trans hp.symm)
  subst this
  obtain ⟨W3, e1, _, g3, r3⟩ := e_new e e.id hq (al_of_int ns')
  rw [← e1]
  exact kk _ _ W3 g3 r3 q
theorem inV_int {a : Int} : ∀ {ns : List Int}, inV (.int a) (ns.map V.int) = decide (a ∈ ns)
  | [] => by simp [inV]
  | n :: ns => by
    have ih := inV_int (a := a) (ns := ns)
    unfold inV at *
    rw [List.map_cons, List.any_cons, ih]
    have e : eqV (.int n) (.int a) = decide (a = n) := by
      show (n == a) = decide (a = n)
      by_cases c : a = n
      · subst c; simp
      · simp [c, Ne.symm c]
    simp only [e, List.mem_cons, Bool.decide_or]
theorem flat_ints : ∀ (ns : List Int), (ns.map V.int).all flatV = true
  | [] => rfl
  | _ :: ns => by
    rw [List.map_cons, List.all_cons, flat_ints ns]
    rfl
theorem own_in {a : Int} {ns : List Int} {neg : Bool} (ha : D ρ ta (int a)) (h : ρ[i]? = some (.own (ns.map int))) : D ρ (tOp (rIn K neg) ta (tVar i)) (tru (if neg then !decide (a ∈ ns) else decide (a ∈ ns))) := fun W0 M W σ e Q kk => ha W0 M W σ e _ fun x W2 g2 px => by
  cases px
  obtain ⟨u, h1, p, vs, rfl, h3, h4, h5, h6⟩ := (e.go g2).ok i _ h
  rw [al_int h6] at h3
  exact ⟨_, h1, p, _, rfl, .inl (SqL.of h3), rfl, flat_ints _, by rw [inV_int]; exact kk _ W2 g2 rfl⟩
theorem ov_in {a : Int} {ns : List Int} {neg : Bool} : OpV (rIn K neg) (int a) (nums K ns) (tru (if neg then !decide (a ∈ ns) else decide (a ∈ ns))) := fun R H x y s px py C k => by
  cases px
  obtain ⟨p, vs, rfl, h1, h2⟩ := py
  rw [al_int h2] at h1
  exact ⟨p, _, rfl, .inl (ex_l s h1), rfl, flat_ints _, by rw [inV_int]; exact k _ rfl⟩
theorem e_cat (h : E ρ ta fun s => ∃ Ps, s = .own Ps ∧ E ρ tb fun s => ∃ Qs, s = .own Qs ∧ Ps.length + Qs.length ≤ 100000 ∧ Ψ (.own (Ps ++ Qs))) : E ρ (tOp rCat ta tb) Ψ := fun W0 M W σ e Q kk => h W0 M W σ e _ fun s v W1 g1 r1 q => by
  obtain ⟨Ps, rfl, q⟩ := q
  obtain ⟨p, vs, rfl, h2, h3, h4, h5⟩ := r1
  have e1 := e.go g1
  refine q W0 M W1 σ e1 _ fun s v W2 g2 r2 q => ?_
  obtain ⟨Qs, rfl, hl, q⟩ := q
  obtain ⟨p2, vs2, rfl, k2, k3, k4, k5⟩ := r2
  have np : ¬ Bags σ ρ p := fun b => by
    obtain ⟨_, _, z⟩ := (e.bag b).1
    rw [h4] at z
    cases z
  have a2 := (h5.mono g2.le.r).app k5
  refine ⟨p, p2, vs, vs2, rfl, rfl, g2.le.h _ _ np h2, k2, sz_of (by rw [h5.length, k5.length]; exact hl), fun l hl => ?_⟩
  obtain ⟨W3, e3, _, g3, r3⟩ := e_new e (g1.trans g2) hl a2
  rw [← e3]
  exact kk _ _ W3 g3 r3 q
def DO (ρ : List Sl) (to : TO) (o : Option Int) : Prop := ∀ W0 M W σ, En W0 M W σ ρ → ∀ Q : Option Int → Hp → Prop, (∀ W2, Go σ ρ W W2 → Q o W2.h) → to σ W.h Q
theorem do_none : DO ρ tNoPart none := fun W0 M W σ e Q k => k W e.id
theorem do_some {a : Int} (h : D ρ te (int a)) : DO ρ (tPart te) (some a) := fun W0 M W σ e Q k => h W0 M W σ e _ fun v W2 g p => by
  cases p
  exact ⟨a, rfl, k W2 g⟩
def cut {α : Type} (xs : List α) (lo hi : Option Int) : List α := (xs.drop (HT.sIx xs.length 0 lo)).take (HT.sIx xs.length xs.length hi - HT.sIx xs.length 0 lo)
theorem al_cut {H : Hp} {vs : List V} {lo hi : Option Int} (h : Al H vs Ps) : Al H (cutV vs lo hi) (cut Ps lo hi) := by
  unfold cutV cut
  rw [h.length]
  exact (h.drop _).take _
theorem own_sl {to th : TO} {lo hi : Option Int} (h : ρ[i]? = some (.own Ps)) (h1 : DO ρ to lo) (h2 : DO ρ th hi) (q : Ψ (.own (cut Ps lo hi))) : E ρ (tSl (rSlL K) (tVar i) to th) Ψ := fun W0 M W σ e Q kk => by
  obtain ⟨u, a1, p, vs, rfl, a3, a4, a5, a6⟩ := e.ok i _ h
  refine ⟨_, a1, h1 W0 M W σ e _ fun W2 g2 => h2 W0 M W2 σ (e.go g2) _ fun W3 g3 => ?_⟩
  have G := g2.trans g3
  obtain ⟨u, a1', p', vs', e1, b3, b4, b5, b6⟩ := (e.go G).ok i _ h
  rw [a1] at a1'
  cases a1'
  cases e1
  refine ⟨p, vs', rfl, SqL.of b3, fun l hl => ?_⟩
  obtain ⟨W4, e4, _, g4, r4⟩ := e_new e G hl (al_cut b6)
  rw [← e4]
  exact kk _ _ W4 g4 r4 q
theorem e_sl {to th : TO} {lo hi : Option Int} (h : D ρ te (lst K Ps)) (h1 : DO ρ to lo) (h2 : DO ρ th hi) (q : Ψ (.own (cut Ps lo hi))) : E ρ (tSl (rSlL K) te to th) Ψ := fun W0 M W σ e Q kk => h W0 M W σ e _ fun v W1 g1 pv => by
  obtain ⟨p, vs, rfl, hp, al⟩ := pv
  refine h1 W0 M W1 σ (e.go g1) _ fun W2 g2 => h2 W0 M W2 σ ((e.go g1).go g2) _ fun W3 g3 => ?_
  have G := (g1.trans g2).trans g3
  have ex := g2.le.r.trans g3.le.r
  refine ⟨p, vs, rfl, ex_l (ex.trans g3.sub) hp, fun l hl => ?_⟩
  obtain ⟨W4, e4, _, g4, r4⟩ := e_new e G hl (al_cut (al.mono ex))
  rw [← e4]
  exact kk _ _ W4 g4 r4 q
theorem cut_hi {α : Type} {xs : List α} {k : Nat} (h : k ≤ xs.length) : cut xs (some (k : Int)) none = xs.drop k := by
  have e1 : HT.sIx xs.length 0 (some (k : Int)) = k := by
    unfold HT.sIx
    simp only []
    rw [if_neg (by omega)]
    simp
    omega
  have e2 : HT.sIx xs.length xs.length none = xs.length := rfl
  unfold cut
  rw [e1, e2, List.take_of_length_le (by rw [List.length_drop]; omega)]
theorem cut_lo {α : Type} {xs : List α} {k : Nat} (h : k ≤ xs.length) : cut xs none (some (k : Int)) = xs.take k := by
  have e1 : HT.sIx xs.length xs.length (some (k : Int)) = k := by
    unfold HT.sIx
    simp only []
    rw [if_neg (by omega)]
    simp
    omega
  have e2 : HT.sIx xs.length 0 none = 0 := rfl
  unfold cut
  rw [e1, e2]
  simp
/-! ### lists compared, shown -/
def IsD (K : PySem.W.Frag) (P : MP) (d : PyData) : Prop := ∀ H v, P.p H v → Dp K H v d
theorem isd_int (a : Int) : IsD K (int a) (.int a) := fun H v h => by cases h; exact .int a
theorem isd_str (a : Str) : IsD K (str a) (.str a) := fun H v h => by cases h; exact .str a
theorem isd_bl (a : Bool) : IsD K (tru a) (.bool a) := fun H v h => by cases h; exact .bl a
theorem isd_non : IsD K (sc .non) .none := fun H v h => by cases h; exact .non
theorem isd_rat (x : Rat) : IsD K (rat K x) (fd x) := fun H v h => dp_rt h
theorem isd_map {α : Type} {f : α → MP} {d : α → PyData} (h : ∀ x, IsD K (f x) (d x)) {H : Hp} : ∀ {xs : List α} {vs : List V}, Al H vs (xs.map f) → DpAll K H vs (xs.map d)
  | [], _, .nil => .nil
  | _ :: _, _, .cons p t => .cons (h _ _ _ p) (isd_map h t)
theorem isd_lst {α : Type} {f : α → MP} {d : α → PyData} (h : ∀ x, IsD K (f x) (d x)) (xs : List α) : IsD K (lst K (xs.map f)) (.list (xs.map d)) := fun H v q => by
  obtain ⟨p, vs, rfl, h1, h2⟩ := q
  exact .lst h1 (isd_map h h2)
theorem ov_eq {d e : PyData} (h1 : IsD K P d) (h2 : IsD K P2 e) (s1 : SeqAt.shaped d = true) (s2 : SeqAt.shaped e = true) : OpV (rEqD K) P P2 (tru (PyData.eqv d e)) := fun R H x y s px py C k => ⟨d, e, h1 _ _ (P.mono s px), h2 _ _ (P2.mono s py), s1, s2, k _ rfl⟩
theorem ov_ne {d e : PyData} (h1 : IsD K P d) (h2 : IsD K P2 e) (s1 : SeqAt.shaped d = true) (s2 : SeqAt.shaped e = true) : OpV (rNeD K) P P2 (tru (!PyData.eqv d e)) := fun R H x y s px py C k => ⟨d, e, h1 _ _ (P.mono s px), h2 _ _ (P2.mono s py), s1, s2, k _ rfl⟩
theorem cb_rep {d : PyData} (h1 : IsD K P d) (f : Fine d) : CbV (NF.rRep K) [P] (str d.shown) := fun R H vs s a C k => by
  obtain ⟨v, rfl, p⟩ := a.inv1
  exact ⟨v, d, rfl, h1 _ _ (P.mono s p), f, k _ rfl⟩
/-! ### a name takes its parts -/
theorem g_unpack (h : E ρ te fun s => ∃ P1 P2, s = .val (tup K [P1, P2]) ∧ R.nx ((ρ.set i (.val P1)).set j (.val P2))) (hi' : Nat.blt i ρ.length = true := by rfl) (hj' : Nat.blt j ρ.length = true := by rfl) : G (tAsg te (gTup K 2 (gCons (gName i) (gCons (gName j) gNil)))) ρ R := fun W0 M W σ D e m => h W0 M W σ e _ fun s v W2 g r q => by
  obtain ⟨P1, P2, rfl, q⟩ := q
  obtain ⟨p, vs, rfl, hp, al⟩ := r
  obtain ⟨x, y, rfl, px, py⟩ := al.inv2
  have hi := Nat.le_of_ble_eq_true hi'
  have hj := Nat.le_of_ble_eq_true hj'
  have e1 := e.set (i := i) (s := .val P1) g px hi
  exact ⟨p, _, rfl, ex_t g.sub hp, rfl, _, _, rfl, _, _, rfl, rfl, m.nx W2 _ _ (e1.set (s := .val P2) e1.id py (by rw [List.length_set]; exact hj)) q⟩
/-- an own list becomes a bag -/
theorem En.bagged (e : En W0 M W σ ρ) (h : ρ[i]? = some (.own Ps)) (hb : ∀ R vs, Al R vs Ps → Bk vs) : En W0 M W σ (ρ.set i .bag) := by
  obtain ⟨u, h1, p, vs, rfl, h3, h4, h5, h6⟩ := e.ok i _ h
  have hi : i < ρ.length := (List.getElem?_eq_some_iff.mp h).1
  refine ⟨e.sub, e.le, e.old, e.bags, by rw [List.length_set]; exact e.len, fun k s hk => ?_, fun k l s t u w a hkl hk hl ku lu o1 o2 => ?_⟩
  · by_cases c : i = k
    · subst c
      rw [List.getElem?_set_self hi] at hk
      cases hk
      exact ⟨_, h1, p, rfl, ⟨_, hb _ _ h6, h3⟩, h4, .inl h5⟩
    · rw [List.getElem?_set_ne c] at hk
      exact e.ok k s hk
  · have up : ∀ {k : Nat} {s : Sl} {u : Option V} {a : Addr}, (ρ.set i .bag)[k]? = some s → ft W.r u s a → ∃ s', ρ[k]? = some s' ∧ ft W.r u s' a := fun {k s u a} hk o => by
      by_cases c : i = k
      · subst c
        rw [List.getElem?_set_self hi] at hk
        cases hk
        exact ⟨_, h, o⟩
      · rw [List.getElem?_set_ne c] at hk
        exact ⟨s, hk, o⟩
    obtain ⟨s', a1, a2⟩ := up hk o1
    obtain ⟨t', b1, b2⟩ := up hl o2
    exact e.ne k l s' t' u w a hkl a1 b1 ku lu a2 b2
theorem g_bagOf (h : ρ[i]? = some (.own Ps)) (hb : ∀ R vs, Al R vs Ps → Bk vs) (q : G t (ρ.set i .bag) R) : G t ρ R := fun W0 M W σ D e m => q W0 M W σ D (e.bagged h hb) m
end
/-! ### promises of the old form -/
def Rplus (R H : Hp) : Hp := fun q => match R q with
  | some o => some o
  | none => match H q with
    | some (.tup xs) => some (.tup xs)
    | some (.frz o (.tup xs)) => some (.frz o (.tup xs))
    | _ => none
section
variable {K : PySem.W.Frag} {W : Wd} {R H H' : Hp} {v : V} {x : Rat} {vs : List V} {ss : List Sl} {M : Addr → Prop}
theorem rplus_ex : Ex R (Rplus R H) := fun q o h => by
  unfold Rplus
  rw [h]
theorem rplus_sub (e : Ex R H) : Ex (Rplus R H) H := fun q o h => by
  unfold Rplus at h
  cases c : R q with
  | some o' =>
    rw [c] at h
    cases h
    exact e _ _ c
  | none =>
    rw [c] at h
    cases d : H q with
    | none => rw [d] at h; cases h
    | some o' =>
      rw [d] at h
      cases o' with
      | tup xs => exact h
      | frz a b =>
        cases b with
        | tup xs => exact h
        | _ => cases h
      | _ => cases h
theorem rplus_t {a : Addr} {xs : List V} (e : Ex R H) (h : SqT K H a xs) : SqT K (Rplus R H) a xs := by
  have up : ∀ {o}, H a = some o → (o = .tup xs ∨ ∃ ob, o = .frz ob (.tup xs)) → Rplus R H a = some o := fun {o} ha ho => by
    unfold Rplus
    cases c : R a with
    | some o' =>
      have := e _ _ c
      rw [ha] at this
      cases this
      rfl
    | none =>
      rw [ha]
      rcases ho with rfl | ⟨ob, rfl⟩ <;> rfl
  rcases h with (h | ⟨ob, h⟩) | h
  · exact .inl (.inl (up h (.inl rfl)))
  · exact .inl (.inr ⟨ob, up h (.inr ⟨ob, rfl⟩)⟩)
  · exact .inr h
theorem rplus_le (sub : Ex W.r W.h) (e : Ex W.h H') : Le M W ⟨Rplus W.r H', H'⟩ := ⟨rplus_ex, fun p o _ h => e _ _ h, fun p hp => by
  obtain ⟨⟨xs, h1, hnt⟩, h2⟩ := hp
  refine ⟨⟨xs, e _ _ h1, hnt⟩, ?_⟩
  show Rplus W.r H' p = none
  unfold Rplus
  rw [h2, e _ _ h1]
  cases xs with
  | tup xs => cases hnt
  | frz a b =>
    cases b with
    | tup xs => cases hnt
    | _ => rfl
  | _ => rfl⟩
theorem rplus_rt (e : Ex R H) (h : Rt K H v x) : Rt K (Rplus R H) v x := by
  obtain ⟨p, e1, h⟩ := h
  exact ⟨p, e1, rplus_t e h⟩
theorem rplus_rts (e : Ex R H) : ∀ {us : List V} {xs : List Rat}, RtAll K H us xs → RtAll K (Rplus R H) us xs
  | _, _, .nil => .nil
  | _, _, .cons h t => .cons (rplus_rt e h) (rplus_rts e t)
/-- an old promise of a value that is scalar, a fraction, a new list of fractions -/
theorem old_v (sub : Ex W.r W.h) (pk : POks W vs ss) {Ψ : Sl → Prop} {Q : VK} (q : ∀ s v W2, Ex W2.r W2.h → Le (BagOf vs ss) W W2 → (∀ p, BagOf vs ss p → Bg W2.h p) → ROk W W2 v s → Ψ s → Q v W2.h) (e : Ex W.h H') (z : Ψ (.val (sc v))) : Q v H' :=
  q (.val (sc v)) v ⟨Rplus W.r H', H'⟩ (rplus_sub (sub.trans e)) (rplus_le sub e) (fun p ⟨i, h1, h2⟩ => by
    obtain ⟨v, e1, q, e2, ⟨a, b, h3⟩, _⟩ := pk.get h1
    rw [h2] at e1
    cases e1
    cases e2
    exact ⟨a, b, e _ _ h3⟩) rfl z
theorem old_r (sub : Ex W.r W.h) (pk : POks W vs ss) {Ψ : Sl → Prop} {Q : VK} (q : ∀ s v W2, Ex W2.r W2.h → Le (BagOf vs ss) W W2 → (∀ p, BagOf vs ss p → Bg W2.h p) → ROk W W2 v s → Ψ s → Q v W2.h) (e : Ex W.h H') (r : Rt K H' v x) (z : Ψ (.val (rat K x))) : Q v H' :=
  q (.val (rat K x)) v ⟨Rplus W.r H', H'⟩ (rplus_sub (sub.trans e)) (rplus_le sub e) (fun p ⟨i, h1, h2⟩ => by
    obtain ⟨v, e1, q, e2, ⟨a, b, h3⟩, _⟩ := pk.get h1
    rw [h2] at e1
    cases e1
    cases e2
    exact ⟨a, b, e _ _ h3⟩) (rplus_rt (sub.trans e) r) z
theorem old_l {p : Addr} {us : List V} {xs : List Rat} (sub : Ex W.r W.h) (pk : POks W vs ss) {Ψ : Sl → Prop} {Q : VK} (q : ∀ s v W2, Ex W2.r W2.h → Le (BagOf vs ss) W W2 → (∀ p, BagOf vs ss p → Bg W2.h p) → ROk W W2 v s → Ψ s → Q v W2.h) (np : W.h p = none) (e : Ex W.h H') (hp : H' p = some (.lst us)) (r : RtAll K H' us xs) (z : Ψ (.own (xs.map (rat K)))) : Q (.ref p) H' :=
  q (.own (xs.map (rat K))) (.ref p) ⟨Rplus W.r H', H'⟩ (rplus_sub (sub.trans e)) (rplus_le sub e) (fun p ⟨i, h1, h2⟩ => by
    obtain ⟨v, e1, q, e2, ⟨a, b, h3⟩, _⟩ := pk.get h1
    rw [h2] at e1
    cases e1
    cases e2
    exact ⟨a, b, e _ _ h3⟩) ⟨p, us, rfl, hp, by
      show Rplus W.r H' p = none
      unfold Rplus
      have rp : W.r p = none := by
        cases c : W.r p with
        | none => rfl
        | some o => rw [sub _ _ c] at np; cases np
      rw [rp, hp], np, al_of_rat (rplus_rts (sub.trans e) r)⟩ z
end
end WL

namespace SL
open PySem PySem.Spec PyProof.Rows L2 Evl NF WL
/-! ### values in full; a place that may change is known by its address -/
inductive PV where
  | non
  | bl (b : Bool)
  | int (i : Int)
  | str (z : Str)
  | lst (as : List PV)
  | tup (as : List PV)
  | dic (ks : List Key) (as : List PV)
  | dit (ks : List (List Key)) (as : List PV)
  | ins (c : Addr) (ns : List Str) (as : List PV)
  | exc (c : Addr) (ns : List Str) (as : List PV)
  | cls (c : Addr)
  | scr (ns : List Int)
  | ptr (p : Addr)
  | hole
def insP (c : Addr) (ns : List Str) (Ps : List MP) : MP := ⟨fun H v => ∃ p dx vs, v = .ref p ∧ H p = some (.ins c dx (ns.zip vs)) ∧ vs.length = ns.length ∧ Al H vs Ps, fun e h => by
  obtain ⟨p, dx, vs, h1, h2, h3, h4⟩ := h
  exact ⟨p, dx, vs, h1, e _ _ h2, h3, h4.mono e⟩⟩
/-- an exception that was caught: its own dict holds what it was made of -/
def excP (c : Addr) (ns : List Str) (Ps : List MP) : MP := ⟨fun H v => ∃ p d, v = .ref p ∧ H p = some (ExT (.ref c) d p) ∧ ((d = none ∧ ns = []) ∨ ∃ dx vs, d = some dx ∧ H dx = some (.xd (ns.zip vs)) ∧ vs.length = ns.length ∧ Al H vs Ps), fun e h => by
  obtain ⟨p, d, h1, h2, h3⟩ := h
  refine ⟨p, d, h1, e _ _ h2, ?_⟩
  rcases h3 with h3 | ⟨dx, vs, k1, k2, k3, k4⟩
  · exact .inl h3
  · exact .inr ⟨dx, vs, k1, e _ _ k2, k3, k4.mono e⟩⟩
def dicP (ks : List Key) (Ps : List MP) : MP := ⟨fun H v => ∃ p vs, v = .ref p ∧ H p = some (.dK (ks.zip vs)) ∧ vs.length = ks.length ∧ Al H vs Ps, fun e h => by
  obtain ⟨p, vs, h1, h2, h3, h4⟩ := h
  exact ⟨p, vs, h1, e _ _ h2, h3, h4.mono e⟩⟩
def ditP (ks : List (List Key)) (Ps : List MP) : MP := ⟨fun H v => ∃ p vs, v = .ref p ∧ H p = some (.dT (ks.zip vs)) ∧ vs.length = ks.length ∧ Al H vs Ps, fun e h => by
  obtain ⟨p, vs, h1, h2, h3, h4⟩ := h
  exact ⟨p, vs, h1, e _ _ h2, h3, h4.mono e⟩⟩
def trk (Ps : List MP) : MP := ⟨fun H v => ∃ p vs, v = .ref p ∧ H p = some (.lst vs) ∧ Al H vs Ps, fun e h => by
  obtain ⟨p, vs, h1, h2, h3⟩ := h
  exact ⟨p, vs, h1, e _ _ h2, h3.mono e⟩⟩
def scrP (K : PySem.W.Frag) (ns : List Int) : MP := ⟨fun H v => ∃ p, v = .ref p ∧ SqL K H p (ns.map V.int), fun e h => by
  obtain ⟨p, h1, h2⟩ := h
  exact ⟨p, h1, ex_l e h2⟩⟩
def anyP : MP := ⟨fun _ _ => True, fun _ h => h⟩
mutual
def mp (K : PySem.W.Frag) : PV → MP
  | .non => sc .non
  | .bl b => sc (.bl b)
  | .int i => sc (.int i)
  | .str z => sc (.str z)
  | .lst as => trk (mps K as)
  | .tup as => WL.tup K (mps K as)
  | .dic ks as => dicP ks (mps K as)
  | .dit ks as => ditP ks (mps K as)
  | .ins c ns as => insP c ns (mps K as)
  | .exc c ns as => excP c ns (mps K as)
  | .cls c => sc (.ref c)
  | .scr ns => scrP K ns
  | .ptr p => sc (.ref p)
  | .hole => anyP
def mps (K : PySem.W.Frag) : List PV → List MP
  | [] => []
  | a :: as => mp K a :: mps K as
end
theorem mps_map (K : PySem.W.Frag) : ∀ as : List PV, mps K as = as.map (mp K)
  | [] => rfl
  | a :: as => by rw [mps, mps_map K as]; rfl
theorem mps_len (K : PySem.W.Frag) (as : List PV) : (mps K as).length = as.length := by rw [mps_map, List.length_map]
theorem mps_get {K : PySem.W.Frag} {as : List PV} {i : Nat} {a : PV} (h : as[i]? = some a) : (mps K as)[i]? = some (mp K a) := by rw [mps_map, List.getElem?_map, h]; rfl
theorem mps_app (K : PySem.W.Frag) (as bs : List PV) : mps K (as ++ bs) = mps K as ++ mps K bs := by rw [mps_map, mps_map, mps_map, List.map_append]
theorem mps_set (K : PySem.W.Frag) (as : List PV) (i : Nat) (a : PV) : mps K (as.set i a) = (mps K as).set i (mp K a) := by rw [mps_map, mps_map, List.map_set]
/-! ### places that may change -/
inductive Cl where
  | lst (as : List PV)
  | ins (c dx : Addr) (ns : List Str) (as : List PV)
  | dic (ks : List Key) (as : List PV)
  | dit (ks : List (List Key)) (as : List PV)
  | bag2
  | bag3
abbrev Sto := Addr → Option Cl
def Cl.ok (K : PySem.W.Frag) (R H : Hp) (p : Addr) : Cl → Prop
  | .lst as => ∃ vs, H p = some (.lst vs) ∧ Al R vs (mps K as)
  | .ins c dx ns as => ∃ vs, H p = some (.ins c dx (ns.zip vs)) ∧ vs.length = ns.length ∧ Al R vs (mps K as)
  | .dic ks as => ∃ vs, H p = some (.dK (ks.zip vs)) ∧ vs.length = ks.length ∧ Al R vs (mps K as)
  | .dit ks as => ∃ vs, H p = some (.dT (ks.zip vs)) ∧ vs.length = ks.length ∧ Al R vs (mps K as)
  | .bag2 => ∃ a b : Int, H p = some (.lst [.int a, .int b])
  | .bag3 => ∃ (a b : Int) (c : Bool), H p = some (.lst [.int a, .int b, .bl c])
theorem Cl.ok.there {K : PySem.W.Frag} {R H : Hp} {p : Addr} {c : Cl} (h : c.ok K R H p) : ∃ o, H p = some o ∧ nt o = true := by
  cases c with
  | lst as => obtain ⟨vs, h, _⟩ := h; exact ⟨_, h, rfl⟩
  | ins c dx ns as => obtain ⟨vs, h, _⟩ := h; exact ⟨_, h, rfl⟩
  | dic ks as => obtain ⟨vs, h, _⟩ := h; exact ⟨_, h, rfl⟩
  | dit ks as => obtain ⟨vs, h, _⟩ := h; exact ⟨_, h, rfl⟩
  | bag2 => obtain ⟨_, _, h⟩ := h; exact ⟨_, h, rfl⟩
  | bag3 => obtain ⟨_, _, _, h⟩ := h; exact ⟨_, h, rfl⟩
theorem Cl.ok.stay {K : PySem.W.Frag} {R R2 H H2 : Hp} {p : Addr} {c : Cl} (h : c.ok K R H p) (e : Ex R R2) (g : ∀ o, H p = some o → H2 p = some o) : c.ok K R2 H2 p := by
  cases c with
  | lst as => obtain ⟨vs, h, a⟩ := h; exact ⟨vs, g _ h, a.mono e⟩
  | ins c dx ns as => obtain ⟨vs, h, l, a⟩ := h; exact ⟨vs, g _ h, l, a.mono e⟩
  | dic ks as => obtain ⟨vs, h, l, a⟩ := h; exact ⟨vs, g _ h, l, a.mono e⟩
  | dit ks as => obtain ⟨vs, h, l, a⟩ := h; exact ⟨vs, g _ h, l, a.mono e⟩
  | bag2 => obtain ⟨a, b, h⟩ := h; exact ⟨a, b, g _ h⟩
  | bag3 => obtain ⟨a, b, c, h⟩ := h; exact ⟨a, b, c, g _ h⟩
def put (S : Sto) (p : Addr) (c : Cl) : Sto := fun q => if q = p then some c else S q
theorem put_same {S : Sto} {p : Addr} {c : Cl} : put S p c p = some c := by unfold put; rw [if_pos rfl]
theorem put_ne {S : Sto} {p q : Addr} {c : Cl} (h : q ≠ p) : put S p c q = S q := by unfold put; rw [if_neg h]
theorem put_put {S : Sto} {p : Addr} {c d : Cl} : put (put S p c) p d = put S p d := by
  funext q
  unfold put
  split <;> rfl
/-! ### worlds: what is settled (r) within what stands (h); the places that may change (s) -/
structure Wd where
  r : Hp
  h : Hp
  s : Sto
structure Ok (K : PySem.W.Frag) (W : Wd) : Prop where
  sub : Ex W.r W.h
  cell : ∀ p c, W.s p = some c → W.r p = none ∧ c.ok K W.r W.h p
structure Le (W W2 : Wd) : Prop where
  r : Ex W.r W2.r
  h : ∀ p o, W.s p = none → W.h p = some o → W2.h p = some o
  w : ∀ p o, W.h p = some o → nt o = true → W.r p = none → W.s p = none → W2.r p = none
  d : ∀ p c, W.s p = some c → ∃ o, W2.h p = some o ∧ nt o = true
  n : ∀ p c, W2.s p = some c → W.s p = none → W.h p = none
structure Go (K : PySem.W.Frag) (W W2 : Wd) : Prop where
  ok : Ok K W2
  le : Le W W2
section
variable {K : PySem.W.Frag} {W0 W W1 W2 W3 : Wd}
theorem Ok.stands (o : Ok K W) {p : Addr} {c : Cl} (h : W.s p = some c) : ∃ u, W.h p = some u ∧ nt u = true := (o.cell p c h).2.there
theorem Le.refl (o : Ok K W) : Le W W := ⟨Ex.refl _, fun _ _ _ h => h, fun _ _ _ _ h _ => h, fun _ c h => o.stands h, fun p c h n => by rw [h] at n; cases n⟩
/-- what stands stands on -/
theorem Le.there (a : Le W W2) {p : Addr} {u : HO} (h : W.h p = some u) : ∃ u2, W2.h p = some u2 := by
  cases c : W.s p with
  | none => exact ⟨u, a.h p u c h⟩
  | some k =>
    obtain ⟨u2, e, _⟩ := a.d p k c
    exact ⟨u2, e⟩
theorem Le.fresh (a : Le W W2) (o2 : Ok K W2) {p : Addr} (h : W2.h p = none) : W.h p = none := by
  cases c : W.h p with
  | none => rfl
  | some u =>
    obtain ⟨u2, e⟩ := a.there c
    rw [h] at e
    cases e
theorem Le.trans (a : Le W W1) (b : Le W1 W2) (o : Ok K W1) : Le W W2 := by
  have s1 : ∀ p u, W.s p = none → W.h p = some u → W1.s p = none := fun p u n h => by
    cases c : W1.s p with
    | none => rfl
    | some k => rw [a.n p k c n] at h; cases h
  refine ⟨a.r.trans b.r, fun p u n h => b.h p u (s1 p u n h) (a.h p u n h), fun p u h t e n => b.w p u (a.h p u n h) t (a.w p u h t e n) (s1 p u n h), fun p c h => ?_, fun p c h n => ?_⟩
  · obtain ⟨u, e, t⟩ := a.d p c h
    cases c1 : W1.s p with
    | none => exact ⟨u, b.h p u c1 e, t⟩
    | some k => exact b.d p k c1
  · cases c1 : W1.s p with
    | none =>
      have := b.n p c h c1
      cases c0 : W.h p with
      | none => rfl
      | some u => rw [a.h p u n c0] at this; cases this
    | some k => exact a.n p k c1 n
theorem Go.trans (a : Go K W W1) (b : Go K W1 W2) : Go K W W2 := ⟨b.ok, a.le.trans b.le a.ok⟩
theorem Go.id (o : Ok K W) : Go K W W := ⟨o, Le.refl o⟩
theorem Ok.rnone (o : Ok K W) {p : Addr} (h : W.h p = none) : W.r p = none := by
  cases c : W.r p with
  | none => rfl
  | some u => rw [o.sub _ _ c] at h; cases h
theorem Ok.snone (o : Ok K W) {p : Addr} (h : W.h p = none) : W.s p = none := by
  cases c : W.s p with
  | none => rfl
  | some k =>
    obtain ⟨u, e, _⟩ := o.stands c
    rw [h] at e
    cases e
theorem upd_ex {R H : Hp} {p : Addr} {o : HO} (s : Ex R H) (hp : H p = none) : Ex (upd R p o) (upd H p o) := fun q u hq => by
  by_cases c : q = p
  · subst c
    rw [upd_same] at hq
    cases hq
    exact upd_same
  · rw [upd_ne c] at hq
    rw [upd_ne c]
    exact s _ _ hq
theorem r_none {R H : Hp} (s : Ex R H) {p : Addr} (hp : H p = none) : R p = none := by
  cases c : R p with
  | none => rfl
  | some u => rw [s _ _ c] at hp; cases hp
/-- a new thing that is settled -/
theorem new_set {p : Addr} {u : HO} (o : Ok K W) (hp : W.h p = none) : Go K W ⟨upd W.r p u, upd W.h p u, W.s⟩ := by
  have rp := o.rnone hp
  refine ⟨⟨upd_ex o.sub hp, fun q c h => ?_⟩, Ex.new rp, fun q v n h => Ex.new hp _ _ h, fun q v h t e _ => ?_, fun q c h => (o.stands h).imp fun _ z => ⟨Ex.new hp _ _ z.1, z.2⟩, fun q c h n => ?_⟩
  · have a := (o.cell q c h).1
    have b := (o.cell q c h).2
    have nq : q ≠ p := fun z => by rw [z, o.snone hp] at h; cases h
    exact ⟨by show upd W.r p u q = none; rw [upd_ne nq]; exact a, b.stay (Ex.new rp) fun _ h => Ex.new hp _ _ h⟩
  · have nq : q ≠ p := fun z => by rw [z, hp] at h; cases h
    show upd W.r p u q = none
    rw [upd_ne nq]
    exact e
  · have h' : W.s q = some c := h
    rw [n] at h'
    cases h'
/-- a new thing that is not settled yet -/
theorem new_own {p : Addr} {u : HO} (o : Ok K W) (hp : W.h p = none) : Go K W ⟨W.r, upd W.h p u, W.s⟩ := by
  refine ⟨⟨fun q v h => Ex.new hp _ _ (o.sub _ _ h), fun q c h => ?_⟩, Ex.refl _, fun q v n h => Ex.new hp _ _ h, fun q v h t e _ => e, fun q c h => (o.stands h).imp fun _ z => ⟨Ex.new hp _ _ z.1, z.2⟩, fun q c h n => ?_⟩
  · have a := (o.cell q c h).1
    have b := (o.cell q c h).2
    exact ⟨a, b.stay (Ex.refl _) fun _ h => Ex.new hp _ _ h⟩
  · have h' : W.s q = some c := h
    rw [n] at h'
    cases h'
/-- a new place that may change -/
theorem new_cell {p : Addr} {u : HO} {c : Cl} (o : Ok K W) (hp : W.h p = none) (hc : c.ok K W.r (upd W.h p u) p) : Go K W ⟨W.r, upd W.h p u, put W.s p c⟩ := by
  refine ⟨⟨fun q v h => Ex.new hp _ _ (o.sub _ _ h), fun q k h => ?_⟩, Ex.refl _, fun q v n h => Ex.new hp _ _ h, fun q v h t e _ => e, fun q k h => (o.stands h).imp fun _ z => ⟨Ex.new hp _ _ z.1, z.2⟩, fun q k h n => ?_⟩
  · have h' : put W.s p c q = some k := h
    by_cases e : q = p
    · subst e
      rw [put_same] at h'
      cases h'
      exact ⟨o.rnone hp, hc⟩
    · rw [put_ne e] at h'
      have a := (o.cell q k h').1
      have b := (o.cell q k h').2
      exact ⟨a, b.stay (Ex.refl _) fun _ h => Ex.new hp _ _ h⟩
  · by_cases e : q = p
    · subst e
      exact hp
    · have h' : put W.s p c q = some k := h
      rw [put_ne e, n] at h'
      cases h'
/-- a place changes -/
theorem put_cell {p : Addr} {u : HO} {c c2 : Cl} (o : Ok K W) (hs : W.s p = some c) (hc : c2.ok K W.r (upd W.h p u) p) : Go K W ⟨W.r, upd W.h p u, put W.s p c2⟩ := by
  have rp := (o.cell p c hs).1
  have st : ∀ q v, q ≠ p → W.h q = some v → upd W.h p u q = some v := fun q v e h => by rw [upd_ne e]; exact h
  refine ⟨⟨fun q v h => st q v (fun z => by rw [z] at h; rw [show W.r p = some v from h] at rp; cases rp) (o.sub _ _ h), fun q k h => ?_⟩, Ex.refl _, fun q v n h => st q v (fun z => by rw [z, hs] at n; cases n) h, fun q v h t e _ => e, fun q k h => ?_, fun q k h n => ?_⟩
  · have h' : put W.s p c2 q = some k := h
    by_cases e : q = p
    · subst e
      rw [put_same] at h'
      cases h'
      exact ⟨rp, hc⟩
    · rw [put_ne e] at h'
      have a := (o.cell q k h').1
      have b := (o.cell q k h').2
      exact ⟨a, b.stay (Ex.refl _) fun v h => st q v e h⟩
  · by_cases e : q = p
    · subst e
      exact hc.there
    · obtain ⟨v, a, b⟩ := o.stands h
      exact ⟨v, st q v e a, b⟩
  · by_cases e : q = p
    · subst e
      rw [hs] at n
      cases n
    · have h' : put W.s p c2 q = some k := h
      rw [put_ne e, n] at h'
      cases h'
def rem (S : Sto) (p : Addr) : Sto := fun q => if q = p then none else S q
theorem rem_ne {S : Sto} {p q : Addr} (h : q ≠ p) : rem S p q = S q := by unfold rem; rw [if_neg h]
theorem rem_same {S : Sto} {p : Addr} : rem S p p = none := by unfold rem; rw [if_pos rfl]
/-- a place that may change is settled -/
theorem calm_cell {p : Addr} {u : HO} {c : Cl} (o : Ok K W) (hs : W.s p = some c) (hp : W.h p = some u) : Go K W ⟨upd W.r p u, W.h, rem W.s p⟩ := by
  have rp := (o.cell p c hs).1
  have ex : Ex W.r (upd W.r p u) := Ex.new rp
  refine ⟨⟨fun q v hq => ?_, fun q k h => ?_⟩, ex, fun q v n h => h, fun q v h t e n => ?_, fun q k h => o.stands h, fun q k h n => ?_⟩
  · have hq' : upd W.r p u q = some v := hq
    by_cases e : q = p
    · subst e
      rw [upd_same] at hq'
      cases hq'
      exact hp
    · rw [upd_ne e] at hq'
      exact o.sub _ _ hq'
  · have h' : rem W.s p q = some k := h
    have e : q ≠ p := fun z => by rw [z, rem_same] at h'; cases h'
    rw [rem_ne e] at h'
    have a := (o.cell q k h').1
    have b := (o.cell q k h').2
    exact ⟨by show upd W.r p u q = none; rw [upd_ne e]; exact a, b.stay ex fun _ h => h⟩
  · have e' : q ≠ p := fun z => by rw [z, hs] at n; cases n
    show upd W.r p u q = none
    rw [upd_ne e']
    exact e
  · have h' : rem W.s p q = some k := h
    have e : q ≠ p := fun z => by rw [z, rem_same] at h'; cases h'
    rw [rem_ne e, n] at h'
    cases h'
end
/-! ### slots -/
inductive Sl where
  | un
  | val (a : PV)
  | own (as : List PV)
def OwnOk (K : PySem.W.Frag) (W : Wd) (p : Addr) (as : List PV) : Prop := ∃ vs, W.h p = some (.lst vs) ∧ W.r p = none ∧ W.s p = none ∧ Al W.r vs (mps K as)
def SlOk (K : PySem.W.Frag) (W0 W : Wd) (u : Option V) : Sl → Prop
  | .un => True
  | .val a => ∃ v, u = some v ∧ (mp K a).p W.r v
  | .own as => ∃ p, u = some (.ref p) ∧ W0.h p = none ∧ OwnOk K W p as
structure En (K : PySem.W.Frag) (W0 W : Wd) (σ : L2.St) (ρ : List Sl) : Prop where
  ok : Ok K W
  le : Le W0 W
  len : σ.length = ρ.length
  sl : ∀ (i : Nat) s, ρ[i]? = some s → ∃ u, σ[i]? = some u ∧ SlOk K W0 W u s
  ne : ∀ (i j : Nat) as bs p, i ≠ j → ρ[i]? = some (.own as) → ρ[j]? = some (.own bs) → σ[i]? = some (some (.ref p)) → σ[j]? ≠ some (some (.ref p))
section
variable {K : PySem.W.Frag} {W0 W W1 W2 W3 : Wd} {σ : L2.St} {ρ ρ2 : List Sl} {i j : Nat} {p : Addr} {as bs : List PV} {a : PV} {v : V}
theorem OwnOk.go (h : OwnOk K W p as) (g : Go K W W2) : OwnOk K W2 p as := by
  obtain ⟨vs, h1, h2, h3, h4⟩ := h
  refine ⟨vs, g.le.h _ _ h3 h1, g.le.w _ _ h1 rfl h2 h3, ?_, h4.mono g.le.r⟩
  cases c : W2.s p with
  | none => rfl
  | some k => rw [g.le.n _ _ c h3] at h1; cases h1
theorem En.go (e : En K W0 W σ ρ) (g : Go K W W2) : En K W0 W2 σ ρ := by
  refine ⟨g.ok, e.le.trans g.le e.ok, e.len, fun i s hs => ?_, e.ne⟩
  obtain ⟨u, h1, h2⟩ := e.sl i s hs
  refine ⟨u, h1, ?_⟩
  cases s with
  | un => trivial
  | val a =>
    obtain ⟨v, rfl, h⟩ := h2
    exact ⟨v, rfl, MP.mono _ g.le.r h⟩
  | own as =>
    obtain ⟨p, rfl, h3, h4⟩ := h2
    exact ⟨p, rfl, h3, h4.go g⟩
theorem En.id (e : En K W0 W σ ρ) : Go K W W := Go.id e.ok
/-- an answer that is a new list -/
def ROk (K : PySem.W.Frag) (W W2 : Wd) (v : V) (as : List PV) : Prop := ∃ p, v = .ref p ∧ W.h p = none ∧ OwnOk K W2 p as
theorem ROk.back (o : Ok K W1) (g : Go K W W1) (r : ROk K W1 W2 v as) : ROk K W W2 v as := by
  obtain ⟨p, h1, h2, h3⟩ := r
  exact ⟨p, h1, g.le.fresh o h2, h3⟩
theorem ROk.base (e : En K W0 W σ ρ) (r : ROk K W W2 v as) : ROk K W0 W2 v as := by
  obtain ⟨p, h1, h2, h3⟩ := r
  exact ⟨p, h1, e.le.fresh e.ok h2, h3⟩
theorem e_new (o : Ok K W) {vs : List V} (hp : W.h p = none) (al : Al W.r vs (mps K as)) : ∃ W3, W3.h = upd W.h p (.lst vs) ∧ W3.s = W.s ∧ Go K W W3 ∧ ROk K W W3 (.ref p) as :=
  ⟨⟨W.r, upd W.h p (.lst vs), W.s⟩, rfl, rfl, new_own o hp, p, rfl, hp, vs, upd_same, o.rnone hp, o.snone hp, al⟩
/-- a new list is settled -/
theorem settle (g : Go K W W2) (h : ROk K W W2 v as) : ∃ W3, W3.h = W2.h ∧ W3.s = W2.s ∧ Ex W2.r W3.r ∧ Go K W W3 ∧ (mp K (.lst as)).p W3.r v := by
  obtain ⟨p, rfl, hp, vs, h1, h2, h3, h4⟩ := h
  have ex : Ex W2.r (upd W2.r p (.lst vs)) := Ex.new h2
  refine ⟨⟨upd W2.r p (.lst vs), W2.h, W2.s⟩, rfl, rfl, ex, ⟨⟨fun q o (hq : upd W2.r p (.lst vs) q = some o) => ?_, fun q c hc => ?_⟩, g.le.r.trans ex, g.le.h, fun q o hq t e ns => ?_, g.le.d, g.le.n⟩, p, vs, rfl, upd_same, h4.mono ex⟩
  · by_cases c : q = p
    · subst c
      rw [upd_same] at hq
      cases hq
      exact h1
    · rw [upd_ne c] at hq
      exact g.ok.sub _ _ hq
  · have nq : q ≠ p := fun z => by
      have hc' : W2.s q = some c := hc
      rw [z, h3] at hc'
      cases hc'
    have a := (g.ok.cell q c hc).1
    have b := (g.ok.cell q c hc).2
    exact ⟨by show upd W2.r p _ q = none; rw [upd_ne nq]; exact a, b.stay ex fun _ h => h⟩
  · have nq : q ≠ p := fun z => by rw [z, hp] at hq; cases hq
    show upd W2.r p _ q = none
    rw [upd_ne nq]
    exact g.le.w _ _ hq t e ns
/-- a new list becomes a place that may change -/
theorem celled (g : Go K W W2) (h : ROk K W W2 v as) : ∃ p W3, v = .ref p ∧ W2.s p = none ∧ W3.h = W2.h ∧ W3.r = W2.r ∧ W3.s = put W2.s p (.lst as) ∧ Go K W W3 := by
  obtain ⟨p, rfl, hp, vs, h1, h2, h3, h4⟩ := h
  refine ⟨p, ⟨W2.r, W2.h, put W2.s p (.lst as)⟩, rfl, h3, rfl, rfl, rfl, ⟨g.ok.sub, fun q c hc => ?_⟩, g.le.r, g.le.h, g.le.w, g.le.d, fun q c hc n => ?_⟩
  · have hc' : put W2.s p (.lst as) q = some c := hc
    by_cases e : q = p
    · subst e
      rw [put_same] at hc'
      cases hc'
      exact ⟨h2, vs, h1, h4⟩
    · rw [put_ne e] at hc'
      exact g.ok.cell q c hc'
  · by_cases e : q = p
    · subst e
      exact hp
    · have hc' : put W2.s p (.lst as) q = some c := hc
      rw [put_ne e] at hc'
      exact g.le.n q c hc' n
theorem En.setV (e : En K W0 W σ ρ) (h : (mp K a).p W.r v) (hi : i < ρ.length) : En K W0 W (σ.set i (some v)) (ρ.set i (.val a)) := by
  have hσ : i < σ.length := by rw [e.len]; exact hi
  refine ⟨e.ok, e.le, by rw [List.length_set, List.length_set]; exact e.len, fun k t hk => ?_, fun k l as bs p hkl hk hl ku lu => ?_⟩
  · by_cases c : i = k
    · subst c
      rw [List.getElem?_set_self hi] at hk
      cases hk
      exact ⟨some v, List.getElem?_set_self hσ, v, rfl, h⟩
    · rw [List.getElem?_set_ne c] at hk
      rw [List.getElem?_set_ne c]
      exact e.sl k t hk
  · have c1 : i ≠ k := fun c => by
      subst c
      rw [List.getElem?_set_self hi] at hk
      cases hk
    have c2 : i ≠ l := fun c => by
      subst c
      rw [List.getElem?_set_self hi] at hl
      cases hl
    rw [List.getElem?_set_ne c1] at hk ku
    rw [List.getElem?_set_ne c2] at hl lu
    exact e.ne k l as bs p hkl hk hl ku lu
/-- where an own list lies stands in the heap -/
theorem En.own_some (e : En K W0 W σ ρ) (h : ρ[i]? = some (.own as)) (hu : σ[i]? = some (some (.ref p))) : W0.h p = none ∧ OwnOk K W p as := by
  obtain ⟨u, h1, q, h2, h3⟩ := e.sl i _ h
  rw [hu] at h1
  cases h1
  cases h2
  exact h3
theorem En.setO (e : En K W0 W σ ρ) (g : Go K W W2) (r : ROk K W W2 v as) (hi : i < ρ.length) : En K W0 W2 (σ.set i (some v)) (ρ.set i (.own as)) := by
  have e2 := e.go g
  have hσ : i < σ.length := by rw [e.len]; exact hi
  obtain ⟨p, rfl, hp, ho⟩ := r
  have fr : ∀ {l : Nat} {bs : List PV}, ρ[l]? = some (.own bs) → σ[l]? ≠ some (some (.ref p)) := fun {l bs} hl lu => by
    obtain ⟨_, vs, z, _⟩ := e.own_some hl lu
    rw [hp] at z
    cases z
  refine ⟨e2.ok, e2.le, by rw [List.length_set, List.length_set]; exact e.len, fun k t hk => ?_, fun k l as' bs q hkl hk hl ku lu => ?_⟩
  · by_cases c : i = k
    · subst c
      rw [List.getElem?_set_self hi] at hk
      cases hk
      exact ⟨_, List.getElem?_set_self hσ, p, rfl, e.le.fresh e.ok hp, ho⟩
    · rw [List.getElem?_set_ne c] at hk
      rw [List.getElem?_set_ne c]
      exact e2.sl k t hk
  · by_cases c1 : i = k
    · subst c1
      rw [List.getElem?_set_self hσ] at ku
      cases ku
      rw [List.getElem?_set_ne hkl] at hl lu
      exact fr hl lu
    · rw [List.getElem?_set_ne c1] at hk ku
      by_cases c2 : i = l
      · subst c2
        rw [List.getElem?_set_self hσ] at lu
        cases lu
        exact fr hk ku
      · rw [List.getElem?_set_ne c2] at hl lu
        exact e.ne k l as' bs q hkl hk hl ku lu
theorem En.less (e : En K W0 W σ ρ) (hl : ρ2.length = ρ.length) (h : ∀ (i : Nat) s, ρ2[i]? = some s → s = .un ∨ ρ[i]? = some s) : En K W0 W σ ρ2 := by
  refine ⟨e.ok, e.le, by rw [e.len, hl], fun i s hs => ?_, fun i j as bs p n h1 h2 k1 k2 => ?_⟩
  · rcases h i s hs with rfl | h'
    · have hi : i < ρ2.length := (List.getElem?_eq_some_iff.mp hs).1
      exact ⟨_, List.getElem?_eq_getElem (by rw [e.len, ← hl]; exact hi), trivial⟩
    · exact e.sl i s h'
  · exact e.ne i j as bs p n ((h i _ h1).resolve_left fun z => by cases z) ((h j _ h2).resolve_left fun z => by cases z) k1 k2
/-- what is own is settled -/
theorem En.calm (e : En K W0 W σ ρ) (h : ρ[i]? = some (.own as)) : ∃ W', W'.h = W.h ∧ W'.s = W.s ∧ Ex W.r W'.r ∧ En K W0 W' σ (ρ.set i (.val (.lst as))) := by
  obtain ⟨u, h1, p, rfl, h2, vs, h3, h4, h5, h6⟩ := e.sl i _ h
  have ex : Ex W.r (upd W.r p (.lst vs)) := Ex.new h4
  have hi : i < ρ.length := (List.getElem?_eq_some_iff.mp h).1
  refine ⟨⟨upd W.r p (.lst vs), W.h, W.s⟩, rfl, rfl, ex, ⟨fun q o (hq : upd W.r p (.lst vs) q = some o) => ?_, fun q c hc => ?_⟩, ⟨e.le.r.trans ex, e.le.h, fun q o hq t z ns => ?_, e.le.d, e.le.n⟩, by rw [List.length_set]; exact e.len, fun k s hk => ?_, fun k l as' bs q hkl hk hl ku lu => ?_⟩
  · by_cases c : q = p
    · subst c
      rw [upd_same] at hq
      cases hq
      exact h3
    · rw [upd_ne c] at hq
      exact e.ok.sub _ _ hq
  · have nq : q ≠ p := fun z => by
      have hc' : W.s q = some c := hc
      rw [z, h5] at hc'
      cases hc'
    have a := (e.ok.cell q c hc).1
    have b := (e.ok.cell q c hc).2
    exact ⟨by show upd W.r p _ q = none; rw [upd_ne nq]; exact a, b.stay ex fun _ h => h⟩
  · have nq : q ≠ p := fun y => by rw [y, h2] at hq; cases hq
    show upd W.r p _ q = none
    rw [upd_ne nq]
    exact e.le.w _ _ hq t z ns
  · by_cases c : i = k
    · subst c
      rw [List.getElem?_set_self hi] at hk
      cases hk
      exact ⟨_, h1, _, rfl, p, vs, rfl, upd_same, h6.mono ex⟩
    · rw [List.getElem?_set_ne c] at hk
      obtain ⟨u, k1, k2⟩ := e.sl k s hk
      refine ⟨u, k1, ?_⟩
      cases s with
      | un => trivial
      | val a =>
        obtain ⟨v, rfl, h⟩ := k2
        exact ⟨v, rfl, MP.mono _ ex h⟩
      | own bs =>
        obtain ⟨q, rfl, q1, us, q2, q3, q4, q5⟩ := k2
        have nq : q ≠ p := fun z => by
          subst z
          exact e.ne i k _ _ q c h hk h1 k1
        exact ⟨q, rfl, q1, us, q2, by show upd W.r p _ q = none; rw [upd_ne nq]; exact q3, q4, q5.mono ex⟩
  · have c1 : i ≠ k := fun c => by
      subst c
      rw [List.getElem?_set_self hi] at hk
      cases hk
    have c2 : i ≠ l := fun c => by
      subst c
      rw [List.getElem?_set_self hi] at hl
      cases hl
    rw [List.getElem?_set_ne c1] at hk
    rw [List.getElem?_set_ne c2] at hl
    exact e.ne k l as' bs q hkl hk hl ku lu
/-- an own list changes -/
theorem En.put (e : En K W0 W σ ρ) (h : ρ[i]? = some (.own as)) (hu : σ[i]? = some (some (.ref p))) {vs : List V} (al : Al W.r vs (mps K bs)) : En K W0 ⟨W.r, upd W.h p (.lst vs), W.s⟩ σ (ρ.set i (.own bs)) := by
  obtain ⟨h2, us, h3, h4, h5, h6⟩ := e.own_some h hu
  have hi : i < ρ.length := (List.getElem?_eq_some_iff.mp h).1
  have st : ∀ q v, q ≠ p → W.h q = some v → upd W.h p (.lst vs) q = some v := fun q v e h => by rw [upd_ne e]; exact h
  refine ⟨⟨fun q v hq => st q v (fun z => by rw [z] at hq; rw [show W.r p = some v from hq] at h4; cases h4) (e.ok.sub _ _ hq), fun q c hc => ?_⟩, ⟨e.le.r, fun q v n hq => st q v (fun z => by rw [z, h2] at hq; cases hq) (e.le.h q v n hq), e.le.w, fun q c hq => by
    obtain ⟨v, a, b⟩ := e.le.d q c hq
    by_cases z : q = p
    · subst z
      exact ⟨_, upd_same, rfl⟩
    · exact ⟨v, st q v z a, b⟩, e.le.n⟩, by rw [List.length_set]; exact e.len, fun k s hk => ?_, fun k l as' bs' q hkl hk hl ku lu => ?_⟩
  · have nq : q ≠ p := fun z => by
      have hc' : W.s q = some c := hc
      rw [z, h5] at hc'
      cases hc'
    have a := (e.ok.cell q c hc).1
    have b := (e.ok.cell q c hc).2
    exact ⟨a, b.stay (Ex.refl _) fun v h => st q v nq h⟩
  · by_cases c : i = k
    · subst c
      rw [List.getElem?_set_self hi] at hk
      cases hk
      exact ⟨_, hu, p, rfl, h2, vs, upd_same, h4, h5, al⟩
    · rw [List.getElem?_set_ne c] at hk
      obtain ⟨u, k1, k2⟩ := e.sl k s hk
      refine ⟨u, k1, ?_⟩
      cases s with
      | un => trivial
      | val a => exact k2
      | own cs =>
        obtain ⟨q, rfl, q1, us', q2, q3, q4, q5⟩ := k2
        have nq : q ≠ p := fun z => by
          subst z
          exact e.ne i k _ _ q c h hk hu k1
        exact ⟨q, rfl, q1, us', st q _ nq q2, q3, q4, q5⟩
  · by_cases c1 : i = k
    · subst c1
      rw [hu] at ku
      cases ku
      rw [List.getElem?_set_ne hkl] at hl
      exact e.ne i l _ _ p hkl h hl hu lu
    · rw [List.getElem?_set_ne c1] at hk
      by_cases c2 : i = l
      · subst c2
        exact e.ne k i _ _ q hkl hk h ku lu
      · rw [List.getElem?_set_ne c2] at hl
        exact e.ne k l as' bs' q hkl hk hl ku lu
end
end SL

namespace SL
open PySem PySem.Spec PyProof.Rows L2 Evl NF WL
/-! ### what comes of a piece of code: from the places' contents a wish of answers and one of refusals -/
structure XV where
  c : Addr
  ns : List Str
  as : List PV
abbrev W (α : Type) := Sto → (α → Sto → Prop) → (XV → Sto → Prop) → Prop
def ret {α : Type} (a : α) : W α := fun S Ψ _ => Ψ a S
def bind {α β : Type} (m : W α) (k : α → W β) : W β := fun S Ψ Ξ => m S (fun a S2 => k a S2 Ψ Ξ) Ξ
def fail {α : Type} : W α := fun _ _ _ => False
def lift {α : Type} (o : Option α) : W α := fun S Ψ _ => ∃ a, o = some a ∧ Ψ a S
def refuse {α : Type} (x : XV) : W α := fun S _ Ξ => Ξ x S
def noX {α : Type} (m : W α) : W α := fun S Ψ _ => m S Ψ fun _ _ => False
/-- the places themselves -/
def look {α : Type} (f : Sto → Option α) : W α := fun S Ψ _ => ∃ a, f S = some a ∧ Ψ a S
theorem lift_some {α : Type} (a : α) : lift (some a) = ret a := by
  funext S Ψ Ξ
  exact propext ⟨fun ⟨b, e, h⟩ => by cases e; exact h, fun h => ⟨a, rfl, h⟩⟩
def XOk (K : PySem.W.Frag) (H : Hp) (cls : Value) (d : Option Addr) (x : XV) : Prop := cls = .ref x.c ∧ ((d = none ∧ x.ns = []) ∨ ∃ dx vs, d = some dx ∧ H dx = some (.xd (x.ns.zip vs)) ∧ vs.length = x.ns.length ∧ Al H vs (mps K x.as))
/-! ### judgements of expressions, tests, arguments -/
section
variable (K : PySem.W.Frag) (Z : WX) (ρ : List Sl)
def KX (σ : L2.St) (W : Wd) (Ξ : XV → Sto → Prop) : Prop := ∀ x cls d W2, Go K W W2 → XOk K W2.r cls d x → Ξ x W2.s → Z cls d σ W2.h
def EP (te : TE) (m : W PV) : Prop := ∀ W0 W σ, En K W0 W σ ρ → ∀ (Q : VK) Ψ Ξ, m W.s Ψ Ξ → (∀ a v W2, Go K W W2 → (mp K a).p W2.r v → Ψ a W2.s → Q v W2.h) → KX K Z σ W Ξ → te σ W.h Q
def EO (te : TE) (m : W (List PV)) : Prop := ∀ W0 W σ, En K W0 W σ ρ → ∀ (Q : VK) Ψ Ξ, m W.s Ψ Ξ → (∀ as v W2, Go K W W2 → ROk K W W2 v as → Ψ as W2.s → Q v W2.h) → KX K Z σ W Ξ → te σ W.h Q
def TP (tt : TT) (m : W Bool) : Prop := ∀ W0 W σ, En K W0 W σ ρ → ∀ (Q : Bool → Hp → Prop) Ψ Ξ, m W.s Ψ Ξ → (∀ b W2, Go K W W2 → Ψ b W2.s → Q b W2.h) → KX K Z σ W Ξ → tt σ W.h Q
def VP (tA : TA) (m : W (List PV)) : Prop := ∀ W0 W σ, En K W0 W σ ρ → ∀ (Q : List V → Hp → Prop) Ψ Ξ, m W.s Ψ Ξ → (∀ as vs W2, Go K W W2 → Al W2.r vs (mps K as) → Ψ as W2.s → Q vs W2.h) → KX K Z σ W Ξ → tA σ W.h Q
end
section
variable {K : PySem.W.Frag} {Z : WX} {W0 W1 W2 W3 : Wd} {σ : L2.St} {ρ : List Sl} {i j : Nat} {ta tb tc te : TE} {tt t1 t2 : TT} {tA tr : TA} {ma mb mc m : W PV} {ms : W (List PV)} {r r1 r2 : R2}
theorem KX.go {W : Wd} {Ξ : XV → Sto → Prop} (h : KX K Z σ W Ξ) (g : Go K W W1) : KX K Z σ W1 Ξ := fun x cls d W2 g2 => h x cls d W2 (g.trans g2)
theorem ep_var {a : PV} (h : ρ[i]? = some (.val a)) : EP K Z ρ (tVar i) (ret a) := fun W0 W σ e Q Ψ Ξ hm k _ => by
  obtain ⟨u, h1, v, rfl, h2⟩ := e.sl i _ h
  exact ⟨v, h1, k a v W e.id h2 hm⟩
theorem ep_c {a : PV} {v : V} (h : ∀ H, (mp K a).p H v) : EP K Z ρ (tC v) (ret a) := fun W0 W σ e Q Ψ Ξ hm k _ => k a v W e.id (h _) hm
theorem ep_int {n : Int} : EP K Z ρ (tC (.int n)) (ret (.int n)) := ep_c fun _ => rfl
theorem ep_bl {b : Bool} : EP K Z ρ (tC (.bl b)) (ret (.bl b)) := ep_c fun _ => rfl
theorem ep_str {z : Str} : EP K Z ρ (tC (.str z)) (ret (.str z)) := ep_c fun _ => rfl
theorem ep_non : EP K Z ρ (tC .non) (ret .non) := ep_c fun _ => rfl
/-- nothing is asked of what never comes -/
theorem ep_no : EP K Z ρ (fun _ _ _ => False) fail := fun W0 W σ e Q Ψ Ξ hm _ _ => hm.elim
/-- an operation that reads, by values -/
def OpW (K : PySem.W.Frag) (r : R2) (f : PV → PV → Option PV) : Prop := ∀ a b c, f a b = some c → OpV r (mp K a) (mp K b) (mp K c)
def op2 (f : PV → PV → Option PV) (ma mb : W PV) : W PV := bind ma fun a => bind mb fun b => lift (f a b)
def op1 (f : PV → Option PV) (ma : W PV) : W PV := bind ma fun a => lift (f a)
theorem p_op {f : PV → PV → Option PV} (hf : OpW K r f) (ha : EP K Z ρ ta ma) (hb : EP K Z ρ tb mb) : EP K Z ρ (tOp r ta tb) (op2 f ma mb) := fun W0 W σ e Q Ψ Ξ hm k kx =>
  ha W0 W σ e _ _ _ hm (fun a x W1 g1 px h2 => hb W0 W1 σ (e.go g1) _ _ _ h2 (fun b y W2 g2 py ⟨c, ec, hc⟩ => hf a b c ec W2.r W2.h x y g2.ok.sub (MP.mono _ g2.le.r px) py _ fun v pv => k c v W2 (g1.trans g2) pv hc) (kx.go g1)) kx
def UnW (K : PySem.W.Frag) (r : V → Hp → VK → Prop) (f : PV → Option PV) : Prop := ∀ a c, f a = some c → ∀ (R H : Hp) x, Ex R H → (mp K a).p R x → ∀ C : VK, (∀ v, (mp K c).p R v → C v H) → r x H C
theorem p_un {r : V → Hp → VK → Prop} {f : PV → Option PV} (hf : UnW K r f) (ha : EP K Z ρ ta ma) : EP K Z ρ (tUn r ta) (op1 f ma) := fun W0 W σ e Q Ψ Ξ hm k kx =>
  ha W0 W σ e _ _ _ hm (fun a x W1 g1 px ⟨c, ec, hc⟩ => hf a c ec W1.r W1.h x g1.ok.sub px _ fun v pv => k c v W1 g1 pv hc) kx
/-! tests -/
def isB : PV → Option Bool
  | .bl b => some b
  | _ => none
theorem isB_p {a : PV} {b : Bool} {H : Hp} {v : V} (h : isB a = some b) (p : (mp K a).p H v) : v = .bl b := by
  cases a <;> try cases h
  exact p
def tst (m : W PV) : W Bool := bind m fun a => lift (isB a)
def andT (m1 m2 : W Bool) : W Bool := bind m1 fun b => if b = true then m2 else ret false
def orT (m1 m2 : W Bool) : W Bool := bind m1 fun b => if b = true then ret true else m2
def notT (m1 : W Bool) : W Bool := bind m1 fun b => ret !b
def andV (ma mb : W PV) : W PV := bind ma fun a => bind (lift (isB a)) fun b => if b = true then mb else ret (.bl false)
def orV (ma mb : W PV) : W PV := bind ma fun a => bind (lift (isB a)) fun b => if b = true then ret (.bl true) else mb
def notV (ma : W PV) : W PV := bind ma fun a => bind (lift (isB a)) fun b => ret (.bl !b)
def ifE {α : Type} (mt : W Bool) (ma mb : W α) : W α := bind mt fun b => if b = true then ma else mb
def chain (f1 f2 : PV → PV → Option PV) (ma mb mc : W PV) : W PV := bind ma fun a => bind mb fun b => bind (lift (f1 a b)) fun u => bind (lift (isB u)) fun t => if t = true then bind mc fun c => lift (f2 b c) else ret (.bl false)
def chain3 (f1 f2 f3 : PV → PV → Option PV) (ma mb mc md : W PV) : W PV := bind ma fun a => bind mb fun b => bind (lift (f1 a b)) fun u => bind (lift (isB u)) fun t => if t = true then bind mc fun c => bind (lift (f2 b c)) fun u2 => bind (lift (isB u2)) fun t2 => if t2 = true then bind md fun d => lift (f3 c d) else ret (.bl false) else ret (.bl false)
theorem t_tst (h : EP K Z ρ te m) : TP K Z ρ (tTest te) (tst m) := fun W0 W σ e Q Ψ Ξ hm k kx => h W0 W σ e _ _ _ hm (fun a v W1 g p ⟨b, eb, hb⟩ => ⟨b, isB_p eb p, k b W1 g hb⟩) kx
theorem t_tB (h : EP K Z ρ te m) : TP K Z ρ (tB te) (tst m) := t_tst h
variable {m1 m2 : W Bool}
theorem t_andT (h1 : TP K Z ρ t1 m1) (h2 : TP K Z ρ t2 m2) : TP K Z ρ (tAnd t1 t2) (andT m1 m2) := fun W0 W σ e Q Ψ Ξ hm k kx => h1 W0 W σ e _ _ _ hm (fun b W1 g q => by
  cases b with
  | true => exact h2 W0 W1 σ (e.go g) _ _ _ q (fun c W2 g2 z => k c W2 (g.trans g2) z) (kx.go g)
  | false => exact k false W1 g q) kx
theorem t_orT (h1 : TP K Z ρ t1 m1) (h2 : TP K Z ρ t2 m2) : TP K Z ρ (tOr t1 t2) (orT m1 m2) := fun W0 W σ e Q Ψ Ξ hm k kx => h1 W0 W σ e _ _ _ hm (fun b W1 g q => by
  cases b with
  | true => exact k true W1 g q
  | false => exact h2 W0 W1 σ (e.go g) _ _ _ q (fun c W2 g2 z => k c W2 (g.trans g2) z) (kx.go g)) kx
theorem t_notT (h1 : TP K Z ρ t1 m1) : TP K Z ρ (tNot t1) (notT m1) := fun W0 W σ e Q Ψ Ξ hm k kx => h1 W0 W σ e _ _ _ hm (fun b W1 g q => k (!b) W1 g q) kx
theorem t_yes : TP K Z ρ tYes (ret true) := fun W0 W σ e Q Ψ Ξ hm k kx => k true W e.id hm
theorem p_and (ha : EP K Z ρ ta ma) (hb : EP K Z ρ tb mb) : EP K Z ρ (tAndV ta tb) (andV ma mb) := fun W0 W σ e Q Ψ Ξ hm k kx => ha W0 W σ e _ _ _ hm (fun a v W1 g p q => by
  obtain ⟨b, eb, q⟩ := q
  refine ⟨b, isB_p eb p, ?_⟩
  cases b with
  | true => exact hb W0 W1 σ (e.go g) _ _ _ q (fun c v W2 g2 z => k c v W2 (g.trans g2) z) (kx.go g)
  | false => exact k (.bl false) _ W1 g rfl q) kx
theorem p_or (ha : EP K Z ρ ta ma) (hb : EP K Z ρ tb mb) : EP K Z ρ (tOrV ta tb) (orV ma mb) := fun W0 W σ e Q Ψ Ξ hm k kx => ha W0 W σ e _ _ _ hm (fun a v W1 g p q => by
  obtain ⟨b, eb, q⟩ := q
  refine ⟨b, isB_p eb p, ?_⟩
  cases b with
  | false => exact hb W0 W1 σ (e.go g) _ _ _ q (fun c v W2 g2 z => k c v W2 (g.trans g2) z) (kx.go g)
  | true => exact k (.bl true) _ W1 g rfl q) kx
theorem p_not (ha : EP K Z ρ ta ma) : EP K Z ρ (tNotV ta) (notV ma) := fun W0 W σ e Q Ψ Ξ hm k kx => ha W0 W σ e _ _ _ hm (fun a v W1 g p q => by
  obtain ⟨b, eb, q⟩ := q
  exact ⟨b, isB_p eb p, k (.bl !b) _ W1 g rfl q⟩) kx
theorem p_if (h : TP K Z ρ tt m1) (ha : EP K Z ρ ta ma) (hb : EP K Z ρ tb mb) : EP K Z ρ (tIf tt ta tb) (ifE m1 ma mb) := fun W0 W σ e Q Ψ Ξ hm k kx => h W0 W σ e _ _ _ hm (fun b W1 g q => by
  cases b with
  | true => exact ha W0 W1 σ (e.go g) _ _ _ q (fun c v W2 g2 z => k c v W2 (g.trans g2) z) (kx.go g)
  | false => exact hb W0 W1 σ (e.go g) _ _ _ q (fun c v W2 g2 z => k c v W2 (g.trans g2) z) (kx.go g)) kx
theorem o_if {ma mb : W (List PV)} (h : TP K Z ρ tt m1) (ha : EO K Z ρ ta ma) (hb : EO K Z ρ tb mb) : EO K Z ρ (tIf tt ta tb) (ifE m1 ma mb) := fun W0 W σ e Q Ψ Ξ hm k kx => h W0 W σ e _ _ _ hm (fun b W1 g q => by
  cases b with
  | true => exact ha W0 W1 σ (e.go g) _ _ _ q (fun c v W2 g2 r z => k c v W2 (g.trans g2) (r.back g.ok g) z) (kx.go g)
  | false => exact hb W0 W1 σ (e.go g) _ _ _ q (fun c v W2 g2 r z => k c v W2 (g.trans g2) (r.back g.ok g) z) (kx.go g)) kx
theorem p_chain {f1 f2 : PV → PV → Option PV} (hf1 : OpW K r1 f1) (hf2 : OpW K r2 f2) (ha : EP K Z ρ ta ma) (hb : EP K Z ρ tb mb) (hc : EP K Z ρ tc mc) : EP K Z ρ (tChain r1 r2 ta tb tc) (chain f1 f2 ma mb mc) := fun W0 W σ e Q Ψ Ξ hm k kx =>
  ha W0 W σ e _ _ _ hm (fun a x W1 g1 px h2 => hb W0 W1 σ (e.go g1) _ _ _ h2 (fun b y W2 g2 py ⟨u, eu, t, et, h3⟩ => hf1 a b u eu W2.r W2.h x y g2.ok.sub (MP.mono _ g2.le.r px) py _ fun v pv => by
    refine ⟨t, isB_p et pv, ?_⟩
    have e2 := (e.go g1).go g2
    cases t with
    | true => exact hc W0 W2 σ e2 _ _ _ h3 (fun c z W3 g3 pz ⟨q, eq, hq⟩ => hf2 b c q eq W3.r W3.h y z g3.ok.sub (MP.mono _ g3.le.r py) pz _ fun v pv => k q v W3 ((g1.trans g2).trans g3) pv hq) (kx.go (g1.trans g2))
    | false => exact k (.bl false) _ W2 (g1.trans g2) rfl h3) (kx.go g1)) kx
theorem p_chain3 {r3 : R2} {td : TE} {md : W PV} {f1 f2 f3 : PV → PV → Option PV} (hf1 : OpW K r1 f1) (hf2 : OpW K r2 f2) (hf3 : OpW K r3 f3) (ha : EP K Z ρ ta ma) (hb : EP K Z ρ tb mb) (hc : EP K Z ρ tc mc) (hd : EP K Z ρ td md) : EP K Z ρ (tChain3 r1 r2 r3 ta tb tc td) (chain3 f1 f2 f3 ma mb mc md) := fun W0 W σ e Q Ψ Ξ hm k kx =>
  ha W0 W σ e _ _ _ hm (fun a x W1 g1 px h2 => hb W0 W1 σ (e.go g1) _ _ _ h2 (fun b y W2 g2 py ⟨u, eu, t, et, h3⟩ => hf1 a b u eu W2.r W2.h x y g2.ok.sub (MP.mono _ g2.le.r px) py _ fun v pv => by
    refine ⟨t, isB_p et pv, ?_⟩
    have e2 := (e.go g1).go g2
    cases t with
    | true => exact hc W0 W2 σ e2 _ _ _ h3 (fun c z W3 g3 pz ⟨q, eq, t2, et2, hq⟩ => hf2 b c q eq W3.r W3.h y z g3.ok.sub (MP.mono _ g3.le.r py) pz _ fun v pv => by
        refine ⟨t2, isB_p et2 pv, ?_⟩
        cases t2 with
        | true => exact hd W0 W3 σ (e2.go g3) _ _ _ hq (fun d u W4 g4 pu ⟨q, eq, hq⟩ => hf3 c d q eq W4.r W4.h z u g4.ok.sub (MP.mono _ g4.le.r pz) pu _ fun v pv => k q v W4 (((g1.trans g2).trans g3).trans g4) pv hq) (kx.go ((g1.trans g2).trans g3))
        | false => exact k (.bl false) _ W3 ((g1.trans g2).trans g3) rfl hq) (kx.go (g1.trans g2))
    | false => exact k (.bl false) _ W2 (g1.trans g2) rfl h3) (kx.go g1)) kx
/-! arguments -/
def vcons (ma : W PV) (ms : W (List PV)) : W (List PV) := bind ma fun a => bind ms fun as => ret (a :: as)
def vnil : W (List PV) := ret []
theorem v_nil : VP K Z ρ tNil vnil := fun W0 W σ e Q Ψ Ξ hm k kx => k [] [] W e.id .nil hm
theorem v_cons (h : EP K Z ρ ta ma) (t : VP K Z ρ tr ms) : VP K Z ρ (tCons ta tr) (vcons ma ms) := fun W0 W σ e Q Ψ Ξ hm k kx =>
  h W0 W σ e _ _ _ hm (fun a v W1 g1 p h2 => t W0 W1 σ (e.go g1) _ _ _ h2 (fun as vs W2 g2 ps h3 => k (a :: as) _ W2 (g1.trans g2) (.cons (MP.mono _ g2.le.r p) ps) h3) (kx.go g1)) kx
/-! built-in calls -/
def CbW (K : PySem.W.Frag) (r : List V → Hp → VK → Prop) (f : List PV → Option PV) : Prop := ∀ as c, f as = some c → CbV r (mps K as) (mp K c)
def cb (f : List PV → Option PV) (ms : W (List PV)) : W PV := bind ms fun as => lift (f as)
theorem p_cb {r : List V → Hp → VK → Prop} {f : List PV → Option PV} (hf : CbW K r f) (ha : VP K Z ρ tA ms) : EP K Z ρ (tCB r tA) (cb f ms) := fun W0 W σ e Q Ψ Ξ hm k kx =>
  ha W0 W σ e _ _ _ hm (fun as vs W1 g1 p ⟨c, ec, hc⟩ => hf as c ec W1.r W1.h vs g1.ok.sub p _ fun v pv => k c v W1 g1 pv hc) kx
def CbM (K : PySem.W.Frag) (r : List V → Hp → VK → Prop) (f : List PV → Option (List PV)) : Prop := ∀ as cs, f as = some cs → CbL r (mps K as) (mps K cs)
def cbO (f : List PV → Option (List PV)) (ms : W (List PV)) : W (List PV) := bind ms fun as => lift (f as)
theorem o_new {W : Wd} {Q : VK} {Ψ : List PV → Sto → Prop} (k : ∀ as v W2, Go K W W2 → ROk K W W2 v as → Ψ as W2.s → Q v W2.h) (g : Go K W W1) {p : Addr} {vs : List V} {as : List PV} (hp : W1.h p = none) (al : Al W1.r vs (mps K as)) (z : Ψ as W1.s) : Q (.ref p) (upd W1.h p (.lst vs)) := by
  obtain ⟨W3, e1, e2, g3, r3⟩ := e_new g.ok hp al
  rw [← e1]
  exact k as _ W3 (g.trans g3) (r3.back g.ok g) (by rw [e2]; exact z)
theorem o_cb {r : List V → Hp → VK → Prop} {f : List PV → Option (List PV)} (hf : CbM K r f) (ha : VP K Z ρ tA ms) : EO K Z ρ (tCB r tA) (cbO f ms) := fun W0 W σ e Q Ψ Ξ hm k kx =>
  ha W0 W σ e _ _ _ hm (fun as vs W1 g1 p ⟨cs, ec, hc⟩ => hf as cs ec W1.r W1.h vs g1.ok.sub p _ fun q ws hq al => o_new k g1 hq al hc) kx
def lstO (ms : W (List PV)) : W (List PV) := bind ms fun as => lift (if as.length ≤ 100000 then some as else none)
def tupW (ms : W (List PV)) : W PV := bind ms fun as => lift (if as.length ≤ 100000 then some (.tup as) else none)
def setl (ms : W (List PV)) : W PV := bind ms fun as => ret (.lst as)
theorem o_lst (ha : VP K Z ρ tA ms) : EO K Z ρ (tLst tA) (lstO ms) := fun W0 W σ e Q Ψ Ξ hm k kx =>
  ha W0 W σ e _ _ _ hm (fun as vs W1 g1 al ⟨cs, ec, hc⟩ => by
    split at ec
    · rename_i hl
      cases ec
      exact ⟨sz_of (by rw [al.length, mps_len]; exact hl), fun p hp => o_new k g1 hp al hc⟩
    · cases ec) kx
/-- what is made is settled at once -/
theorem p_set (h : EO K Z ρ te ms) : EP K Z ρ te (setl ms) := fun W0 W σ e Q Ψ Ξ hm k kx =>
  h W0 W σ e _ _ _ hm (fun as v W1 g1 r h2 => by
    obtain ⟨W3, e1, e2, _, g3, p3⟩ := settle g1 r
    rw [← e1]
    exact k (.lst as) v W3 g3 p3 (by rw [e2]; exact h2)) kx
/-- what is made becomes a place that may change -/
def cellW (ms : W (List PV)) : W PV := fun S Ψ Ξ => ms S (fun as S2 => ∀ p, S2 p = none → Ψ (.ptr p) (put S2 p (.lst as))) Ξ
theorem p_cell (h : EO K Z ρ te ms) : EP K Z ρ te (cellW ms) := fun W0 W σ e Q Ψ Ξ hm k kx =>
  h W0 W σ e _ _ _ hm (fun as v W1 g1 r h2 => by
    obtain ⟨p, W3, rfl, sp, e1, e3, e2, g3⟩ := celled g1 r
    rw [← e1]
    exact k (.ptr p) _ W3 g3 rfl (by rw [e2]; exact h2 p sp)) kx
theorem p_tup (ha : VP K Z ρ tA ms) : EP K Z ρ (tTup tA) (tupW ms) := fun W0 W σ e Q Ψ Ξ hm k kx =>
  ha W0 W σ e _ _ _ hm (fun as vs W1 g1 al ⟨c, ec, hc⟩ => by
    split at ec
    · rename_i hl
      cases ec
      refine ⟨sz_of (by rw [al.length, mps_len]; exact hl), fun p hp => ?_⟩
      have g2 := new_set (u := .tup vs) g1.ok hp
      exact k (.tup as) _ _ (g1.trans g2) ⟨p, vs, rfl, SqT.of upd_same, al.mono g2.le.r⟩ hc
    · cases ec) kx
end
end SL

namespace SL
open PySem PySem.Spec PyProof.Rows L2 Evl NF WL
/-! ### answers and ways on -/
inductive RV where
  | v (a : PV)
  | o (as : List PV)
def RV.pv : RV → PV
  | .v a => a
  | .o as => .lst as
def RRk (K : PySem.W.Frag) (W W2 : Wd) (v : V) : RV → Prop
  | .v a => (mp K a).p W2.r v
  | .o as => ROk K W W2 v as
inductive Fl (S : Type) where
  | nx (s : S)
  | rt (r : RV)
def bindF {S T : Type} (m : W (Fl S)) (k : S → W (Fl T)) : W (Fl T) := bind m fun f => match f with
  | .nx s => k s
  | .rt r => ret (.rt r)
def runF (m : W (Fl Unit)) : W RV := bind m fun f => match f with
  | .nx _ => ret (.v .non)
  | .rt r => ret r
structure MeetsP (K : PySem.W.Frag) (Z : WX) (W0 : Wd) (D : Ends) {S : Type} (pat : S → List Sl) (Φ : Fl S → Sto → Prop) (Ξ : XV → Sto → Prop) : Prop where
  nx : ∀ W σ s, En K W0 W σ (pat s) → Φ (.nx s) W.s → D.nx σ W.h
  rt : ∀ r v W, Go K W0 W → RRk K W0 W v r → Φ (.rt r) W.s → D.rt v W.h
  xc : ∀ x cls d σ W, Go K W0 W → XOk K W.r cls d x → Ξ x W.s → Z cls d σ W.h
def GP (K : PySem.W.Frag) (Z : WX) (ρ : List Sl) (ts : TS) {S : Type} (pat : S → List Sl) (m : W (Fl S)) : Prop := ∀ W0 W σ D, En K W0 W σ ρ → ∀ Φ Ξ, m W.s Φ Ξ → MeetsP K Z W0 D pat Φ Ξ → ts D σ W.h
section
variable {K : PySem.W.Frag} {Z : WX} {W0 W1 W2 W3 : Wd} {σ : L2.St} {ρ ρ2 : List Sl} {i j : Nat} {ta tb tc te : TE} {tt : TT} {tA : TA} {ma mb mc me : W PV} {mt : W Bool} {ms : W (List PV)} {t tu tw : TS} {S S1 S2 : Type} {pat : S → List Sl} {pat1 : S1 → List Sl} {pat2 : S2 → List Sl} {m : W (Fl S)}
theorem En.gone (e : En K W0 W1 σ ρ) : Go K W0 W1 := ⟨e.ok, e.le⟩
theorem MeetsP.x {W : Wd} {D : Ends} {Φ : Fl S → Sto → Prop} {Ξ : XV → Sto → Prop} (q : MeetsP K Z W0 D pat Φ Ξ) (e : En K W0 W σ ρ) : KX K Z σ W Ξ := fun x cls d W2 g h z => q.xc x cls d σ W2 (e.go g).gone h z
theorem gp_seq {k : S → W (Fl S2)} (h : GP K Z ρ t pat m) (h2 : ∀ s, GP K Z (pat s) tu pat2 (k s)) : GP K Z ρ (tSeq t tu) pat2 (bindF m k) := fun W0 W σ D e Φ Ξ hm q =>
  h W0 W σ _ e _ _ hm ⟨fun W2 σ2 s e2 z => h2 s W0 W2 σ2 D e2 _ _ z q, fun r v W2 a b z => q.rt r v W2 a b z, q.xc⟩
theorem gp_next {s : S} (h : pat s = ρ) : GP K Z ρ tNext pat (ret (.nx s)) := fun W0 W σ D e Φ Ξ hm q => q.nx W σ s (h ▸ e) hm
theorem gp_asg {k : PV → W (Fl S)} (he : EP K Z ρ te me) (h : ∀ a, GP K Z (ρ.set i (.val a)) t pat (k a)) (hi : Nat.blt i ρ.length = true := by rfl) : GP K Z ρ (tSeq (tAsg te (gName i)) t) pat (bind me k) := fun W0 W σ D e Φ Ξ hm q =>
  he W0 W σ e _ _ _ hm (fun a v W2 g p z => h a W0 W2 _ D ((e.go g).setV p (Nat.le_of_ble_eq_true hi)) _ _ z q) (q.x e)
theorem gp_asg1 (he : EP K Z ρ te me) {f : PV → S} (h : ∀ a, pat (f a) = ρ.set i (.val a)) (hi : Nat.blt i ρ.length = true := by rfl) : GP K Z ρ (tAsg te (gName i)) pat (bind me fun a => ret (.nx (f a))) := fun W0 W σ D e Φ Ξ hm q =>
  he W0 W σ e _ _ _ hm (fun a v W2 g p z => q.nx W2 _ (f a) (h a ▸ (e.go g).setV p (Nat.le_of_ble_eq_true hi)) z) (q.x e)
theorem gp_own {k : List PV → W (Fl S)} {me : W (List PV)} (he : EO K Z ρ te me) (h : ∀ as, GP K Z (ρ.set i (.own as)) t pat (k as)) (hi : Nat.blt i ρ.length = true := by rfl) : GP K Z ρ (tSeq (tAsg te (gName i)) t) pat (bind me k) := fun W0 W σ D e Φ Ξ hm q =>
  he W0 W σ e _ _ _ hm (fun as v W2 g r z => h as W0 W2 _ D (e.setO g r (Nat.le_of_ble_eq_true hi)) _ _ z q) (q.x e)
theorem gp_own1 {f : List PV → S} {me : W (List PV)} (he : EO K Z ρ te me) (h : ∀ as, pat (f as) = ρ.set i (.own as)) (hi : Nat.blt i ρ.length = true := by rfl) : GP K Z ρ (tAsg te (gName i)) pat (bind me fun as => ret (.nx (f as))) := fun W0 W σ D e Φ Ξ hm q =>
  he W0 W σ e _ _ _ hm (fun as v W2 g r z => q.nx W2 _ (f as) (h as ▸ e.setO g r (Nat.le_of_ble_eq_true hi)) z) (q.x e)
/-- what has changed is settled -/
theorem gp_set {as : List PV} (hs : ρ[i]? = some (.own as)) (h : GP K Z (ρ.set i (.val (.lst as))) t pat m) : GP K Z ρ t pat m := fun W0 W σ D e Φ Ξ hm q => by
  obtain ⟨W', e1, e2, _, e3⟩ := e.calm hs
  rw [← e1]
  exact h W0 W' σ D e3 Φ Ξ (by rw [e2]; exact hm) q
def lessS : List Sl → List Sl → Prop
  | [], [] => True
  | a :: as, b :: bs => (b = .un ∨ a = b) ∧ lessS as bs
  | _, _ => False
theorem lessS_len : ∀ {as bs : List Sl}, lessS as bs → bs.length = as.length
  | [], [], _ => rfl
  | _ :: _, _ :: _, h => congrArg Nat.succ (lessS_len h.2)
  | [], _ :: _, h => h.elim
  | _ :: _, [], h => h.elim
theorem lessS_get : ∀ {as bs : List Sl} {i : Nat} {s : Sl}, lessS as bs → bs[i]? = some s → s = .un ∨ as[i]? = some s
  | [], [], _, _, _, e => by simp at e
  | a :: as, b :: bs, 0, s, h, e => by
    have e' := Option.some.inj e
    subst e'
    rcases h.1 with h | h
    · exact .inl h
    · exact .inr (by rw [h]; rfl)
  | a :: as, b :: bs, i + 1, s, h, e => lessS_get (i := i) h.2 (by simpa using e)
  | [], _ :: _, _, _, h, _ => h.elim
  | _ :: _, [], _, _, h, _ => h.elim
theorem En.lessS (e : En K W0 W1 σ ρ) (hl : lessS ρ ρ2) : En K W0 W1 σ ρ2 := e.less (lessS_len hl) fun i s hs => lessS_get hl hs
theorem gp_less (hl : lessS ρ ρ2) (h : GP K Z ρ2 t pat m) : GP K Z ρ t pat m := fun W0 W σ D e Φ Ξ hm q => h W0 W σ D (e.lessS hl) Φ Ξ hm q
theorem g_last {m : W (Fl S1)} (f : S1 → S) (hl : ∀ s, SL.lessS (pat1 s) (pat (f s))) (h : GP K Z ρ t pat1 m) : GP K Z ρ t pat (bindF m fun s => ret (.nx (f s))) := fun W0 W σ D e Φ Ξ hm q =>
  h W0 W σ D e _ _ hm ⟨fun W σ s e z => q.nx W σ (f s) (e.lessS (hl s)) z, fun r v W a b z => q.rt r v W a b z, q.xc⟩
theorem gp_drop {k : W (Fl S)} (he : EP K Z ρ te me) (h : GP K Z ρ t pat k) : GP K Z ρ (tSeq (tDrop te) t) pat (bind me fun _ => k) := fun W0 W σ D e Φ Ξ hm q =>
  he W0 W σ e _ _ _ hm (fun a v W2 g p z => h W0 W2 σ D (e.go g) _ _ z q) (q.x e)
theorem gp_drop1 {s : S} (he : EP K Z ρ te me) (h : pat s = ρ) : GP K Z ρ (tDrop te) pat (bind me fun _ => ret (.nx s)) := fun W0 W σ D e Φ Ξ hm q =>
  he W0 W σ e _ _ _ hm (fun a v W2 g p z => q.nx W2 σ s (h ▸ e.go g) z) (q.x e)
theorem gp_ret (he : EP K Z ρ te me) : GP K Z ρ (tRet te) pat (bind me fun a => ret (.rt (.v a))) := fun W0 W σ D e Φ Ξ hm q =>
  he W0 W σ e _ _ _ hm (fun a v W2 g p z => q.rt (.v a) v W2 (e.go g).gone p z) (q.x e)
theorem gp_retO {me : W (List PV)} (he : EO K Z ρ te me) : GP K Z ρ (tRet te) pat (bind me fun as => ret (.rt (.o as))) := fun W0 W σ D e Φ Ξ hm q =>
  he W0 W σ e _ _ _ hm (fun as v W2 g r z => q.rt (.o as) v W2 (e.go g).gone (ROk.base e r) z) (q.x e)
theorem gp_retV {as : List PV} (h : ρ[i]? = some (.own as)) : GP K Z ρ (tRet (tVar i)) pat (ret (.rt (.o as))) := fun W0 W σ D e Φ Ξ hm q => by
  obtain ⟨u, h1, p, rfl, h2, h3⟩ := e.sl i _ h
  exact ⟨_, h1, q.rt (.o as) _ W e.gone ⟨p, rfl, h2, h3⟩ hm⟩
theorem gp_retN : GP K Z ρ tRetN pat (ret (.rt (.v .non))) := fun W0 W σ D e Φ Ξ hm q => q.rt (.v .non) .non W e.gone rfl hm
theorem gp_if {m1 m2 : W (Fl S)} (ht : TP K Z ρ tt mt) (h1 : GP K Z ρ tu pat m1) (h2 : GP K Z ρ tw pat m2) : GP K Z ρ (tIfS tt tu tw) pat (bind mt fun b => if b = true then m1 else m2) := fun W0 W σ D e Φ Ξ hm q =>
  ht W0 W σ e _ _ _ hm (fun b W2 g z => by
    cases b with
    | true => exact h1 W0 W2 σ D (e.go g) _ _ z q
    | false => exact h2 W0 W2 σ D (e.go g) _ _ z q) (q.x e)
/-- if t: (what never goes on), what follows -/
theorem gp_when {m1 : W (Fl Empty)} {m2 : W (Fl S)} {pe : Empty → List Sl} (ht : TP K Z ρ tt mt) (h1 : GP K Z ρ tu pe m1) (h2 : GP K Z ρ t pat m2) : GP K Z ρ (tSeq (tIfS tt tu tNext) t) pat (bind mt fun b => if b = true then bindF m1 (fun s => s.elim) else m2) := fun W0 W σ D e Φ Ξ hm q =>
  ht W0 W σ e _ _ _ hm (fun b W2 g z => by
    cases b with
    | true => exact h1 W0 W2 σ _ (e.go g) _ _ z ⟨fun _ _ s => s.elim, fun r v W2 a b z => q.rt r v W2 a b z, q.xc⟩
    | false => exact h2 W0 W2 σ D (e.go g) _ _ z q) (q.x e)
/-- what never comes -/
theorem gp_no : GP K Z ρ (fun _ _ _ => False) pat fail := fun W0 W σ D e Φ Ξ hm q => hm.elim
def two : List PV → Option (PV × PV)
  | [a, b] => some (a, b)
  | _ => none
theorem g_par2 {k : PV → PV → W (Fl S)} (he : VP K Z ρ tA ms) (h : ∀ a b, GP K Z ((ρ.set i (.val a)).set j (.val b)) t pat (k a b)) (hi : Nat.blt i ρ.length = true := by rfl) (hj : Nat.blt j ρ.length = true := by rfl) : GP K Z ρ (tSeq (tPar i j tA) t) pat (bind ms fun as => bind (lift (two as)) fun x => k x.1 x.2) := fun W0 W σ D e Φ Ξ hm q =>
  he W0 W σ e _ _ _ hm (fun as vs W2 g al ⟨x, eb, z⟩ => by
    match as, eb with
    | [a, b], eb =>
      cases eb
      obtain ⟨v, w, rfl, p1, p2⟩ := Al.inv2 al
      have e1 := (e.go g).setV (i := i) p1 (Nat.le_of_ble_eq_true hi)
      exact ⟨v, w, rfl, h a b W0 W2 _ D (e1.setV (i := j) p2 (by rw [List.length_set]; exact Nat.le_of_ble_eq_true hj)) _ _ z q⟩) (q.x e)
theorem g_par2L {pat : PV × PV → List Sl} (he : VP K Z ρ tA ms) (h : ∀ x, pat x = (ρ.set i (.val x.1)).set j (.val x.2)) (hi : Nat.blt i ρ.length = true := by rfl) (hj : Nat.blt j ρ.length = true := by rfl) : GP K Z ρ (tPar i j tA) pat (bind ms fun as => bind (lift (two as)) fun x => ret (.nx x)) := fun W0 W σ D e Φ Ξ hm q =>
  he W0 W σ e _ _ _ hm (fun as vs W2 g al ⟨x, eb, z⟩ => by
    match as, eb with
    | [a, b], eb =>
      cases eb
      obtain ⟨v, w, rfl, p1, p2⟩ := Al.inv2 al
      have e1 := (e.go g).setV (i := i) p1 (Nat.le_of_ble_eq_true hi)
      exact ⟨v, w, rfl, q.nx W2 _ (a, b) (h (a, b) ▸ e1.setV (i := j) p2 (by rw [List.length_set]; exact Nat.le_of_ble_eq_true hj)) z⟩) (q.x e)
def augF (f : Int → Int → Int) : PV → PV → Option PV
  | .int a, .int b => some (.int (f a b))
  | _, _ => none
theorem g_aug {f : Int → Int → Int} {a : PV} {k : PV → W (Fl S)} (h : ρ[i]? = some (.val a)) (he : EP K Z ρ te me) (hk : ∀ c, GP K Z (ρ.set i (.val c)) t pat (k c)) (hi : Nat.blt i ρ.length = true := by rfl) : GP K Z ρ (tSeq (tAug i te (ipI f)) t) pat (bind me fun b => bind (lift (augF f a b)) k) := fun W0 W σ D e Φ Ξ hm q => by
  obtain ⟨u, h1, v, rfl, h2⟩ := e.sl i _ h
  refine ⟨v, h1, he W0 W σ e _ _ _ hm (fun b y W2 g p z => ?_) (q.x e)⟩
  obtain ⟨c, ec, z⟩ := z
  match a, b, ec with
  | .int m, .int n, ec =>
    cases ec
    cases h2
    cases p
    exact ⟨m, n, rfl, rfl, hk (.int (f m n)) W0 W2 _ D ((e.go g).setV (a := .int (f m n)) rfl (Nat.le_of_ble_eq_true hi)) _ _ z q⟩
theorem g_augL {f : Int → Int → Int} {a : PV} {pat : PV → List Sl} (h : ρ[i]? = some (.val a)) (he : EP K Z ρ te me) (hk : ∀ c, pat c = ρ.set i (.val c)) (hi : Nat.blt i ρ.length = true := by rfl) : GP K Z ρ (tAug i te (ipI f)) pat (bind me fun b => bind (lift (augF f a b)) fun c => ret (.nx c)) := fun W0 W σ D e Φ Ξ hm q => by
  obtain ⟨u, h1, v, rfl, h2⟩ := e.sl i _ h
  refine ⟨v, h1, he W0 W σ e _ _ _ hm (fun b y W2 g p z => ?_) (q.x e)⟩
  obtain ⟨c, ec, z⟩ := z
  match a, b, ec with
  | .int m, .int n, ec =>
    cases ec
    cases h2
    cases p
    exact ⟨m, n, rfl, rfl, q.nx W2 _ (.int (f m n)) (hk _ ▸ (e.go g).setV (a := .int (f m n)) rfl (Nat.le_of_ble_eq_true hi)) z⟩
/-- x.append(e) of an own list -/
theorem app_core {as : List PV} {Q : VK} {Ψ : List PV → Sto → Prop} {Ξ : XV → Sto → Prop} {W : Wd} (e : En K W0 W σ ρ) (h : ρ[i]? = some (.own as)) (he : EP K Z ρ te me) (hm : (bind me fun a => lift (if as.length < 100000 then some (as ++ [a]) else none)) W.s Ψ Ξ)
    (k : ∀ bs W2, En K W0 W2 σ (ρ.set i (.own bs)) → Ψ bs W2.s → Q .non W2.h) (kx : KX K Z σ W Ξ) : tBM K "list" rAppend (tVar i) (tCons te tNil) σ W.h Q := by
  obtain ⟨u, h1, p, rfl, h2, vs, h3, h4, h5, h6⟩ := e.sl i _ h
  refine ⟨_, h1, .inl ⟨rfl, _, SqL.of h3⟩, ?_⟩
  refine he W0 W σ e _ _ _ hm (fun a v W3 g3 p3 ⟨bs, eb, z⟩ => ?_) kx
  split at eb
  · rename_i hl
    cases eb
    have e3 := e.go g3
    obtain ⟨_, us, k3, k4, k5, k6⟩ := e3.own_some h h1
    refine ⟨p, us, v, rfl, rfl, k3, sz_lt (by rw [k6.length, mps_len]; exact hl), ?_⟩
    exact k (as ++ [a]) ⟨W3.r, upd W3.h p (.lst (us ++ [v])), W3.s⟩ (e3.put h h1 (by rw [mps_app]; exact k6.app (Al.one p3))) z
  · cases eb
theorem gp_app {k : List PV → W (Fl S)} {as : List PV} (h : ρ[i]? = some (.own as)) (he : EP K Z ρ te me) (hk : ∀ bs, GP K Z (ρ.set i (.own bs)) t pat (k bs)) : GP K Z ρ (tSeq (tDrop (tBM K "list" rAppend (tVar i) (tCons te tNil))) t) pat (bind me fun a => bind (lift (if as.length < 100000 then some (as ++ [a]) else none)) k) := fun W0 W σ D e Φ Ξ hm q =>
  app_core e h he (Ψ := fun bs S => k bs S Φ Ξ) hm (fun bs W2 e2 z => hk bs W0 W2 σ D e2 _ _ z q) (q.x e)
theorem gp_app1 {f : List PV → S} {as : List PV} (h : ρ[i]? = some (.own as)) (he : EP K Z ρ te me) (hk : ∀ bs, pat (f bs) = ρ.set i (.own bs)) : GP K Z ρ (tDrop (tBM K "list" rAppend (tVar i) (tCons te tNil))) pat (bind me fun a => bind (lift (if as.length < 100000 then some (as ++ [a]) else none)) fun bs => ret (.nx (f bs))) := fun W0 W σ D e Φ Ξ hm q =>
  app_core e h he (Ψ := fun bs S => Φ (.nx (f bs)) S) hm (fun bs W2 e2 z => q.nx W2 σ (f bs) (hk bs ▸ e2) z) (q.x e)
end
end SL

namespace SL
open PySem PySem.Spec PyProof.Rows L2 Evl NF WL
/-! ### targets and walks -/
abbrev Bd := List (Nat × PV)
def setV : L2.St → Bd → List V → L2.St
  | σ, (j, _) :: L, v :: vs => setV (σ.set j (some v)) L vs
  | σ, _, _ => σ
def setS : List Sl → Bd → List Sl
  | ρ, (j, a) :: L => setS (ρ.set j (.val a)) L
  | ρ, [] => ρ
def wipeS (ρ : List Sl) : List Nat → List Sl
  | [] => ρ
  | v :: vs => (wipeS ρ vs).set v .un
def fitS (L : Bd) (n : Nat) : Bool := L.all fun x => Nat.blt x.1 n
def fitC (L : Bd) (n : Nat) (vs : List Nat) : Bool := L.all fun x => Nat.blt x.1 n && vs.any fun v => Nat.beq x.1 v
theorem fitS_ok {L : Bd} {n : Nat} (h : fitS L n = true) : ∀ x ∈ L, x.1 < n := fun x hx => Nat.le_of_ble_eq_true (List.all_eq_true.mp h x hx)
theorem fitC_ok {L : Bd} {n : Nat} {vs : List Nat} (h : fitC L n vs = true) : ∀ x ∈ L, x.1 < n ∧ x.1 ∈ vs := fun x hx => by
  have h1 := List.all_eq_true.mp h x hx
  rw [Bool.and_eq_true] at h1
  obtain ⟨v, hv, e⟩ := List.any_eq_true.mp h1.2
  rw [Nat.eq_of_beq_eq_true e]
  exact ⟨by rw [← Nat.eq_of_beq_eq_true e]; exact Nat.le_of_ble_eq_true h1.1, hv⟩
theorem setS_len : ∀ (L : Bd) (ρ : List Sl), (setS ρ L).length = ρ.length
  | [], _ => rfl
  | (j, P) :: L, ρ => by rw [setS, setS_len L, List.length_set]
theorem wipeS_len : ∀ (vs : List Nat) (ρ : List Sl), (wipeS ρ vs).length = ρ.length
  | [], _ => rfl
  | v :: vs, ρ => by rw [wipeS, List.length_set, wipeS_len vs]
theorem setV_len : ∀ (L : Bd) (σ : L2.St) (vs : List V), (setV σ L vs).length = σ.length
  | [], _, _ => by simp [setV]
  | _ :: _, _, [] => by simp [setV]
  | (j, P) :: L, σ, v :: vs => by rw [setV, setV_len L, List.length_set]
theorem setV_get : ∀ {L : Bd} {σ : L2.St} {us : List V} {i : Nat}, (∀ x ∈ L, x.1 ≠ i) → (setV σ L us)[i]? = σ[i]?
  | [], _, _, _, _ => by simp [setV]
  | _ :: _, _, [], _, _ => by simp [setV]
  | (j, P) :: L, σ, v :: vs, i, h => by
    rw [setV, setV_get fun x hx => h x (List.mem_cons_of_mem _ hx), List.getElem?_set_ne (h (j, P) (List.mem_cons_self ..))]
theorem setV_app : ∀ (L1 L2' : Bd) (σ : L2.St) (us ws : List V), us.length = L1.length → setV (setV σ L1 us) L2' ws = setV σ (L1 ++ L2') (us ++ ws)
  | [], _, _, [], _, _ => rfl
  | [], _, _, _ :: _, _, h => by cases h
  | _ :: _, _, _, [], _, h => by cases h
  | (j, P) :: L1, L2', σ, u :: us, ws, h => setV_app L1 L2' (σ.set j (some u)) us ws (by simpa using h)
theorem wipeLen : ∀ (vs : List Nat) (σ : L2.St), (L2.wipe σ vs).length = σ.length
  | [], _ => rfl
  | v :: vs, σ => by
    show ((L2.wipe σ vs).set v none).length = _
    rw [List.length_set, wipeLen vs]
theorem wipe_sets {L : Bd} {vs : List Nat} {σ : L2.St} {us : List V} (h : ∀ x ∈ L, x.1 ∈ vs) : L2.wipe (setV (L2.wipe σ vs) L us) vs = L2.wipe σ vs := by
  apply List.ext_getElem?
  intro i
  rw [wipe_get, wipe_get]
  by_cases c : i ∈ vs
  · rw [if_pos c, if_pos c, setV_len, wipeLen]
  · rw [if_neg c, if_neg c, setV_get (i := i) fun x hx z => c (by rw [← z]; exact h x hx), wipe_get, if_neg c]
section
variable {K : PySem.W.Frag} {W0 W W1 W2 W3 : Wd} {σ : L2.St} {ρ : List Sl} {i : Nat}
theorem En.sets : ∀ {L : Bd} {σ : L2.St} {ρ : List Sl} {vs : List V}, En K W0 W σ ρ → (∀ x ∈ L, x.1 < ρ.length) → Al W.r vs (mps K (L.map (·.2))) → En K W0 W (SL.setV σ L vs) (setS ρ L)
  | [], _, _, _, e, _, .nil => e
  | (j, a) :: L, σ, ρ, _, e, h, .cons (v := v) (vs := vs) p t => by
    have e1 : En K W0 W (σ.set j (some v)) (ρ.set j (.val a)) := e.setV p (h (j, a) (List.mem_cons_self ..))
    exact En.sets (L := L) e1 (fun x hx => by rw [List.length_set]; exact h x (List.mem_cons_of_mem _ hx)) t
theorem En.wipe1 (e : En K W0 W σ ρ) : En K W0 W (σ.set i none) (ρ.set i .un) := by
  refine ⟨e.ok, e.le, by rw [List.length_set, List.length_set]; exact e.len, fun k s hk => ?_, fun k l as bs p n h1 h2 k1 k2 => ?_⟩
  · by_cases c : i = k
    · subst c
      have hl : i < (ρ.set i Sl.un).length := (List.getElem?_eq_some_iff.mp hk).1
      rw [List.length_set] at hl
      rw [List.getElem?_set_self hl] at hk
      cases hk
      exact ⟨none, List.getElem?_set_self (by rw [e.len]; exact hl), trivial⟩
    · rw [List.getElem?_set_ne c] at hk
      rw [List.getElem?_set_ne c]
      exact e.sl k s hk
  · have c1 : i ≠ k := fun c => by
      subst c
      have hl : i < (ρ.set i Sl.un).length := (List.getElem?_eq_some_iff.mp h1).1
      rw [List.length_set] at hl
      rw [List.getElem?_set_self hl] at h1
      cases h1
    have c2 : i ≠ l := fun c => by
      subst c
      have hl : i < (ρ.set i Sl.un).length := (List.getElem?_eq_some_iff.mp h2).1
      rw [List.length_set] at hl
      rw [List.getElem?_set_self hl] at h2
      cases h2
    rw [List.getElem?_set_ne c1] at h1 k1
    rw [List.getElem?_set_ne c2] at h2 k2
    exact e.ne k l as bs p n h1 h2 k1 k2
theorem En.wipe : ∀ (vs : List Nat), En K W0 W σ ρ → En K W0 W (L2.wipe σ vs) (wipeS ρ vs)
  | [], e => e
  | _ :: vs, e => (En.wipe vs e).wipe1
end
section
variable {K : PySem.W.Frag} {W0 W W1 W2 W3 : Wd} {σ : L2.St} {ρ : List Sl} {i : Nat}
theorem En.up (e : En K W0 W σ ρ) : En K ⟨W.r, W0.h, W0.s⟩ W σ ρ := ⟨e.ok, ⟨Ex.refl _, e.le.h, fun _ _ _ _ h _ => h, e.le.d, e.le.n⟩, e.len, e.sl, e.ne⟩
theorem Le.down (a : Le W0 W1) (b : Le ⟨W1.r, W0.h, W0.s⟩ W2) : Le W0 W2 := ⟨a.r.trans b.r, b.h, fun p o h t e n => b.w p o h t (a.w p o h t e n) n, b.d, b.n⟩
theorem Go.down (b : Go K ⟨W1.r, W0.h, W0.s⟩ W2) (a : Le W0 W1) : Go K W0 W2 := ⟨b.ok, a.down b.le⟩
theorem En.down (e : En K ⟨W1.r, W0.h, W0.s⟩ W2 σ ρ) (a : Le W0 W1) : En K W0 W2 σ ρ := ⟨e.ok, a.down e.le, e.len, fun i s hs => (e.sl i s hs).imp fun u ⟨h1, h2⟩ => ⟨h1, by
  cases s with
  | un => exact h2
  | val a => exact h2
  | own as => exact h2⟩, e.ne⟩
end
def TgP (K : PySem.W.Frag) {A : Type} (g : TG) (f : PV → Option A) (bd : A → Bd) : Prop := ∀ a x, f a = some x → ∀ (R H : Hp) v σ (Q : L2.St → Hp → Prop), Ex R H → (mp K a).p R v → (∀ vs, Al R vs (mps K ((bd x).map (·.2))) → Q (setV σ (bd x) vs) H) → g v σ H Q
def ItP (K : PySem.W.Frag) (J : It) (W : Wd) (as : List PV) : Prop :=
  (∀ (i : Nat) (W1 : Wd), Ex W.r W1.r → Ok K W1 → as.length ≤ i → J.stop i W1.h) ∧ (∀ (i : Nat) (W1 : Wd), Ex W.r W1.r → Ok K W1 → i < as.length → J.go i W1.h) ∧
  ∀ (i : Nat) (W1 : Wd) x H', Ex W.r W1.r → Ok K W1 → i < as.length → J.yld i W1.h x H' → ∃ W2 a, W2.h = H' ∧ W2.s = W1.s ∧ Go K W1 W2 ∧ as[i]? = some a ∧ (mp K a).p W2.r x
def WkP (K : PySem.W.Frag) (Z : WX) (ρ : List Sl) (wi : TI) (m : W (List PV)) : Prop := ∀ W0 W σ, En K W0 W σ ρ → ∀ (R : It → Hp → Prop) Ψ Ξ, m W.s Ψ Ξ → (∀ J W2 as, Go K W W2 → ItP K J W2 as → Ψ as W2.s → R J W2.h) → KX K Z σ W Ξ → wi σ W.h R
def asL : PV → Option (List PV)
  | .lst as => some as
  | _ => none
def rngL : List PV → Option (List PV)
  | [.int n] => if -(2 ^ 60) < n ∧ n < 2 ^ 60 then some ((List.range n.toNat).map fun i : Nat => .int (i : Int)) else none
  | _ => none
def enumF : Nat → List PV → List PV
  | _, [] => []
  | k, a :: as => .tup [.int (k : Int), a] :: enumF (k + 1) as
def enumL : List PV → Option (List PV)
  | [.lst as] => some (enumF 0 as)
  | _ => none
def zipF : List PV → List PV → List PV
  | a :: as, b :: bs => .tup [a, b] :: zipF as bs
  | _, _ => []
def zipL : List PV → Option (List PV)
  | [.lst as, .lst bs] => some (zipF as bs)
  | _ => none
theorem enumF_len : ∀ (k : Nat) (as : List PV), (enumF k as).length = as.length
  | _, [] => rfl
  | k, _ :: as => congrArg Nat.succ (enumF_len (k + 1) as)
theorem enumF_get : ∀ (k : Nat) (as : List PV) (i : Nat) (a : PV), as[i]? = some a → (enumF k as)[i]? = some (.tup [.int ((k + i : Nat) : Int), a])
  | _, [], _, _, h => by simp at h
  | k, b :: as, 0, a, h => by
    have e := Option.some.inj h
    subst e
    rfl
  | k, b :: as, i + 1, a, h => by
    have := enumF_get (k + 1) as i a (by simpa using h)
    rw [show k + 1 + i = k + (i + 1) by omega] at this
    exact this
theorem zipF_len : ∀ (as bs : List PV), (zipF as bs).length = min as.length bs.length
  | [], _ => by simp [zipF]
  | _ :: _, [] => by simp [zipF]
  | _ :: as, _ :: bs => by simp [zipF, zipF_len as bs]
theorem zipF_get : ∀ (as bs : List PV) (i : Nat) (a b : PV), as[i]? = some a → bs[i]? = some b → (zipF as bs)[i]? = some (.tup [a, b])
  | [], _, _, _, _, h, _ => by simp at h
  | _ :: _, [], _, _, _, _, h => by simp at h
  | x :: as, y :: bs, 0, a, b, h, h' => by
    have e := Option.some.inj h
    have e' := Option.some.inj h'
    subst e e'
    rfl
  | _ :: as, _ :: bs, i + 1, a, b, h, h' => zipF_get as bs i a b (by simpa using h) (by simpa using h')
section
variable {K : PySem.W.Frag} {Z : WX} {W0 W1 W2 W3 : Wd} {σ : L2.St} {ρ : List Sl} {i j k : Nat} {ta tb tc te tl : TE} {tt : TT} {tA : TA} {ma mb mc me : W PV} {ms : W (List PV)} {mt : W Bool} {t tu tw : TS} {S S2 A B : Type} {pat : S → List Sl} {m : W (Fl S)} {g : TG} {wi : TI} {f : PV → Option A} {bd : A → Bd}
theorem tg_name : TgP K (gName j) some (fun a => [(j, a)]) := fun a x e R H v σ Q _ p q => by
  cases e
  exact q [v] (Al.one p)
def tupF2 {A B : Type} (f : PV → Option A) (h : PV → Option B) : PV → Option (A × B)
  | .tup [a, b] => match f a, h b with
    | some x, some y => some (x, y)
    | _, _ => none
  | _ => none
def tupF3 {A B C : Type} (f : PV → Option A) (h : PV → Option B) (l : PV → Option C) : PV → Option (A × B × C)
  | .tup [a, b, c] => match f a, h b, l c with
    | some x, some y, some z => some (x, y, z)
    | _, _, _ => none
  | _ => none
theorem bd_app {x y : Bd} : mps K ((x ++ y).map (·.2)) = mps K (x.map (·.2)) ++ mps K (y.map (·.2)) := by rw [List.map_append, mps_app]
theorem tg_tup2 {g2 : TG} {f2 : PV → Option B} {bd2 : B → Bd} (h1 : TgP K g f bd) (h2 : TgP K g2 f2 bd2) : TgP K (gTup K 2 (gCons g (gCons g2 gNil))) (tupF2 f f2) (fun x => bd x.1 ++ bd2 x.2) := fun a x e R H v σ Q s p q => by
  match a, e with
  | .tup [a, b], e =>
    simp only [tupF2] at e
    cases c1 : f a with
    | none => rw [c1] at e; cases e
    | some x1 =>
      cases c2 : f2 b with
      | none => rw [c1, c2] at e; cases e
      | some x2 =>
        rw [c1, c2] at e
        cases e
        obtain ⟨pp, vs, rfl, hs, al⟩ := p
        obtain ⟨u, w, rfl, p1, p2⟩ := Al.inv2 al
        refine ⟨pp, _, rfl, ex_t s hs, rfl, u, [w], rfl, h1 a x1 c1 R H u σ _ s p1 fun us al1 => ⟨w, [], rfl, h2 b x2 c2 R H w _ _ s p2 fun ws al2 => ⟨rfl, ?_⟩⟩⟩
        rw [setV_app _ _ _ _ _ (by rw [al1.length, mps_len, List.length_map])]
        exact q (us ++ ws) (by rw [bd_app]; exact al1.app al2)
theorem tg_tup3 {C : Type} {g2 g3 : TG} {f2 : PV → Option B} {bd2 : B → Bd} {f3 : PV → Option C} {bd3 : C → Bd} (h1 : TgP K g f bd) (h2 : TgP K g2 f2 bd2) (h3 : TgP K g3 f3 bd3) : TgP K (gTup K 3 (gCons g (gCons g2 (gCons g3 gNil)))) (tupF3 f f2 f3) (fun x => bd x.1 ++ (bd2 x.2.1 ++ bd3 x.2.2)) := fun a x e R H v σ Q s p q => by
  match a, e with
  | .tup [a, b, c], e =>
    simp only [tupF3] at e
    cases c1 : f a with
    | none => rw [c1] at e; cases e
    | some x1 =>
      cases c2 : f2 b with
      | none => rw [c1, c2] at e; cases e
      | some x2 =>
        cases c3 : f3 c with
        | none => rw [c1, c2, c3] at e; cases e
        | some x3 =>
          rw [c1, c2, c3] at e
          cases e
          obtain ⟨pp, vs, rfl, hs, al⟩ := p
          cases al with
          | cons p1 al' =>
            rename_i u us0
            obtain ⟨w, z, rfl, p2, p3⟩ := Al.inv2 al'
            refine ⟨pp, _, rfl, ex_t s hs, rfl, u, [w, z], rfl, h1 a x1 c1 R H u σ _ s p1 fun us al1 => ⟨w, [z], rfl, h2 b x2 c2 R H w _ _ s p2 fun ws al2 => ⟨z, [], rfl, h3 c x3 c3 R H z _ _ s p3 fun zs al3 => ⟨rfl, ?_⟩⟩⟩⟩
            have l1 : us.length = List.length (bd x1) := by rw [al1.length, mps_len, List.length_map]
            have l2 : ws.length = List.length (bd2 x2) := by rw [al2.length, mps_len, List.length_map]
            rw [setV_app _ _ _ _ _ l2, setV_app _ _ _ _ _ l1]
            exact q (us ++ (ws ++ zs)) (by rw [bd_app, bd_app]; exact al1.app (al2.app al3))
def itL (me : W PV) : W (List PV) := bind me fun a => lift (asL a)
def itR (ms : W (List PV)) : W (List PV) := bind ms fun as => lift (rngL as)
def itE (ms : W (List PV)) : W (List PV) := bind ms fun as => lift (enumL as)
def itZ (ms : W (List PV)) : W (List PV) := bind ms fun as => lift (zipL as)
theorem w_list (h : EP K Z ρ tl me) : WkP K Z ρ (iList K tl) (itL me) := fun W0 W σ e R Ψ Ξ hm kk kx =>
  h W0 W σ e _ _ _ hm (fun a v W2 g p ⟨as, ea, z⟩ => by
    match a, ea with
    | .lst as', ea =>
      cases ea
      obtain ⟨p, vs, rfl, hp0, al⟩ := p
      have hp : SqL K W2.r p vs := SqL.of hp0
      have sq : ∀ {W1 : Wd}, Ex W2.r W1.r → Ok K W1 → SqL K W1.h p vs := fun a b => ex_l (a.trans b.sub) hp
      have ll : vs.length = as.length := by rw [al.length, mps_len]
      refine ⟨p, rfl, ⟨vs, ex_l g.ok.sub hp⟩, kk _ W2 as g ⟨fun i W1 a b h => ⟨vs, sq a b, by rw [ll]; exact h⟩, fun i W1 a b h => ⟨vs, _, sq a b, List.getElem?_eq_getElem (by rw [ll]; exact h)⟩, fun i W1 x H' a b hi y => ?_⟩ z⟩
      obtain ⟨rfl, y⟩ := y
      obtain ⟨P, hP, px⟩ := al.getV (y vs (sq a b))
      have hi' : as[i]? = some as[i] := List.getElem?_eq_getElem hi
      rw [mps_get hi'] at hP
      cases hP
      exact ⟨W1, as[i], rfl, rfl, Go.id b, hi', MP.mono _ a px⟩) kx
theorem w_range (h : VP K Z ρ tA ms) : WkP K Z ρ (iRng1 tA) (itR ms) := fun W0 W σ e R Ψ Ξ hm kk kx =>
  h W0 W σ e _ _ _ hm (fun as vs W2 g al ⟨bs, eb, z⟩ => by
    match as, eb with
    | [.int n], eb =>
      simp only [rngL] at eb
      split at eb
      · rename_i hn
        cases eb
        obtain ⟨v, rfl, pv⟩ := Al.inv1 al
        cases pv
        have l0 : ((List.range n.toNat).map fun i : Nat => PV.int (i : Int)).length = n.toNat := by simp
        refine ⟨n, rfl, by omega, by omega, kk _ W2 _ g ⟨fun i W1 _ _ h => by rw [l0] at h; exact h, fun i W1 _ _ h => by rw [l0] at h; exact h, fun i W1 x H' a b hi y => ?_⟩ z⟩
        obtain ⟨rfl, rfl⟩ := y
        rw [l0] at hi
        refine ⟨W1, .int (i : Int), rfl, rfl, Go.id b, by simp [hi], ?_⟩
        show V.int (0 + (i : Int)) = .int (i : Int)
        rw [Int.zero_add]
      · cases eb) kx
theorem w_enum (h : VP K Z ρ tA ms) : WkP K Z ρ (iEnum K tA) (itE ms) := fun W0 W σ e R Ψ Ξ hm kk kx =>
  h W0 W σ e _ _ _ hm (fun as vs W2 g al ⟨bs, eb, z⟩ => by
    match as, eb with
    | [.lst as'], eb =>
      cases eb
      obtain ⟨v, rfl, p, us, rfl, hp0, al⟩ := Al.inv1 al
      have hp : SqL K W2.r p us := SqL.of hp0
      have sq : ∀ {W1 : Wd}, Ex W2.r W1.r → Ok K W1 → SqL K W1.h p us := fun a b => ex_l (a.trans b.sub) hp
      have ll : us.length = as'.length := by rw [al.length, mps_len]
      have l0 := enumF_len 0 as'
      refine ⟨p, us, rfl, ex_l g.ok.sub hp, kk _ W2 _ g ⟨fun i W1 a b h => ⟨us, sq a b, by rw [ll, ← l0]; exact h⟩, fun i W1 a b h => ⟨us, _, sq a b, List.getElem?_eq_getElem (by rw [ll, ← l0]; exact h)⟩, fun i W1 x H' a b hi y => ?_⟩ z⟩
      obtain ⟨T, y, rfl, nT, rfl, fy⟩ := y
      rw [l0] at hi
      obtain ⟨P, hP, px⟩ := al.getV (fy us (sq a b))
      have hi' : as'[i]? = some as'[i] := List.getElem?_eq_getElem hi
      rw [mps_get hi'] at hP
      cases hP
      have gr := new_set (u := .tup [.int (i : Int), y]) b nT
      refine ⟨⟨upd W1.r T (.tup [.int (i : Int), y]), upd W1.h T (.tup [.int (i : Int), y]), W1.s⟩, _, rfl, rfl, gr, enumF_get 0 as' i _ hi', T, _, rfl, SqT.of upd_same, .cons ?_ (Al.one (MP.mono _ gr.le.r (MP.mono _ a px)))⟩
      show V.int (i : Int) = .int ((0 + i : Nat) : Int)
      rw [Nat.zero_add]) kx
theorem w_zip (h : VP K Z ρ tA ms) : WkP K Z ρ (iZip K tA) (itZ ms) := fun W0 W σ e R Ψ Ξ hm kk kx =>
  h W0 W σ e _ _ _ hm (fun as vs W2 g al ⟨bs, eb, z⟩ => by
    match as, eb with
    | [.lst as', .lst bs'], eb =>
      cases eb
      obtain ⟨v, v3, rfl, ⟨p, us, rfl, hp0, al1⟩, ⟨p3, vs3, rfl, hp30, al3⟩⟩ := Al.inv2 al
      have hp : SqL K W2.r p us := SqL.of hp0
      have hp3 : SqL K W2.r p3 vs3 := SqL.of hp30
      have sq : ∀ {W1 : Wd}, Ex W2.r W1.r → Ok K W1 → SqL K W1.h p us := fun a b => ex_l (a.trans b.sub) hp
      have sq3 : ∀ {W1 : Wd}, Ex W2.r W1.r → Ok K W1 → SqL K W1.h p3 vs3 := fun a b => ex_l (a.trans b.sub) hp3
      have ll : us.length = as'.length := by rw [al1.length, mps_len]
      have ll3 : vs3.length = bs'.length := by rw [al3.length, mps_len]
      have l0 := zipF_len as' bs'
      refine ⟨p, p3, us, vs3, rfl, ex_l g.ok.sub hp, ex_l g.ok.sub hp3, kk _ W2 _ g ⟨fun i W1 a b h => ⟨us, vs3, sq a b, sq3 a b, by rw [l0] at h; omega⟩, fun i W1 a b h => ⟨us, vs3, _, _, sq a b, sq3 a b, List.getElem?_eq_getElem (by omega), List.getElem?_eq_getElem (by omega)⟩, fun i W1 x H' a b hi y => ?_⟩ z⟩
      obtain ⟨T, y, y3, rfl, nT, rfl, fy, fy3⟩ := y
      rw [l0] at hi
      obtain ⟨P, hP, px⟩ := al1.getV (fy us (sq a b))
      obtain ⟨P3, hP3, px3⟩ := al3.getV (fy3 vs3 (sq3 a b))
      have hi' : as'[i]? = some as'[i] := List.getElem?_eq_getElem (by omega)
      have hi3 : bs'[i]? = some bs'[i] := List.getElem?_eq_getElem (by omega)
      rw [mps_get hi'] at hP
      cases hP
      rw [mps_get hi3] at hP3
      cases hP3
      have gr := new_set (u := .tup [y, y3]) b nT
      exact ⟨⟨upd W1.r T (.tup [y, y3]), upd W1.h T (.tup [y, y3]), W1.s⟩, _, rfl, rfl, gr, zipF_get as' bs' i _ _ hi' hi3, T, _, rfl, SqT.of upd_same, .cons (MP.mono _ gr.le.r (MP.mono _ a px)) (Al.one (MP.mono _ gr.le.r (MP.mono _ a px3)))⟩) kx
/-- a, b = e -/
theorem gp_unpack {k : A → W (Fl S)} (he : EP K Z ρ te me) (hg : TgP K g f bd) (h : ∀ x, fitS (bd x) ρ.length = true ∧ GP K Z (setS ρ (bd x)) t pat (k x)) : GP K Z ρ (tSeq (tAsg te g) t) pat (bind me fun a => bind (lift (f a)) k) := fun W0 W σ D e Φ Ξ hm q =>
  he W0 W σ e _ _ _ hm (fun a v W2 g2 p ⟨x, ex, z⟩ => hg a x ex W2.r W2.h v σ _ g2.ok.sub p fun vs al => (h x).2 W0 W2 _ D ((e.go g2).sets (fitS_ok (h x).1) al) _ _ z q) (q.x e)
theorem gp_unpack1 {f2 : A → S} (he : EP K Z ρ te me) (hg : TgP K g f bd) (h : ∀ x, fitS (bd x) ρ.length = true ∧ pat (f2 x) = setS ρ (bd x)) : GP K Z ρ (tAsg te g) pat (bind me fun a => bind (lift (f a)) fun x => ret (.nx (f2 x))) := fun W0 W σ D e Φ Ξ hm q =>
  he W0 W σ e _ _ _ hm (fun a v W2 g2 p ⟨x, ex, z⟩ => hg a x ex W2.r W2.h v σ _ g2.ok.sub p fun vs al => q.nx W2 _ (f2 x) ((h x).2 ▸ (e.go g2).sets (fitS_ok (h x).1) al) z) (q.x e)
/-! ### for -/
def forW {S A : Type} (f : PV → Option A) (F : A → S → W (Fl S)) : List PV → S → W (Fl S)
  | [], s => ret (.nx s)
  | a :: l, s => bind (lift (f a)) fun x => bindF (F x s) (forW f F l)
theorem gp_for {F : A → S → W (Fl S)} {s0 : S} {mi : W (List PV)} (hw : WkP K Z ρ wi mi) (hg : TgP K g f bd) (h0 : lessS ρ (pat s0)) (h : ∀ x s, fitS (bd x) (pat s).length = true ∧ GP K Z (setS (pat s) (bd x)) t pat (F x s)) : GP K Z ρ (tFor wi g t) pat (bind mi fun as => forW f F as s0) := fun W0 W σ D e Φ Ξ hm q =>
  hw W0 W σ e _ _ _ hm (fun J W3 as g3 T z => by
    have e3 := (e.go g3).lessS h0
    have up : ∀ {W' σ' s}, En K ⟨W3.r, W0.h, W0.s⟩ W' σ' (pat s) → En K W0 W' σ' (pat s) := fun e' => e'.down e3.le
    refine ⟨fun i m σ' H' => m = as.length - i ∧ i ≤ as.length ∧ ∃ W' s, W'.h = H' ∧ En K ⟨W3.r, W0.h, W0.s⟩ W' σ' (pat s) ∧ forW f F (as.drop i) s W'.s Φ Ξ, ⟨_, rfl, Nat.zero_le _, W3, s0, rfl, e3.up, z⟩, ?_⟩
    rintro i m' σ' H' ⟨rfl, hi, W', s, rfl, e', z⟩
    by_cases hlt : i < as.length
    · refine .inr ⟨T.2.1 i W' e'.le.r e'.ok hlt, fun σ' H' => ∃ W' s, W'.h = H' ∧ En K ⟨W3.r, W0.h, W0.s⟩ W' σ' (pat s) ∧ forW f F (as.drop (i + 1)) s W'.s Φ Ξ, fun σ2 H2 z => ⟨as.length - (i + 1), by omega, rfl, hlt, z⟩, fun x H2 y => ?_⟩
      obtain ⟨W4, a, rfl, es, gr, ha, pa⟩ := T.2.2 i W' x H2 e'.le.r e'.ok hlt y
      rw [List.drop_eq_getElem_cons hlt] at z
      have ea : as[i] = a := Option.some.inj ((List.getElem?_eq_getElem hlt).symm.trans ha)
      rw [ea, ← es] at z
      obtain ⟨y, ey, z⟩ := z
      refine hg a y ey W4.r W4.h x σ' _ gr.ok.sub pa fun vs al => ?_
      obtain ⟨hL, body⟩ := h y s
      have e4 := (e'.go gr).sets (fitS_ok hL) al
      refine body ⟨W3.r, W0.h, W0.s⟩ W4 _ _ e4 _ _ z ⟨fun W σ s e q => ⟨W, s, rfl, e, q⟩, fun r v W g rr z => q.rt r v W (g.down e3.le) ?_ z, fun x cls d σ W g hx z => q.xc x cls d σ W (g.down e3.le) hx z⟩
      cases r with
      | v a => exact rr
      | o as => exact rr
    · have ei : i = as.length := by omega
      subst ei
      rw [List.drop_length] at z
      exact .inl ⟨T.1 _ W' e'.le.r e'.ok (Nat.le_refl _), q.nx W' σ' s (up e') z⟩) (q.x e)
/-! ### while -/
def iterW {S : Type} (c : S → W Bool) (F : S → W (Fl S)) : Nat → S → W (Fl S)
  | 0, _ => fail
  | n + 1, s => bind (c s) fun b => if b = true then bindF (F s) (iterW c F n) else ret (.nx s)
def whileW {S : Type} (c : S → W Bool) (F : S → W (Fl S)) (s0 : S) : W (Fl S) := fun S Φ Ξ => ∃ n, iterW c F n s0 S Φ Ξ
theorem gp_while {c : S → W Bool} {F : S → W (Fl S)} {s0 : S} (h0 : lessS ρ (pat s0)) (hc : ∀ s, TP K Z (pat s) tt (c s)) (h : ∀ s, GP K Z (pat s) t pat (F s)) : GP K Z ρ (tWhile tt t) pat (whileW c F s0) := fun W0 W σ D e Φ Ξ hm q => by
  obtain ⟨n, i0⟩ := hm
  have e0 := e.lessS h0
  refine ⟨fun k σ' H' => ∃ W' s, W'.h = H' ∧ En K W0 W' σ' (pat s) ∧ iterW c F k s W'.s Φ Ξ, ⟨n, W, s0, rfl, e0, i0⟩, ?_⟩
  rintro k σ' H' ⟨W', s, rfl, e', z⟩
  cases k with
  | zero => exact z.elim
  | succ k =>
    refine hc s W0 W' σ' e' _ _ _ z (fun b W2 g2 z => ?_) (q.x e')
    cases b with
    | true => exact ⟨fun σ' H' => ∃ W' s, W'.h = H' ∧ En K W0 W' σ' (pat s) ∧ iterW c F k s W'.s Φ Ξ, fun σ' H' ⟨W', s, a, b, d⟩ => ⟨k, Nat.lt_succ_self k, W', s, a, b, d⟩, h s W0 W2 σ' _ (e'.go g2) _ _ z ⟨fun W σ s e q => ⟨W, s, rfl, e, q⟩, fun r v W a b z => q.rt r v W a b z, q.xc⟩⟩
    | false => exact q.nx W2 σ' s (e'.go g2) z
end
end SL

namespace SL
open PySem PySem.Spec PyProof.Rows L2 Evl NF WL
/-! ### comprehensions -/
def lcF {A : Type} (f : PV → Option A) (c : A → W Bool) (F : A → W PV) : List PV → W (List PV)
  | [] => ret []
  | a :: l => bind (lift (f a)) fun x => bind (c x) fun b => if b = true then bind (F x) fun y => bind (lcF f c F l) fun ys => ret (y :: ys) else lcF f c F l
def few (n : Nat) (as : List PV) : Option (List PV) := if as.length ≤ n then some as else none
def lcO {A : Type} (f : PV → Option A) (c : A → W Bool) (F : A → W PV) (mi : W (List PV)) : W (List PV) := bind mi fun as => bind (lift (few 50000 as)) fun as => noX (lcF f c F as)
def lcF2 {A B : Type} (f : PV → Option A) (c : A → W Bool) (mi : A → W (List PV)) (f1 : PV → Option B) (c1 : A → B → W Bool) (F : A → B → W PV) : List PV → W (List PV)
  | [] => ret []
  | a :: l => bind (lift (f a)) fun x => bind (c x) fun b => if b = true then bind (mi x) fun bs => bind (lift (few 300 bs)) fun bs => bind (lcF f1 (c1 x) (F x) bs) fun ys => bind (lcF2 f c mi f1 c1 F l) fun zs => ret (ys ++ zs) else lcF2 f c mi f1 c1 F l
def lcO2 {A B : Type} (f : PV → Option A) (c : A → W Bool) (m1 : A → W (List PV)) (f1 : PV → Option B) (c1 : A → B → W Bool) (F : A → B → W PV) (mi : W (List PV)) : W (List PV) := bind mi fun as => bind (lift (few 300 as)) fun as => noX (lcF2 f c m1 f1 c1 F as)
section
variable {K : PySem.W.Frag} {Z Z' : WX} {W0 Wb W1 W2 W3 : Wd} {σ : L2.St} {ρ : List Sl} {i j k : Nat} {te : TE} {tt tt1 : TT} {A B : Type} {g g1 : TG} {wi wi1 : TI} {f : PV → Option A} {bd : A → Bd} {f1 : PV → Option B} {bd1 : B → Bd}
theorem own_put {D : Addr} {ap bs : List PV} {vs : List V} (g : Go K Wb W1) (hD : Wb.h D = none) (o : OwnOk K W1 D ap) (al : Al W1.r vs (mps K bs)) : Go K Wb ⟨W1.r, upd W1.h D (.lst vs), W1.s⟩ ∧ OwnOk K ⟨W1.r, upd W1.h D (.lst vs), W1.s⟩ D bs := by
  obtain ⟨us, h1, h2, h3, h4⟩ := o
  have st : ∀ q v, q ≠ D → W1.h q = some v → upd W1.h D (.lst vs) q = some v := fun q v e h => by rw [upd_ne e]; exact h
  refine ⟨⟨⟨fun q v hq => st q v (fun z => by rw [z] at hq; rw [show W1.r D = some v from hq] at h2; cases h2) (g.ok.sub _ _ hq), fun q c hc => ?_⟩, g.le.r, fun q v n hq => st q v (fun z => by rw [z, hD] at hq; cases hq) (g.le.h q v n hq), g.le.w, fun q c hq => by
    obtain ⟨v, a, b⟩ := g.le.d q c hq
    by_cases z : q = D
    · subst z
      exact ⟨_, upd_same, rfl⟩
    · exact ⟨v, st q v z a, b⟩, g.le.n⟩, vs, upd_same, h2, h3, al⟩
  have nq : q ≠ D := fun z => by
    have hc' : W1.s q = some c := hc
    rw [z, h3] at hc'
    cases hc'
  have a := (g.ok.cell q c hc).1
  have b := (g.ok.cell q c hc).2
  exact ⟨a, b.stay (Ex.refl _) fun v h => st q v nq h⟩
theorem few_some {n : Nat} {as bs : List PV} (h : few n as = some bs) : as = bs ∧ as.length ≤ n := by
  unfold few at h
  split at h
  · cases h
    exact ⟨rfl, ‹_›⟩
  · cases h
theorem kx0 {σ : L2.St} {W : Wd} : KX K Z σ W fun _ _ => False := fun _ _ _ _ _ _ z => z.elim
/-- one turn of the innermost clause -/
theorem lc_turn {vs : List Nat} {c : A → W Bool} {F : A → W PV} {x : A} {D : Addr} {ap : List PV} {Ψ : List PV → Sto → Prop} {rest : W (List PV)} {W4 : Wd} {us : List V} {Nx : Hp → Prop} (e0 : En K W0 W4 σ ρ) (gW : Go K Wb W4) (hD : Wb.h D = none) (ho : OwnOk K W4 D ap) (hl : ap.length < 100000)
    (hL : fitC (bd x) ρ.length vs = true) (hT : TP K Z' (setS (wipeS ρ vs) (bd x)) tt (c x)) (hE : EP K Z' (setS (wipeS ρ vs) (bd x)) te (F x)) (alu : Al W4.r us (mps K ((bd x).map (·.2))))
    (q : (bind (c x) fun b => if b = true then bind (F x) fun y => bind rest fun ys => ret (y :: ys) else rest) W4.s (fun ys S => Ψ (ap ++ ys) S) fun _ _ => False)
    (nx : ∀ W' ap', Go K Wb W' → Ex W4.r W'.r → OwnOk K W' D ap' → ap'.length ≤ ap.length + 1 → rest W'.s (fun ys S => Ψ (ap' ++ ys) S) (fun _ _ => False) → Nx W'.h) :
    tt (setV (L2.wipe σ vs) (bd x) us) W4.h fun b H3 => if b = true then te (setV (L2.wipe σ vs) (bd x) us) H3 fun y H4 => ∃ acc, H4 D = some (.lst acc) ∧ acc.length < sizeLine ∧ Nx (upd H4 D (.lst (acc ++ [y]))) else Nx H3 := by
  have hL' := fitC_ok hL
  have e4 : En K W0 W4 (setV (L2.wipe σ vs) (bd x) us) (setS (wipeS ρ vs) (bd x)) := (e0.wipe vs).sets (fun x hx => by rw [wipeS_len]; exact (hL' x hx).1) alu
  refine hT W0 W4 _ e4 _ _ _ q (fun b W5 g5 z => ?_) kx0
  cases b with
  | false => exact nx W5 ap (gW.trans g5) g5.le.r (ho.go g5) (by omega) z
  | true =>
    refine hE W0 W5 _ (e4.go g5) _ _ _ z (fun a v W7 g7 p7 hI => ?_) kx0
    have o7 := (ho.go g5).go g7
    obtain ⟨av, h1, h2, h3, h4⟩ := id o7
    obtain ⟨G8, o8⟩ := own_put (bs := ap ++ [a]) (vs := av ++ [v]) ((gW.trans g5).trans g7) hD o7 (by rw [mps_app]; exact h4.app (Al.one p7))
    refine ⟨av, h1, sz_lt (by rw [h4.length, mps_len]; exact hl), nx _ _ G8 (g5.le.r.trans g7.le.r) o8 (by simp) ?_⟩
    have hI' : rest W7.s (fun ys S => Ψ (ap ++ (a :: ys)) S) (fun _ _ => False) := hI
    simpa using hI'
theorem o_lc {vs : List Nat} {c : A → W Bool} {F : A → W PV} {mi : W (List PV)} (hw : WkP K Z ρ wi mi) (hg : TgP K g f bd) (hb : ∀ x, fitC (bd x) ρ.length vs = true ∧ TP K Z' (setS (wipeS ρ vs) (bd x)) tt (c x) ∧ EP K Z' (setS (wipeS ρ vs) (bd x)) te (F x)) :
    EO K Z ρ (tLc wi g tt te vs) (lcO f c F mi) := fun W0 W σ e Q Ψ Ξ hm kk kx => hw W0 W σ e _ _ _ hm (fun J W2 as g2 T z => by
  obtain ⟨as', ea, z⟩ := z
  obtain ⟨rfl, hn⟩ := few_some ea
  intro Dl hD
  have e2 := e.go g2
  refine ⟨fun i m H' => m = as.length - i ∧ i ≤ as.length ∧ ∃ W' ap, W'.h = H' ∧ Go K W2 W' ∧ OwnOk K W' Dl ap ∧ ap.length ≤ i ∧ lcF f c F (as.drop i) W'.s (fun ys S => Ψ (ap ++ ys) S) (fun _ _ => False), ⟨_, rfl, Nat.zero_le _, ?_⟩, ?_⟩
  · obtain ⟨W3, e1, e3, g3, p, e4, _, o3⟩ := e_new (as := []) e2.ok hD .nil
    cases e4
    exact ⟨W3, [], e1, g3, o3, Nat.le_refl _, by rw [e3]; exact z⟩
  · rintro i m' H' ⟨rfl, hi, W', ap, rfl, g', ho, hlen, q⟩
    have e' := e2.go g'
    by_cases hlt : i < as.length
    · refine .inr ⟨T.2.1 i W' g'.le.r g'.ok hlt, fun H' => ∃ W' ap, W'.h = H' ∧ Go K W2 W' ∧ OwnOk K W' Dl ap ∧ ap.length ≤ i + 1 ∧ lcF f c F (as.drop (i + 1)) W'.s (fun ys S => Ψ (ap ++ ys) S) (fun _ _ => False), fun H2 z => ⟨as.length - (i + 1), by omega, rfl, hlt, z⟩, fun x H2 y => ?_⟩
      obtain ⟨W4, a, rfl, es, gr, ha, pa⟩ := T.2.2 i W' x H2 g'.le.r g'.ok hlt y
      rw [List.drop_eq_getElem_cons hlt] at q
      have ea : as[i] = a := Option.some.inj ((List.getElem?_eq_getElem hlt).symm.trans ha)
      rw [ea, ← es] at q
      obtain ⟨y, ey, q⟩ := q
      refine hg a y ey W4.r W4.h x (L2.wipe σ vs) _ gr.ok.sub pa fun us alu => ?_
      obtain ⟨hL, hT, hE⟩ := hb y
      refine ⟨wipe_sets fun x hx => (fitC_ok hL x hx).2, ?_⟩
      exact lc_turn (e'.go gr) (g'.trans gr) hD (ho.go gr) (by omega) hL hT hE alu q fun W5 ap5 g5 _ o5 l5 r5 => ⟨W5, ap5, rfl, g5, o5, by omega, r5⟩
    · have ei : i = as.length := by omega
      subst ei
      rw [List.drop_length] at q
      have q' : Ψ (ap ++ []) W'.s := q
      rw [List.append_nil] at q'
      exact .inl ⟨T.1 _ W' g'.le.r g'.ok (Nat.le_refl _), kk ap _ W' (g2.trans g') ⟨Dl, rfl, g2.le.fresh g2.ok hD, ho⟩ q'⟩) kx
theorem o_lc2 {vs vs1 : List Nat} {c : A → W Bool} {mi1 : A → W (List PV)} {c1 : A → B → W Bool} {F : A → B → W PV} {mi : W (List PV)} (hw : WkP K Z ρ wi mi) (hg : TgP K g f bd) (hg1 : TgP K g1 f1 bd1)
    (hb : ∀ x, fitC (bd x) ρ.length vs = true ∧ TP K Z' (setS (wipeS ρ vs) (bd x)) tt (c x) ∧ WkP K Z' (setS (wipeS ρ vs) (bd x)) wi1 (mi1 x) ∧ ∀ y, fitC (bd1 y) (setS (wipeS ρ vs) (bd x)).length vs1 = true ∧ TP K Z' (setS (wipeS (setS (wipeS ρ vs) (bd x)) vs1) (bd1 y)) tt1 (c1 x y) ∧ EP K Z' (setS (wipeS (setS (wipeS ρ vs) (bd x)) vs1) (bd1 y)) te (F x y)) :
    EO K Z ρ (tLc2 wi g tt wi1 g1 tt1 te vs vs1) (lcO2 f c mi1 f1 c1 F mi) := fun W0 W σ e Q Ψ Ξ hm kk kx => hw W0 W σ e _ _ _ hm (fun J W2 as g2 T z => by
  obtain ⟨as', ea, z⟩ := z
  obtain ⟨rfl, hn⟩ := few_some ea
  intro Dl hD
  have e2 := e.go g2
  refine ⟨fun i m H' => m = as.length - i ∧ i ≤ as.length ∧ ∃ W' ap, W'.h = H' ∧ Go K W2 W' ∧ OwnOk K W' Dl ap ∧ ap.length ≤ 300 * i ∧ lcF2 f c mi1 f1 c1 F (as.drop i) W'.s (fun ys S => Ψ (ap ++ ys) S) (fun _ _ => False), ⟨_, rfl, Nat.zero_le _, ?_⟩, ?_⟩
  · obtain ⟨W3, e1, e3, g3, p, e4, _, o3⟩ := e_new (as := []) e2.ok hD .nil
    cases e4
    exact ⟨W3, [], e1, g3, o3, Nat.zero_le _, by rw [e3]; exact z⟩
  · rintro i m' H' ⟨rfl, hi, W', ap, rfl, g', ho, hlen, q⟩
    have e' := e2.go g'
    by_cases hlt : i < as.length
    · refine .inr ⟨T.2.1 i W' g'.le.r g'.ok hlt, fun H' => ∃ W' ap, W'.h = H' ∧ Go K W2 W' ∧ OwnOk K W' Dl ap ∧ ap.length ≤ 300 * (i + 1) ∧ lcF2 f c mi1 f1 c1 F (as.drop (i + 1)) W'.s (fun ys S => Ψ (ap ++ ys) S) (fun _ _ => False), fun H2 z => ⟨as.length - (i + 1), by omega, rfl, hlt, z⟩, fun x H2 y => ?_⟩
      obtain ⟨W4, a, rfl, es, gr, ha, pa⟩ := T.2.2 i W' x H2 g'.le.r g'.ok hlt y
      rw [List.drop_eq_getElem_cons hlt] at q
      have ea : as[i] = a := Option.some.inj ((List.getElem?_eq_getElem hlt).symm.trans ha)
      rw [ea, ← es] at q
      obtain ⟨y, ey, q⟩ := q
      refine hg a y ey W4.r W4.h x (L2.wipe σ vs) _ gr.ok.sub pa fun us alu => ?_
      obtain ⟨hL, hT, hW, hI⟩ := hb y
      have hL' := fitC_ok hL
      refine ⟨wipe_sets fun x hx => (hL' x hx).2, ?_⟩
      have e4 : En K W0 W4 (setV (L2.wipe σ vs) (bd y) us) (setS (wipeS ρ vs) (bd y)) := ((e'.go gr).wipe vs).sets (fun x hx => by rw [wipeS_len]; exact (hL' x hx).1) alu
      refine hT W0 W4 _ e4 _ _ _ q (fun b W5 g5 z => ?_) kx0
      cases b with
      | false => exact ⟨W5, ap, rfl, (g'.trans gr).trans g5, (ho.go gr).go g5, by omega, z⟩
      | true =>
        refine hW W0 W5 _ (e4.go g5) _ _ _ z (fun J1 W6 bs g6 T1 z => ?_) kx0
        obtain ⟨bs', eb, z⟩ := z
        obtain ⟨rfl, hbl⟩ := few_some eb
        have e6 := (e4.go g5).go g6
        have G6 := ((g'.trans gr).trans g5).trans g6
        have o6 := ((ho.go gr).go g5).go g6
        refine ⟨fun j k H' => k = bs.length - j ∧ j ≤ bs.length ∧ ∃ W' ap', W'.h = H' ∧ Go K W2 W' ∧ Ex W6.r W'.r ∧ OwnOk K W' Dl ap' ∧ ap'.length ≤ 300 * i + j ∧ lcF f1 (c1 y) (F y) (bs.drop j) W'.s (fun ys S => lcF2 f c mi1 f1 c1 F (as.drop (i + 1)) S (fun zs S => Ψ (ap' ++ ys ++ zs) S) fun _ _ => False) (fun _ _ => False), ⟨_, rfl, Nat.zero_le _, W6, ap, rfl, G6, Ex.refl _, o6, by omega, ?_⟩, ?_⟩
        · have z' : lcF f1 (c1 y) (F y) bs W6.s (fun ys S => lcF2 f c mi1 f1 c1 F (as.drop (i + 1)) S (fun zs S => Ψ (ap ++ (ys ++ zs)) S) fun _ _ => False) (fun _ _ => False) := z
          simpa using z'
        · rintro j k' H' ⟨rfl, hj, W', ap', rfl, g7, h7, o7, hl7, q⟩
          by_cases hjl : j < bs.length
          · refine .inr ⟨T1.2.1 j W' h7 g7.ok hjl, fun H' => ∃ W' ap', W'.h = H' ∧ Go K W2 W' ∧ Ex W6.r W'.r ∧ OwnOk K W' Dl ap' ∧ ap'.length ≤ 300 * i + (j + 1) ∧ lcF f1 (c1 y) (F y) (bs.drop (j + 1)) W'.s (fun ys S => lcF2 f c mi1 f1 c1 F (as.drop (i + 1)) S (fun zs S => Ψ (ap' ++ ys ++ zs) S) fun _ _ => False) (fun _ _ => False), fun H2 z => ⟨bs.length - (j + 1), by omega, rfl, hjl, z⟩, fun x H2 yy => ?_⟩
            obtain ⟨W8, a8, rfl, es8, gr8, ha8, pa8⟩ := T1.2.2 j W' x H2 h7 g7.ok hjl yy
            rw [List.drop_eq_getElem_cons hjl] at q
            have ea8 : bs[j] = a8 := Option.some.inj ((List.getElem?_eq_getElem hjl).symm.trans ha8)
            rw [ea8, ← es8] at q
            obtain ⟨y8, ey8, q⟩ := q
            refine hg1 a8 y8 ey8 W8.r W8.h x (L2.wipe _ vs1) _ gr8.ok.sub pa8 fun us8 alu8 => ?_
            obtain ⟨hL8, hT8, hE8⟩ := hI y8
            refine ⟨wipe_sets fun x hx => (fitC_ok hL8 x hx).2, ?_⟩
            have e7 : En K W0 W' (setV (L2.wipe σ vs) (bd y) us) (setS (wipeS ρ vs) (bd y)) := ((e2.go g7).wipe vs).sets (fun x hx => by rw [wipeS_len]; exact (hL' x hx).1) (alu.mono ((g5.le.r.trans g6.le.r).trans h7))
            exact lc_turn (Ψ := fun ys S => lcF2 f c mi1 f1 c1 F (as.drop (i + 1)) S (fun zs S => Ψ (ys ++ zs) S) fun _ _ => False) (e7.go gr8) (g7.trans gr8) hD (o7.go gr8) (by omega) hL8 hT8 hE8 alu8 q fun W9 ap9 g9 x9 o9 l9 r9 => ⟨W9, ap9, rfl, g9, (h7.trans gr8.le.r).trans x9, o9, by omega, r9⟩
          · have ei : j = bs.length := by omega
            subst ei
            rw [List.drop_length] at q
            have q' : lcF2 f c mi1 f1 c1 F (as.drop (i + 1)) W'.s (fun zs S => Ψ (ap' ++ [] ++ zs) S) fun _ _ => False := q
            simp only [List.append_nil] at q'
            exact .inl ⟨T1.1 _ W' h7 g7.ok (Nat.le_refl _), W', ap', rfl, g7, o7, by omega, q'⟩
    · have ei : i = as.length := by omega
      subst ei
      rw [List.drop_length] at q
      have q' : Ψ (ap ++ []) W'.s := q
      rw [List.append_nil] at q'
      exact .inl ⟨T.1 _ W' g'.le.r g'.ok (Nat.le_refl _), kk ap _ W' (g2.trans g') ⟨Dl, rfl, g2.le.fresh g2.ok hD, ho⟩ q'⟩) kx
end
end SL

namespace SL
open PySem PySem.Spec PyProof.Rows L2 Evl NF WL
/-! ### what a def promises: that it does what F tells -/
def spW (K : PySem.W.Frag) (F : List PV → W RV) : Sp := fun vs H Q E => ∃ (Wa : Wd) (as : List PV) (Ψ : RV → Sto → Prop) (Ξ : XV → Sto → Prop), Wa.h = H ∧ Ok K Wa ∧ Al Wa.r vs (mps K as) ∧ F as Wa.s Ψ Ξ ∧
  (∀ r v W2, Go K Wa W2 → RRk K Wa W2 v r → Ψ r W2.s → Q v W2.h) ∧ ∀ x cls d W2, Go K Wa W2 → XOk K W2.r cls d x → Ξ x W2.s → E cls d W2.h
def ar0 (F : W RV) : List PV → W RV
  | [] => F 
  | _ => fail
theorem ar0_inv {F : W RV} {as : List PV} {S Ψ Ξ} (h : ar0 F as S Ψ Ξ) : as = [] ∧ F  S Ψ Ξ := by
  unfold ar0 at h
  split at h
  · exact ⟨rfl, h⟩
  · exact h.elim
theorem le_ar0 {F : W RV} : ∀ as S Ψ Ξ, ar0 F as S Ψ Ξ → as.length = 0 := fun as S Ψ Ξ h => by
  obtain ⟨rfl, _⟩ := ar0_inv h
  rfl
def ar1 (F : PV → W RV) : List PV → W RV
  | [a] => F a
  | _ => fail
theorem ar1_inv {F : PV → W RV} {as : List PV} {S Ψ Ξ} (h : ar1 F as S Ψ Ξ) : ∃ a, as = [a] ∧ F a S Ψ Ξ := by
  unfold ar1 at h
  split at h
  · exact ⟨_, rfl, h⟩
  · exact h.elim
theorem le_ar1 {F : PV → W RV} : ∀ as S Ψ Ξ, ar1 F as S Ψ Ξ → as.length = 1 := fun as S Ψ Ξ h => by
  obtain ⟨_, rfl, _⟩ := ar1_inv h
  rfl
def ar2 (F : PV → PV → W RV) : List PV → W RV
  | [a, b] => F a b
  | _ => fail
theorem ar2_inv {F : PV → PV → W RV} {as : List PV} {S Ψ Ξ} (h : ar2 F as S Ψ Ξ) : ∃ a b, as = [a, b] ∧ F a b S Ψ Ξ := by
  unfold ar2 at h
  split at h
  · exact ⟨_, _, rfl, h⟩
  · exact h.elim
theorem le_ar2 {F : PV → PV → W RV} : ∀ as S Ψ Ξ, ar2 F as S Ψ Ξ → as.length = 2 := fun as S Ψ Ξ h => by
  obtain ⟨_, _, rfl, _⟩ := ar2_inv h
  rfl
def ar3 (F : PV → PV → PV → W RV) : List PV → W RV
  | [a, b, c] => F a b c
  | _ => fail
theorem ar3_inv {F : PV → PV → PV → W RV} {as : List PV} {S Ψ Ξ} (h : ar3 F as S Ψ Ξ) : ∃ a b c, as = [a, b, c] ∧ F a b c S Ψ Ξ := by
  unfold ar3 at h
  split at h
  · exact ⟨_, _, _, rfl, h⟩
  · exact h.elim
theorem le_ar3 {F : PV → PV → PV → W RV} : ∀ as S Ψ Ξ, ar3 F as S Ψ Ξ → as.length = 3 := fun as S Ψ Ξ h => by
  obtain ⟨_, _, _, rfl, _⟩ := ar3_inv h
  rfl
def ar4 (F : PV → PV → PV → PV → W RV) : List PV → W RV
  | [a, b, c, d] => F a b c d
  | _ => fail
theorem ar4_inv {F : PV → PV → PV → PV → W RV} {as : List PV} {S Ψ Ξ} (h : ar4 F as S Ψ Ξ) : ∃ a b c d, as = [a, b, c, d] ∧ F a b c d S Ψ Ξ := by
  unfold ar4 at h
  split at h
  · exact ⟨_, _, _, _, rfl, h⟩
  · exact h.elim
theorem le_ar4 {F : PV → PV → PV → PV → W RV} : ∀ as S Ψ Ξ, ar4 F as S Ψ Ξ → as.length = 4 := fun as S Ψ Ξ h => by
  obtain ⟨_, _, _, _, rfl, _⟩ := ar4_inv h
  rfl
def ar5 (F : PV → PV → PV → PV → PV → W RV) : List PV → W RV
  | [a, b, c, d, e] => F a b c d e
  | _ => fail
theorem ar5_inv {F : PV → PV → PV → PV → PV → W RV} {as : List PV} {S Ψ Ξ} (h : ar5 F as S Ψ Ξ) : ∃ a b c d e, as = [a, b, c, d, e] ∧ F a b c d e S Ψ Ξ := by
  unfold ar5 at h
  split at h
  · exact ⟨_, _, _, _, _, rfl, h⟩
  · exact h.elim
theorem le_ar5 {F : PV → PV → PV → PV → PV → W RV} : ∀ as S Ψ Ξ, ar5 F as S Ψ Ξ → as.length = 5 := fun as S Ψ Ξ h => by
  obtain ⟨_, _, _, _, _, rfl, _⟩ := ar5_inv h
  rfl
def ar6 (F : PV → PV → PV → PV → PV → PV → W RV) : List PV → W RV
  | [a, b, c, d, e, f] => F a b c d e f
  | _ => fail
theorem ar6_inv {F : PV → PV → PV → PV → PV → PV → W RV} {as : List PV} {S Ψ Ξ} (h : ar6 F as S Ψ Ξ) : ∃ a b c d e f, as = [a, b, c, d, e, f] ∧ F a b c d e f S Ψ Ξ := by
  unfold ar6 at h
  split at h
  · exact ⟨_, _, _, _, _, _, rfl, h⟩
  · exact h.elim
theorem le_ar6 {F : PV → PV → PV → PV → PV → PV → W RV} : ∀ as S Ψ Ξ, ar6 F as S Ψ Ξ → as.length = 6 := fun as S Ψ Ξ h => by
  obtain ⟨_, _, _, _, _, _, rfl, _⟩ := ar6_inv h
  rfl
/-- what was made within a call and is kept by nobody is forgotten -/
def cutS (S S2 : Sto) : Sto := fun p => if (S p).isSome = true then S2 p else none
def scopeW {α : Type} (m : W α) : W α := fun S Ψ Ξ => m S (fun r S2 => Ψ r (cutS S S2)) (fun x S2 => Ξ x (cutS S S2))
theorem cutS_none {S S2 : Sto} {p : Addr} (h : S2 p = none) : cutS S S2 p = none := by
  unfold cutS
  split
  · exact h
  · rfl
theorem cut_go {K : PySem.W.Frag} {Wa W2 : Wd} (g : Go K Wa W2) : Go K Wa ⟨W2.r, W2.h, cutS Wa.s W2.s⟩ := by
  refine ⟨⟨g.ok.sub, fun p c h => ?_⟩, g.le.r, g.le.h, g.le.w, g.le.d, fun p c h n => ?_⟩
  · have h' : cutS Wa.s W2.s p = some c := h
    unfold cutS at h'
    split at h'
    · exact g.ok.cell p c h'
    · cases h'
  · have h' : cutS Wa.s W2.s p = some c := h
    unfold cutS at h'
    rw [if_neg (by rw [n]; simp)] at h'
    cases h'
theorem cut_rr {K : PySem.W.Frag} {Wa W2 : Wd} {S : Sto} {v : V} {r : RV} (h : RRk K Wa W2 v r) : RRk K Wa ⟨W2.r, W2.h, cutS S W2.s⟩ v r := by
  cases r with
  | v a => exact h
  | o as =>
    obtain ⟨p, h1, h2, vs, h3, h4, h5, h6⟩ := h
    exact ⟨p, h1, h2, vs, h3, h4, cutS_none h5, h6⟩
section
variable {P : Program} {w : World} {K : PySem.W.Frag} {mg : Str → Option Value} {base : Heap} {CX : CXT} {k : Nat} {f : Addr} {fd : FuncData} {ps : List Str} {F : List PV → W RV}
theorem FnG.imp {sp sp' : Sp} (G : FnG P w K mg base CX k f fd ps sp) (h : ∀ vs H Q E, sp' vs H Q E → sp vs H Q E) : FnG P w K mg base CX k f fd ps sp' :=
  ⟨fun vs H Q E z => G.many vs H Q E (h vs H Q E z), fun A out s H args us vs Q E g hr he hb hv hs => G.goes A out s H args us vs Q E g hr he hb hv (h vs H Q E hs)⟩
theorem fn_scope (G : FnG P w K mg base CX k f fd ps (spW K F)) : FnG P w K mg base CX k f fd ps (spW K fun as => scopeW (F as)) := FnG.imp G fun vs H Q E ⟨Wa, as, Ψ, Ξ, a, b, c, d, q, qx⟩ =>
  ⟨Wa, as, _, _, a, b, c, d, fun r v W2 g rr z => q r v ⟨W2.r, W2.h, cutS Wa.s W2.s⟩ (cut_go g) (cut_rr rr) z, fun x cls d W2 g hx z => qx x cls d ⟨W2.r, W2.h, cutS Wa.s W2.s⟩ (cut_go g) hx z⟩
end
/-! ### calls -/
section
variable {X : Cx} {CX : CXT} {j k : Nat} {f : Addr} {fd : FuncData} {ps : List Str} {sp : Sp} {dvs : List V} {ds : List Value} {E : L2.St → XK} {x : Str} {p pos : Pos} {e : Expr} {es : List Expr} {t : TA}
theorem run_gS {pins : List (Addr × Obj)} {σ : L2.St} {H : Hp} {s : Shared} {Q : VK} {us : List Value} {vs : List V} (F : FnG X.prog X.w X.K X.mg X.base CX k f fd ps sp) (g : X.A.guards = some []) (hr : Room k X.A) (b : Binds X.K fd ps ds) (d : Vals dvs ds) (out : PassesAt CX X σ (E σ))
    (I : Inv X pins σ H s) (v : Vals vs us) (h : sp (vs ++ dvs) H Q (E σ)) : wpAny (model X.prog X.w) X.A (call (.ref f) us) (L2.EP X pins σ Q) X.xe s := by
  have va := v.append d
  have le : (us ++ ds).length = ps.length := va.length.symm.trans (F.many _ _ _ _ h)
  refine wpAny_call (codeAny_mono (F.goes X.A X.stack s H ⟨us, []⟩ _ _ Q (E σ) g hr I.env0 (b s us I.kIn le) va h) ?_)
  intro r s2 z
  match r, z with
  | .error y, z => exact out pins H s y s2 I z
  | .ok (.ret u), z => exact I.after z
/-- a def that may let an exception out is called -/
theorem pe_caS (C : CaG X.prog X.w X.K X.mg X.base CX k x ps dvs sp) (g : X.A.guards = some []) (hr : Room j X.A) (hk : k ≤ j) (gl : Gl X x) (out : ∀ σ, PassesAt CX X σ (E σ)) (ha : PA X (e :: es) t) (db : (x == ("__debug__" : Str)) = false := by decide)
    (he : starEach (e :: es) X.env = (false, eval e X.env) :: starEach es X.env := by rfl) (pl : (backTo pos (starEach es X.env)).any (·.1) = false := by rfl) : PE X (.Call (.Name x p) (e :: es) [] pos) (tCallSD sp dvs E t) := by
  obtain ⟨f, fd, ds, F, hm, kp, b, d⟩ := C.ex
  constructor
  intro pins s σ H Q I h
  refine wpAny_Call_Name_kw (ld_glob I gl hm (PySem.W.callWith_K (h₀ := X.base) I.ok.mod.kin kp (thn (ha.run pos pins s σ H _ I h) ?_) he pl) db)
  rintro us s1 ⟨vs, G, J, r, q⟩
  exact ⟨J.kIn, run_gS F g (hr.mono hk) b d (out σ) J r q⟩
end
def callW (F : List PV → W RV) (ds : List PV) (ms : W (List PV)) : W PV := bind ms fun as => bind (noX (F (as ++ ds))) fun r => ret r.pv
def callX (F : List PV → W RV) (ds : List PV) (ms : W (List PV)) : W PV := bind ms fun as => bind (F (as ++ ds)) fun r => ret r.pv
def asO : RV → Option (List PV)
  | .o as => some as
  | _ => none
def callO (F : List PV → W RV) (ds : List PV) (ms : W (List PV)) : W (List PV) := bind ms fun as => bind (noX (F (as ++ ds))) fun r => lift (asO r)
def callXO (F : List PV → W RV) (ds : List PV) (ms : W (List PV)) : W (List PV) := bind ms fun as => bind (F (as ++ ds)) fun r => lift (asO r)
section
variable {K : PySem.W.Frag} {Z : WX} {W0 W1 W2 W3 : Wd} {σ : L2.St} {ρ : List Sl} {i j k : Nat} {te : TE} {tA : TA} {ms : W (List PV)} {F : List PV → W RV} {dvs : List V} {Ex0 : XK}
theorem sp_use {Wa : Wd} {vs : List V} {as ds : List PV} {Q : VK} {E : XK} {Ψ : RV → Sto → Prop} {Ξ : XV → Sto → Prop} (hd : ∀ H, Al H dvs (mps K ds)) (o : Ok K Wa) (al : Al Wa.r vs (mps K as)) (h : F (as ++ ds) Wa.s Ψ Ξ)
    (q : ∀ r v W2, Go K Wa W2 → RRk K Wa W2 v r → Ψ r W2.s → Q v W2.h) (qx : ∀ x cls d W2, Go K Wa W2 → XOk K W2.r cls d x → Ξ x W2.s → E cls d W2.h) : spW K F (vs ++ dvs) Wa.h Q E := ⟨Wa, as ++ ds, Ψ, Ξ, rfl, o, by rw [mps_app]; exact al.app (hd _), h, q, qx⟩
theorem rr_settle {Wa Wb : Wd} {r : RV} {v : V} (g : Go K Wa Wb) (h : RRk K Wa Wb v r) : ∃ W3, W3.h = Wb.h ∧ W3.s = Wb.s ∧ Go K Wa W3 ∧ (mp K r.pv).p W3.r v := by
  cases r with
  | v a => exact ⟨Wb, rfl, rfl, g, h⟩
  | o as =>
    obtain ⟨W3, e1, e2, _, g3, p3⟩ := settle g h
    exact ⟨W3, e1, e2, g3, p3⟩
theorem p_call {ds : List PV} (hd : ∀ H, Al H dvs (mps K ds)) (ha : VP K Z ρ tA ms) : EP K Z ρ (tCall (spW K F) dvs Ex0 tA) (callW F ds ms) := fun W0 W σ e Q Ψ Ξ hm kk kx =>
  ha W0 W σ e _ _ _ hm (fun as vs W1 g1 al h => sp_use hd g1.ok al h (fun r v W2 g2 rr z => by
    obtain ⟨W3, e1, e2, g3, p3⟩ := rr_settle g2 rr
    rw [← e1]
    exact kk _ v W3 (g1.trans g3) p3 (by rw [e2]; exact z)) fun _ _ _ _ _ _ z => z.elim) kx
theorem o_call {ds : List PV} (hd : ∀ H, Al H dvs (mps K ds)) (ha : VP K Z ρ tA ms) : EO K Z ρ (tCall (spW K F) dvs Ex0 tA) (callO F ds ms) := fun W0 W σ e Q Ψ Ξ hm kk kx =>
  ha W0 W σ e _ _ _ hm (fun as vs W1 g1 al h => sp_use hd g1.ok al h (fun r v W2 g2 rr z => by
    obtain ⟨bs, eb, z⟩ := z
    cases r with
    | v a => cases eb
    | o cs =>
      cases eb
      exact kk _ v W2 (g1.trans g2) (ROk.back g1.ok g1 rr) z) fun _ _ _ _ _ _ z => z.elim) kx
theorem p_callX {ds : List PV} (hd : ∀ H, Al H dvs (mps K ds)) (ha : VP K Z ρ tA ms) : EP K Z ρ (tCallSD (spW K F) dvs (WE Z) tA) (callX F ds ms) := fun W0 W σ e Q Ψ Ξ hm kk kx =>
  ha W0 W σ e _ _ _ hm (fun as vs W1 g1 al h => sp_use hd g1.ok al h (fun r v W2 g2 rr z => by
    obtain ⟨W3, e1, e2, g3, p3⟩ := rr_settle g2 rr
    rw [← e1]
    exact kk _ v W3 (g1.trans g3) p3 (by rw [e2]; exact z)) fun x cls d W2 g2 hx z => kx x cls d W2 (g1.trans g2) hx z) kx
theorem o_callX {ds : List PV} (hd : ∀ H, Al H dvs (mps K ds)) (ha : VP K Z ρ tA ms) : EO K Z ρ (tCallSD (spW K F) dvs (WE Z) tA) (callXO F ds ms) := fun W0 W σ e Q Ψ Ξ hm kk kx =>
  ha W0 W σ e _ _ _ hm (fun as vs W1 g1 al h => sp_use hd g1.ok al h (fun r v W2 g2 rr z => by
    obtain ⟨bs, eb, z⟩ := z
    cases r with
    | v a => cases eb
    | o cs =>
      cases eb
      exact kk _ v W2 (g1.trans g2) (ROk.back g1.ok g1 rr) z) fun x cls d W2 g2 hx z => kx x cls d W2 (g1.trans g2) hx z) kx
end
/-! ### a def by its body -/
section
variable {P : Program} {w : World} {K : PySem.W.Frag} {mg : Str → Option Value} {base : Heap} {f : Addr} {fd : FuncData} {F : List PV → W RV}
theorem en_start {N : List Str} {Wa : Wd} {vs : List V} {as : List PV} (o : Ok K Wa) (al : Al Wa.r vs (mps K as)) (hl : as.length ≤ N.length) : En K Wa Wa (start N vs) (as.map .val ++ List.replicate (N.length - as.length) .un) := by
  have ll : vs.length = as.length := by rw [al.length, mps_len]
  have hs : start N vs = vs.map some ++ List.replicate (N.length - vs.length) none := rfl
  refine ⟨o, Le.refl o, by rw [hs]; simp [ll], fun i s hi => ?_, fun i j as' bs p _ h1 => ?_⟩
  · by_cases c : i < as.length
    · rw [List.getElem?_append_left (by simpa using c), List.getElem?_map, List.getElem?_eq_getElem c] at hi
      cases hi
      obtain ⟨v, hv, pv⟩ := al.get (mps_get (K := K) (List.getElem?_eq_getElem c))
      refine ⟨some v, ?_, v, rfl, pv⟩
      rw [hs, List.getElem?_append_left (by simp [ll, c]), List.getElem?_map, hv]
      rfl
    · have hi2 := (List.getElem?_eq_some_iff.mp hi).1
      rw [List.getElem?_append_right (by simpa using c), List.getElem?_replicate] at hi
      split at hi
      · cases hi
        refine ⟨none, ?_, trivial⟩
        rw [hs, List.getElem?_append_right (by simp [ll]; omega), List.getElem?_replicate, if_pos (by simp [ll]; simp at hi2; omega)]
      · cases hi
  · exfalso
    by_cases c : i < as.length
    · rw [List.getElem?_append_left (by simpa using c), List.getElem?_map, List.getElem?_eq_getElem c] at h1
      cases h1
    · rw [List.getElem?_append_right (by simpa using c), List.getElem?_replicate] at h1
      split at h1 <;> cases h1
theorem fnW_core {N : List Str} {t : TS} {vs : List V} {H : Hp} {Q : VK} {E : XK} (h : spW K F vs H Q E) (hl : ∀ as S Ψ Ξ, F as S Ψ Ξ → as.length ≤ N.length)
    (hb : ∀ as S Ψ Ξ, F as S Ψ Ξ → ∃ m : W (Fl Unit), runF m S Ψ Ξ ∧ GP K (fun cls d _ H => E cls d H) (as.map .val ++ List.replicate (N.length - as.length) .un) t (fun _ => List.replicate N.length .un) m) : t { nx := fun _ G => Q .non G, rt := Q } (start N vs) H := by
  obtain ⟨Wa, as, Ψ, Ξ, rfl, o, al, hF, q, qx⟩ := h
  obtain ⟨m, hm, g⟩ := hb as _ Ψ Ξ hF
  exact g Wa Wa _ _ (en_start (N := N) o al (hl as _ Ψ Ξ hF)) _ _ hm ⟨fun W2 σ s e z => q (.v .non) .non W2 e.gone rfl z, fun r v W2 g rr z => q r v W2 g rr z, fun x cls d σ W2 g hx z => qx x cls d W2 g hx z⟩
theorem sp_len {ps : List Str} (hl : ∀ as S Ψ Ξ, F as S Ψ Ξ → as.length = ps.length) : ∀ vs H Q E, spW K F vs H Q E → vs.length = ps.length := fun vs H Q E h => by
  obtain ⟨Wa, as, Ψ, Ξ, _, _, al, hF, _⟩ := h
  rw [al.length, mps_len]
  exact hl as _ Ψ Ξ hF
theorem fnW {x qual : Str} {st : Stmt} {N ps : List Str} {k : Nat} (Fn : Fun K x qual st f fd) (S : FnScope N ps (defScope st)) (hN : ps.length ≤ N.length) (hl : ∀ as S Ψ Ξ, F as S Ψ Ξ → as.length = ps.length)
    (hb : ∀ (cdv : Value) (A : Around) (outer : List Env) (s : Shared) (H : Hp) (E : XK), A.guards = some [] → Room k (A.deeper (envOfC qual (defScope st) s.heap.objs.size f cdv)) → ∃ t, PSs (cxOf CX0 P w K mg base N qual (defScope st) f cdv A outer s H E).nox (defBody st) t ∧
      ∀ as S Ψ Ξ, F as S Ψ Ξ → ∃ m : W (Fl Unit), runF m S Ψ Ξ ∧ GP K (fun cls d _ H => E cls d H) (as.map .val ++ List.replicate (N.length - as.length) .un) t (fun _ => List.replicate N.length .un) m) : FnG P w K mg base CX0 (k + 1) f fd ps (spW K F) :=
  Fun.okG Fn S (sp_len hl) fun cdv A out s H vs Q E g hr h => by
    obtain ⟨t, ht, b⟩ := hb cdv A out s H E g hr
    exact ⟨t, ht, fnW_core h (fun as S Ψ Ξ z => by rw [hl as S Ψ Ξ z]; exact hN) b⟩
/-- a def that may raise -/
theorem fnWX {x qual : Str} {st : Stmt} {N ps : List Str} {k : Nat} (Fn : Fun K x qual st f fd) (S : FnScope N ps (defScope st)) (hN : ps.length ≤ N.length) (hl : ∀ as S Ψ Ξ, F as S Ψ Ξ → as.length = ps.length)
    (hb : ∀ (cdv : Value) (A : Around) (outer : List Env) (s : Shared) (H : Hp) (E : XK), A.guards = some [] → Room k (A.deeper (envOfC qual (defScope st) s.heap.objs.size f cdv)) → ∃ t, PSs (cxOf (L2.CX P w) P w K mg base N qual (defScope st) f cdv A outer s H E) (defBody st) t ∧
      ∀ as S Ψ Ξ, F as S Ψ Ξ → ∃ m : W (Fl Unit), runF m S Ψ Ξ ∧ GP K (fun cls d _ H => E cls d H) (as.map .val ++ List.replicate (N.length - as.length) .un) t (fun _ => List.replicate N.length .un) m) : FnG P w K mg base (L2.CX P w) (k + 1) f fd ps (spW K F) := by
  obtain ⟨_, _, _, _, _, _, cdv, _, _, rfl, lk, hcd⟩ := Fn.ex
  refine fn_g lk hcd S (sp_len hl) fun A out s H vs Q E g hr h => ?_
  obtain ⟨t, ht, b⟩ := hb cdv A out s H E g hr
  exact ⟨t, ht, fnW_core h (fun as S Ψ Ξ z => by rw [hl as S Ψ Ξ z]; exact hN) b⟩
theorem fnWD {x qual : Str} {params : Arguments} {body : List Stmt} {scope : Scope} {dvs : List V} {N ps : List Str} {k : Nat} (Fn : FunD K x qual params body scope dvs [] f fd) (S : FnScope N ps scope) (hN : ps.length ≤ N.length) (hl : ∀ as S Ψ Ξ, F as S Ψ Ξ → as.length = ps.length)
    (hb : ∀ (cdv : Value) (A : Around) (outer : List Env) (s : Shared) (H : Hp) (E : XK), A.guards = some [] → Room k (A.deeper (envOfC qual scope s.heap.objs.size f cdv)) → ∃ t, PSs (cxOf CX0 P w K mg base N qual scope f cdv A outer s H E).nox body t ∧
      ∀ as S Ψ Ξ, F as S Ψ Ξ → ∃ m : W (Fl Unit), runF m S Ψ Ξ ∧ GP K (fun cls d _ H => E cls d H) (as.map .val ++ List.replicate (N.length - as.length) .un) t (fun _ => List.replicate N.length .un) m) : FnG P w K mg base CX0 (k + 1) f fd ps (spW K F) := by
  obtain ⟨oc, od, dV, kV, doc, pm, an, cdv, ct, osl, rfl, lk, hcd, _, _⟩ := Fn.ex
  refine fn_g lk hcd S (sp_len hl) fun A out s H vs Q E g hr h => ?_
  obtain ⟨t, ht, b⟩ := hb cdv A out s H E g hr
  exact ⟨t, ht.nox, fnW_core h (fun as S Ψ Ξ z => by rw [hl as S Ψ Ξ z]; exact hN) b⟩
theorem fnWDX {x qual : Str} {params : Arguments} {body : List Stmt} {scope : Scope} {dvs : List V} {N ps : List Str} {k : Nat} (Fn : FunD K x qual params body scope dvs [] f fd) (S : FnScope N ps scope) (hN : ps.length ≤ N.length) (hl : ∀ as S Ψ Ξ, F as S Ψ Ξ → as.length = ps.length)
    (hb : ∀ (cdv : Value) (A : Around) (outer : List Env) (s : Shared) (H : Hp) (E : XK), A.guards = some [] → Room k (A.deeper (envOfC qual scope s.heap.objs.size f cdv)) → ∃ t, PSs (cxOf (L2.CX P w) P w K mg base N qual scope f cdv A outer s H E) body t ∧
      ∀ as S Ψ Ξ, F as S Ψ Ξ → ∃ m : W (Fl Unit), runF m S Ψ Ξ ∧ GP K (fun cls d _ H => E cls d H) (as.map .val ++ List.replicate (N.length - as.length) .un) t (fun _ => List.replicate N.length .un) m) : FnG P w K mg base (L2.CX P w) (k + 1) f fd ps (spW K F) := by
  obtain ⟨oc, od, dV, kV, doc, pm, an, cdv, ct, osl, rfl, lk, hcd, _, _⟩ := Fn.ex
  refine fn_g lk hcd S (sp_len hl) fun A out s H vs Q E g hr h => ?_
  obtain ⟨t, ht, b⟩ := hb cdv A out s H E g hr
  exact ⟨t, ht, fnW_core h (fun as S Ψ Ξ z => by rw [hl as S Ψ Ξ z]; exact hN) b⟩
end
end SL

namespace SL
open PySem PySem.Spec PyProof.Rows L2 Evl NF WL
/-! ### data: what may be compared, shown -/
mutual
def toD : PV → Option PyData
  | .non => some .none
  | .bl b => some (.bool b)
  | .int i => some (.int i)
  | .str z => some (.str z)
  | .lst as => match toDs as with
    | some ds => some (.list ds)
    | none => none
  | .tup as => match toDs as with
    | some ds => some (.tuple ds)
    | none => none
  | .dic [] [] => some (.dict [])
  | _ => none
def toDs : List PV → Option (List PyData)
  | [] => some []
  | a :: as => match toD a, toDs as with
    | some d, some ds => some (d :: ds)
    | _, _ => none
end
theorem toDs_cons {a : PV} {as : List PV} {ds : List PyData} (h : toDs (a :: as) = some ds) : ∃ d es, ds = d :: es ∧ toD a = some d ∧ toDs as = some es := by
  simp only [toDs] at h
  split at h
  · rename_i d es h1 h2
    cases h
    exact ⟨d, es, rfl, h1, h2⟩
  · cases h
theorem toD_lst {as : List PV} {d : PyData} (h : toD (.lst as) = some d) : ∃ ds, d = .list ds ∧ toDs as = some ds := by
  simp only [toD] at h
  split at h
  · rename_i ds h1
    cases h
    exact ⟨ds, rfl, h1⟩
  · cases h
theorem toD_tup {as : List PV} {d : PyData} (h : toD (.tup as) = some d) : ∃ ds, d = .tuple ds ∧ toDs as = some ds := by
  simp only [toD] at h
  split at h
  · rename_i ds h1
    cases h
    exact ⟨ds, rfl, h1⟩
  · cases h
mutual
theorem dp_of {K : PySem.W.Frag} {H : Hp} : ∀ (a : PV) (d : PyData) (v : V), toD a = some d → d.hasDict = false → (mp K a).p H v → Dp K H v d
  | .non, _, _, h, _, p => by cases h; cases p; exact .non
  | .bl b, _, _, h, _, p => by cases h; cases p; exact .bl b
  | .int i, _, _, h, _, p => by cases h; cases p; exact .int i
  | .str z, _, _, h, _, p => by cases h; cases p; exact .str z
  | .lst as, d, _, h, hh, p => by
    obtain ⟨ds, rfl, h1⟩ := toD_lst h
    obtain ⟨q, vs, rfl, hq, al⟩ := p
    exact .lst (SqL.of hq) (dps_of as ds vs h1 hh al)
  | .tup as, d, _, h, hh, p => by
    obtain ⟨ds, rfl, h1⟩ := toD_tup h
    obtain ⟨q, vs, rfl, hq, al⟩ := p
    exact .tup hq (dps_of as ds vs h1 hh al)
  | .dic ks as, _, _, h, hh, p => by
    match ks, as, h with
    | [], [], h => cases h; cases hh
    | [], _ :: _, h => simp [toD] at h
    | _ :: _, _, h => simp [toD] at h
  | .dit _ _, _, _, h, _, _ => by simp [toD] at h
  | .ins _ _ _, _, _, h, _, _ => by simp [toD] at h
  | .exc _ _ _, _, _, h, _, _ => by simp [toD] at h
  | .cls _, _, _, h, _, _ => by simp [toD] at h
  | .scr _, _, _, h, _, _ => by simp [toD] at h
  | .ptr _, _, _, h, _, _ => by simp [toD] at h
  | .hole, _, _, h, _, _ => by simp [toD] at h
theorem dps_of {K : PySem.W.Frag} {H : Hp} : ∀ (as : List PV) (ds : List PyData) (vs : List V), toDs as = some ds → PyData.hasDictAll ds = false → Al H vs (mps K as) → DpAll K H vs ds
  | [], _, _, h, _, .nil => by cases h; exact .nil
  | a :: as, ds, _, h, hh, .cons p t => by
    obtain ⟨d, es, rfl, h1, h2⟩ := toDs_cons h
    rw [PyData.hasDictAll, Bool.or_eq_false_iff] at hh
    exact .cons (dp_of a d _ h1 hh.1 p) (dps_of as es _ h2 hh.2 t)
end
section
variable {X : Cx} {pins : List (Addr × Obj)} {σ : L2.St} {H : Hp} {s : Shared}
mutual
/-- no list within -/
def nolist : PV → Bool
  | .lst _ => false
  | .tup as => nolists as
  | _ => true
def nolists : List PV → Bool
  | [] => true
  | a :: as => nolist a && nolists as
end
mutual
/-- what is represented is read; of what holds no list nothing is sys.modules' -/
theorem reads_of (I : Inv X pins σ H s) : ∀ (a : PV) (d : PyData) (v : V) (u : Value), toD a = some d → (mp X.K a).p H v → RelV v u → ∃ as, Reads s.heap u d as ∧ (nolist a = true → sysModules ∉ as)
  | .non, _, _, _, h, p, r => by cases h; cases p; cases r; exact ⟨_, .none, by simp⟩
  | .bl b, _, _, _, h, p, r => by cases h; cases p; cases r; exact ⟨_, .bool b, by simp⟩
  | .int i, _, _, _, h, p, r => by cases h; cases p; obtain ⟨t, rfl⟩ := r; exact ⟨_, .int i t, by simp⟩
  | .str z, _, _, _, h, p, r => by cases h; cases p; obtain ⟨t, rfl⟩ := r; exact ⟨_, .str z t, by simp⟩
  | .lst as, d, _, _, h, p, r => by
    obtain ⟨ds, rfl, h1⟩ := toD_lst h
    obtain ⟨q, vs, rfl, hq, al⟩ := p
    cases r
    obtain ⟨its, rv, ⟨o, n, ho, hc, _, hd⟩, _⟩ := I.list (SqL.of hq)
    obtain ⟨bs, hr, nb⟩ := readsAll_of I as ds vs its h1 al rv
    exact ⟨_, Reads.list ho hc hd hr, fun z => by cases z⟩
  | .tup as, d, _, _, h, p, r => by
    obtain ⟨ds, rfl, h1⟩ := toD_tup h
    obtain ⟨q, vs, rfl, hq, al⟩ := p
    cases r
    obtain ⟨its, rv, ⟨o, ho, hc, n, hd⟩, _⟩ := I.tuple hq
    obtain ⟨bs, hr, nb⟩ := readsAll_of I as ds vs its h1 al rv
    exact ⟨_, Reads.tuple ho hc hd hr, fun z => nb z⟩
  | .dic ks as, d, _, _, h, p, r => by
    have hk : ks = [] ∧ as = [] ∧ d = .dict [] := by
      match ks, as, h with
      | [], [], h => cases h; exact ⟨rfl, rfl, rfl⟩
      | [], _ :: _, h => simp [toD] at h
      | _ :: _, _, h => simp [toD] at h
    obtain ⟨rfl, rfl, rfl⟩ := hk
    obtain ⟨q, vs, rfl, hq, hl, _⟩ := p
    cases vs with
    | cons _ _ => cases hl
    | nil =>
    cases r
    obtain ⟨_, hs, vs, kv, o, es, ep, ho, hx, hd, _, pr, _⟩ := I.hok _ _ hq
    cases kv
    have he : es.toList = [] := List.eq_nil_of_length_eq_zero pr.length
    refine ⟨[q], Reads.dict (as := []) (bs := []) ho hx.1 hd (by rw [he]; exact .nil) (by rw [he]; exact .nil), ?_⟩
    intro _ z
    rw [List.mem_singleton] at z
    rw [← z] at hs
    simp at hs
  | .dit _ _, _, _, _, h, _, _ => by simp [toD] at h
  | .ins _ _ _, _, _, _, h, _, _ => by simp [toD] at h
  | .exc _ _ _, _, _, _, h, _, _ => by simp [toD] at h
  | .cls _, _, _, _, h, _, _ => by simp [toD] at h
  | .scr _, _, _, _, h, _, _ => by simp [toD] at h
  | .ptr _, _, _, _, h, _, _ => by simp [toD] at h
  | .hole, _, _, _, h, _, _ => by simp [toD] at h
theorem readsAll_of (I : Inv X pins σ H s) : ∀ (as : List PV) (ds : List PyData) (vs : List V) (us : List Value), toDs as = some ds → Al H vs (mps X.K as) → Vals vs us → ∃ bs, ReadsAll s.heap us ds bs ∧ (nolists as = true → sysModules ∉ bs)
  | [], _, _, _, h, .nil, .nil => by cases h; exact ⟨_, .nil, by simp⟩
  | a :: as, ds, _, _, h, .cons p t, .cons r q => by
    obtain ⟨d, es, rfl, h1, h2⟩ := toDs_cons h
    obtain ⟨b1, r1, n1⟩ := reads_of I a d _ _ h1 p r
    obtain ⟨b2, r2, n2⟩ := readsAll_of I as es _ _ h2 t q
    refine ⟨_, .cons r1 r2, fun z => ?_⟩
    rw [nolists, Bool.and_eq_true] at z
    rw [List.mem_append]
    rintro (y | y)
    · exact n1 z.1 y
    · exact n2 z.2 y
end
end
end SL

namespace SL
open PySem PySem.Spec PyProof.Rows L2 Evl NF WL
section
variable {X : Cx} {K : PySem.W.Frag}
theorem op_or {f : Value → Value → Sem Value} {r r' : R2} (h : OpR X f r) (h' : OpR X f r') : OpR X f fun x y H Q => r x y H Q ∨ r' x y H Q := fun pins s σ H x y v u Q I rx ry q => q.elim (h pins s σ H x y v u Q I rx ry) (h' pins s σ H x y v u Q I rx ry)
theorem ix_or {r r' : R2} (h : IxR X r) (h' : IxR X r') : IxR X fun x y H Q => r x y H Q ∨ r' x y H Q := fun va sl pins s σ H x y v u Q I rx ry q => q.elim (h va sl pins s σ H x y v u Q I rx ry) (h' va sl pins s σ H x y v u Q I rx ry)
theorem call_or {f : Value} {r r' : List V → Hp → VK → Prop} (h : CallR X f r) (h' : CallR X f r') : CallR X f fun xs H Q => r xs H Q ∨ r' xs H Q := fun pins s σ H xs us Q I rx q => q.elim (h pins s σ H xs us Q I rx) (h' pins s σ H xs us Q I rx)
/-! + of ints, texts, lists -/
def rTxt : R2 := fun x y H Q => ∃ i j, x = .str i ∧ y = .str j ∧ i.length + j.length ≤ sizeLine ∧ Q (.str (i ++ j)) H
def rAddU : R2 := fun x y H Q => rI0 (fun i j => .int (i + j)) x y H Q ∨ (rTxt x y H Q ∨ rCat x y H Q)
theorem op_addU : OpR X (binaryOp .Add) rAddU := op_or op_add (op_or op_add_str op_cat)
/-! subscripts -/
def rIxU (K : PySem.W.Frag) : R2 := fun x y H Q => rIxL K x y H Q ∨ (rIxT K x y H Q ∨ rIxS x y H Q)
theorem ix_U (h : X.K = K) : IxR X (rIxU K) := h ▸ ix_or ix_list (ix_or ix_tup ix_str)
/-! len -/
def rLenZ : List V → Hp → VK → Prop := fun xs H Q => ∃ z, xs = [.str z] ∧ z.length ≤ sizeLine ∧ Q (.int z.length) H
def rLenU (K : PySem.W.Frag) : List V → Hp → VK → Prop := fun xs H Q => Evl.rLenS K xs H Q ∨ rLenZ xs H Q
theorem call_lenU (h : X.K = K) : CallR X (.builtin "len") (rLenU K) := h ▸ call_or call_len_seq call_len_str
/-! repr -/
def FineP (a : PV) (d : PyData) : Prop := d.showable = true ∧ (d.hasDict = false ∨ nolist a = true) ∧ d.depth ≤ 20 ∧ d.shown.length ≤ sizeLine
instance (a : PV) (d : PyData) : Decidable (FineP a d) := by unfold FineP; infer_instance
def rRepP (K : PySem.W.Frag) : List V → Hp → VK → Prop := fun xs H Q => ∃ (x : V) (a : PV) (d : PyData), xs = [x] ∧ (mp K a).p H x ∧ toD a = some d ∧ FineP a d ∧ Q (.str d.shown) H
theorem call_repP (h : X.K = K) (gd : X.A.guards = some []) (hu : X.A.units + 64 < cLine) : CallR X (.builtin "repr") (rRepP K) := by
  subst h
  intro pins s σ H xs us Q I r h
  obtain ⟨x, a, d, rfl, pa, hd, ⟨f1, f2, f3, f4⟩, q⟩ := h
  obtain ⟨u, rfl, ru⟩ := vals1 r
  obtain ⟨as, rd, nm0⟩ := reads_of I a d x u hd pa ru
  have nm : d.hasDict = true → sysModules ∉ as := fun z => nm0 (f2.resolve_left fun y => by rw [z] at y; cases y)
  cases rd with
  | none => exact PySem.P.repr_of_none ⟨.str _, H, I.tok _, ⟨_, rfl⟩, q⟩
  | bool b => exact PySem.P.repr_of_bool ⟨.str _, H, I.tok _, ⟨_, rfl⟩, q⟩
  | int i t => exact PySem.P.repr_of_int (by simpa only [PyData.showable, decide_eq_true_eq] using f1) ⟨.str _, H, I.tok _, ⟨_, rfl⟩, q⟩
  | str y t => exact PySem.P.repr_of_str ⟨.str _, H, I.tok _, ⟨_, rfl⟩, q⟩ f4
  | list a1 a2 a3 a4 => exact repr_of_reads' (.list a1 a2 a3 a4) f1 nm gd (by omega) (fun _ _ z => z) (fun h' t tk hk => ⟨.str _, H, I.kept hk, ⟨t, rfl⟩, q⟩) f4
  | tuple a1 a2 a3 a4 => exact repr_of_reads' (.tuple a1 a2 a3 a4) f1 nm gd (by omega) (fun _ _ z => z) (fun h' t tk hk => ⟨.str _, H, I.kept hk, ⟨t, rfl⟩, q⟩) f4
  | dict a1 a2 a3 a4 a5 => exact repr_of_reads' (.dict a1 a2 a3 a4 a5) f1 nm gd (by omega) (fun _ _ z => z) (fun h' t tk hk => ⟨.str _, H, I.kept hk, ⟨t, rfl⟩, q⟩) f4
def rEqU (K : PySem.W.Frag) : R2 := fun x y H Q => rEq x y H Q ∨ rEqD K x y H Q
def rNeU (K : PySem.W.Frag) : R2 := fun x y H Q => rNe x y H Q ∨ rNeD K x y H Q
theorem op_eqP (h : X.K = K) (hu : X.A.units + 64 < cLine) : OpR X (compareOp .Eq) (rEqU K) := h ▸ op_or op_eq (op_eqD hu)
theorem op_neP (h : X.K = K) (hu : X.A.units + 64 < cLine) : OpR X (compareOp .NotEq) (rNeU K) := h ▸ op_or op_ne (op_neD hu)
theorem call_isP (h : X.K = K) : CallR X (.builtin "isinstance") (rIsi K) := h ▸ call_isi
theorem cr_allP (h : X.K = K) (hc : X.calm = true) : CallR X (.builtin "all") (rAll K) := h ▸ cr_all hc
theorem cr_anyP (h : X.K = K) (hc : X.calm = true) : CallR X (.builtin "any") (rAny K) := h ▸ cr_any hc
theorem cr_sumP (h : X.K = K) (hc : X.calm = true) : CallR X (.builtin "sum") (rSum K) := h ▸ cr_sum hc
end
/-! ### what they do to values -/
def addF : PV → PV → Option PV
  | .int a, .int b => some (.int (a + b))
  | .str a, .str b => if a.length + b.length ≤ 100000 then some (.str (a ++ b)) else none
  | .lst as, .lst bs => if as.length + bs.length ≤ 100000 then some (.lst (as ++ bs)) else none
  | _, _ => none
def addL : PV → PV → Option (List PV)
  | .lst as, .lst bs => if as.length + bs.length ≤ 100000 then some (as ++ bs) else none
  | _, _ => none
def subF : PV → PV → Option PV
  | .int a, .int b => some (.int (a - b))
  | _, _ => none
def mulF : PV → PV → Option PV
  | .int a, .int b => if a.natAbs.log2 + b.natAbs.log2 < 1000000 then some (.int (a * b)) else none
  | _, _ => none
def modF : PV → PV → Option PV
  | .int a, .int b => if b ≠ 0 then some (.int (a.fmod b)) else none
  | _, _ => none
def fdivF : PV → PV → Option PV
  | .int a, .int b => if b ≠ 0 ∧ b.natAbs.log2 < 9000 then some (.int (a.fdiv b)) else none
  | _, _ => none
def powF : PV → PV → Option PV
  | .int a, .int b => if 0 ≤ b ∧ b ≤ 1000000 ∧ a.natAbs < 2 ^ 64 then some (.int (a ^ b.toNat)) else none
  | _, _ => none
def ltF : PV → PV → Option PV
  | .int a, .int b => some (.bl (decide (a < b)))
  | _, _ => none
def leF : PV → PV → Option PV
  | .int a, .int b => some (.bl (decide (a ≤ b)))
  | _, _ => none
def gtF : PV → PV → Option PV
  | .int a, .int b => some (.bl (decide (a > b)))
  | _, _ => none
def geF : PV → PV → Option PV
  | .int a, .int b => some (.bl (decide (a ≥ b)))
  | _, _ => none
def eqD (a b : PV) : Option PV := match toD a, toD b with
  | some d, some e => if SeqAt.shaped d = true ∧ SeqAt.shaped e = true ∧ d.hasDict = false ∧ e.hasDict = false then some (.bl (PyData.eqv d e)) else none
  | _, _ => none
def eqF : PV → PV → Option PV
  | .str a, .str b => some (.bl (decide (a = b)))
  | a, b => eqD a b
def neD (a b : PV) : Option PV := match toD a, toD b with
  | some d, some e => if SeqAt.shaped d = true ∧ SeqAt.shaped e = true ∧ d.hasDict = false ∧ e.hasDict = false then some (.bl (!PyData.eqv d e)) else none
  | _, _ => none
def neF : PV → PV → Option PV
  | .str a, .str b => some (.bl (!decide (a = b)))
  | a, b => neD a b
def isNone : PV → Bool
  | .non => true
  | _ => false
def isHole : PV → Bool
  | .hole => true
  | _ => false
def isF (a b : PV) : Option PV := match b with
  | .non => if isHole a = true then none else some (.bl (isNone a))
  | _ => none
def notF (a b : PV) : Option PV := match b with
  | .non => if isHole a = true then none else some (.bl (!isNone a))
  | _ => none
def negF : PV → Option PV
  | .int a => some (.int (-a))
  | _ => none
/-- an item by its number, from the end where it is below nought -/
def atP (as : List PV) (i : Int) : Option PV := atI as i
def ixF : PV → PV → Option PV
  | .lst as, .int i => atI as i
  | .tup as, .int i => atI as i
  | .str z, .int i => if z.length ≤ 100000 then (atI z.cps.toList i).map fun c => .str ⟨#[c]⟩ else none
  | _, _ => none
section
variable {K : PySem.W.Frag} {Z : WX} {W0 W1 W2 W3 : Wd} {σ : L2.St} {ρ : List Sl} {i j : Nat} {ta tb tc te : TE} {tt t1 t2 : TT} {tA tr : TA} {ma mb mc m : W PV} {ms : W (List PV)} {r r1 r2 : R2}
theorem ow_i0 {g : Int → Int → V} {g' : Int → Int → PV} {f : PV → PV → Option PV} (hf : ∀ a b c, f a b = some c → ∃ i j, a = .int i ∧ b = .int j ∧ c = g' i j) (hg : ∀ i j H, (mp K (g' i j)).p H (g i j)) : OpW K (rI0 g) f := fun a b c e R H x y _ px py C k => by
  obtain ⟨i, j, rfl, rfl, rfl⟩ := hf a b c e
  cases px
  cases py
  exact ⟨i, j, rfl, rfl, k _ (hg i j R)⟩
theorem ow_i {P : Int → Int → Prop} {g : Int → Int → V} {g' : Int → Int → PV} {f : PV → PV → Option PV} (hf : ∀ a b c, f a b = some c → ∃ i j, a = .int i ∧ b = .int j ∧ P i j ∧ c = g' i j) (hg : ∀ i j H, (mp K (g' i j)).p H (g i j)) : OpW K (rI P g) f := fun a b c e R H x y _ px py C k => by
  obtain ⟨i, j, rfl, rfl, hp, rfl⟩ := hf a b c e
  cases px
  cases py
  exact ⟨i, j, rfl, rfl, hp, k _ (hg i j R)⟩
theorem two_int {f : PV → PV → Option PV} {g : Int → Int → PV} (h : ∀ a b, f a b = match a, b with | .int i, .int j => some (g i j) | _, _ => none) : ∀ a b c, f a b = some c → ∃ i j, a = .int i ∧ b = .int j ∧ c = g i j := fun a b c e => by
  rw [h] at e
  split at e
  · cases e
    exact ⟨_, _, rfl, rfl, rfl⟩
  · cases e
theorem two_intP {f : PV → PV → Option PV} {P : Int → Int → Prop} [∀ i j, Decidable (P i j)] {g : Int → Int → PV} (h : ∀ a b, f a b = match a, b with | .int i, .int j => if P i j then some (g i j) else none | _, _ => none) : ∀ a b c, f a b = some c → ∃ i j, a = .int i ∧ b = .int j ∧ P i j ∧ c = g i j := fun a b c e => by
  rw [h] at e
  split at e
  · split at e
    · rename_i hp
      cases e
      exact ⟨_, _, rfl, rfl, hp, rfl⟩
    · cases e
  · cases e
theorem ow_sub : OpW K (rI0 fun i j => .int (i - j)) subF := ow_i0 (g' := fun i j => .int (i - j)) (two_int fun a b => by cases a <;> cases b <;> rfl) fun _ _ _ => rfl
theorem ow_lt : OpW K (rI0 fun i j => .bl (decide (i < j))) ltF := ow_i0 (g' := fun i j => .bl (decide (i < j))) (two_int fun a b => by cases a <;> cases b <;> rfl) fun _ _ _ => rfl
theorem ow_le : OpW K (rI0 fun i j => .bl (decide (i ≤ j))) leF := ow_i0 (g' := fun i j => .bl (decide (i ≤ j))) (two_int fun a b => by cases a <;> cases b <;> rfl) fun _ _ _ => rfl
theorem ow_gt : OpW K (rI0 fun i j => .bl (decide (i > j))) gtF := ow_i0 (g' := fun i j => .bl (decide (i > j))) (two_int fun a b => by cases a <;> cases b <;> rfl) fun _ _ _ => rfl
theorem ow_ge : OpW K (rI0 fun i j => .bl (decide (i ≥ j))) geF := ow_i0 (g' := fun i j => .bl (decide (i ≥ j))) (two_int fun a b => by cases a <;> cases b <;> rfl) fun _ _ _ => rfl
theorem ow_mul : OpW K (rI CMulW fun i j => .int (i * j)) mulF := ow_i (g' := fun i j => .int (i * j)) (two_intP (P := fun i j => i.natAbs.log2 + j.natAbs.log2 < 1000000) fun a b => by cases a <;> cases b <;> rfl) fun _ _ _ => rfl
theorem ow_mod : OpW K (rI (fun _ j => j ≠ 0) fun i j => .int (i.fmod j)) modF := ow_i (g' := fun i j => .int (i.fmod j)) (two_intP (P := fun _ j => j ≠ 0) fun a b => by cases a <;> cases b <;> rfl) fun _ _ _ => rfl
theorem ow_fdiv : OpW K (rI CDivX fun i j => .int (i.fdiv j)) fdivF := ow_i (g' := fun i j => .int (i.fdiv j)) (two_intP (P := fun _ j => j ≠ 0 ∧ j.natAbs.log2 < 9000) fun a b => by cases a <;> cases b <;> rfl) fun _ _ _ => rfl
theorem ow_pow : OpW K (rI CPow fun i j => .int (i ^ j.toNat)) powF := ow_i (g' := fun i j => .int (i ^ j.toNat)) (two_intP (P := fun i j => 0 ≤ j ∧ j ≤ 1000000 ∧ i.natAbs < 2 ^ 64) fun a b => by cases a <;> cases b <;> rfl) fun _ _ _ => rfl
theorem ow_eq : OpW K (rEqU K) eqF := fun a b c e R H x y s px py C k => by
  unfold eqF at e
  split at e
  · cases e
    cases px
    cases py
    exact .inl ⟨rfl, k _ (by simp; rfl)⟩
  · unfold eqD at e
    split at e
    · rename_i d1 d2 h1 h2
      split at e
      · rename_i hs
        cases e
        obtain ⟨s1, s2, n1, n2⟩ := hs
        exact .inr ⟨d1, d2, dp_of a d1 x h1 n1 (MP.mono _ s px), dp_of b d2 y h2 n2 (MP.mono _ s py), s1, s2, k _ rfl⟩
      · cases e
    · cases e
theorem ow_ne : OpW K (rNeU K) neF := fun a b c e R H x y s px py C k => by
  unfold neF at e
  split at e
  · cases e
    cases px
    cases py
    exact .inl ⟨rfl, k _ (by simp; rfl)⟩
  · unfold neD at e
    split at e
    · rename_i d1 d2 h1 h2
      split at e
      · rename_i hs
        cases e
        obtain ⟨s1, s2, n1, n2⟩ := hs
        exact .inr ⟨d1, d2, dp_of a d1 x h1 n1 (MP.mono _ s px), dp_of b d2 y h2 n2 (MP.mono _ s py), s1, s2, k _ rfl⟩
      · cases e
    · cases e
theorem none_p {a : PV} {H : Hp} {v : V} (h : a ≠ .hole) (p : (mp K a).p H v) : decide (v = .non) = isNone a := by
  cases a with
  | non => cases p; rfl
  | bl b => cases p; rfl
  | int i => cases p; rfl
  | str z => cases p; rfl
  | lst as => obtain ⟨q, vs, rfl, _⟩ := p; rfl
  | tup as => obtain ⟨q, vs, rfl, _⟩ := p; rfl
  | dic ks as => obtain ⟨q, vs, rfl, _⟩ := p; rfl
  | dit ks as => obtain ⟨q, vs, rfl, _⟩ := p; rfl
  | ins c ns as => obtain ⟨q, dx, vs, rfl, _⟩ := p; rfl
  | exc c ns as => obtain ⟨q, d, rfl, _⟩ := p; rfl
  | cls c => cases p; rfl
  | scr ns => obtain ⟨q, rfl, _⟩ := p; rfl
  | ptr p => cases p; rfl
  | hole => cases h rfl
theorem ow_is : OpW K (fun x y H Q => y = .non ∧ Q (.bl (decide (x = .non))) H) isF := fun a b c e R H x y s px py C k => by
  unfold isF at e
  split at e
  · split at e
    · cases e
    · rename_i hh
      cases e
      cases py
      exact ⟨rfl, k _ (by rw [none_p (fun z => hh (by rw [z]; rfl)) px]; rfl)⟩
  · cases e
theorem ow_isnot : OpW K (fun x y H Q => y = .non ∧ Q (.bl (!decide (x = .non))) H) notF := fun a b c e R H x y s px py C k => by
  unfold notF at e
  split at e
  · split at e
    · cases e
    · rename_i hh
      cases e
      cases py
      exact ⟨rfl, k _ (by rw [none_p (fun z => hh (by rw [z]; rfl)) px]; rfl)⟩
  · cases e
theorem uw_neg : UnW K (rU fun i => .int (-i)) negF := fun a c e R H x s px C k => by
  match a, e with
  | .int i, e =>
    cases e
    cases px
    exact ⟨i, rfl, k _ rfl⟩
theorem atI_al {H : Hp} {vs : List V} {as : List PV} {i : Int} {c : PV} (al : Al H vs (mps K as)) (h : atI as i = some c) : ∃ v, atI vs i = some v ∧ (mp K c).p H v := by
  unfold atI at h ⊢
  have ll : vs.length = as.length := by rw [al.length, mps_len]
  rw [ll]
  cases hn : ixN as.length i with
  | none => rw [hn] at h; cases h
  | some n =>
    rw [hn] at h
    have h' : as[n]? = some c := h
    obtain ⟨v, hv, pv⟩ := al.get (mps_get h')
    exact ⟨v, hv, pv⟩
theorem ow_ix : OpW K (rIxU K) ixF := fun a b c e R H x y s px py C k => by
  match a, b, e with
  | .lst as, .int i, e =>
    obtain ⟨p, vs, rfl, hp, al⟩ := px
    cases py
    obtain ⟨v, hv, pv⟩ := atI_al al e
    exact .inl ⟨p, vs, i, v, rfl, rfl, SqL.of (s _ _ hp), hv, k v pv⟩
  | .tup as, .int i, e =>
    obtain ⟨p, vs, rfl, hp, al⟩ := px
    cases py
    obtain ⟨v, hv, pv⟩ := atI_al al e
    exact .inr (.inl ⟨p, vs, i, v, rfl, rfl, ex_t s hp, hv, k v pv⟩)
  | .str z, .int i, e =>
    simp only [ixF] at e
    split at e
    · rename_i hz
      cases px
      cases py
      cases h : atI z.cps.toList i with
      | none => rw [h] at e; cases e
      | some n =>
        rw [h] at e
        cases e
        exact .inr (.inr ⟨z, i, n, rfl, rfl, sz_of hz, h, k _ rfl⟩)
    · cases e
/-! + -/
theorem add_core (ha : EP K Z ρ ta ma) (hb : EP K Z ρ tb mb) {Wa : Wd} (e : En K W0 Wa σ ρ) {Q : VK} {Ψ : PV ⊕ List PV → Sto → Prop} {Ξ : XV → Sto → Prop} {Φ : PV → PV → Sto → Prop} (hm : ma Wa.s (fun a S => mb S (fun b S => Φ a b S) Ξ) Ξ) (hΦ : ∀ a b S, Φ a b S → match a, b with | .lst as, .lst bs => as.length + bs.length ≤ 100000 ∧ Ψ (.inr (as ++ bs)) S | a, b => ∃ c, addF a b = some c ∧ Ψ (.inl c) S)
    (k : ∀ c v W2, Go K Wa W2 → (mp K c).p W2.r v → Ψ (.inl c) W2.s → Q v W2.h) (kl : ∀ cs v W2, Go K Wa W2 → ROk K Wa W2 v cs → Ψ (.inr cs) W2.s → Q v W2.h) (kx : KX K Z σ Wa Ξ) : tOp rAddU ta tb σ Wa.h Q :=
  ha W0 Wa σ e _ _ _ hm (fun a x W1 g1 px h2 => hb W0 W1 σ (e.go g1) _ _ _ h2 (fun b y W2 g2 py z => by
    have px := MP.mono _ g2.le.r px
    have G := g1.trans g2
    have z := hΦ a b _ z
    split at z
    · rename_i as bs _ _
      obtain ⟨p, vs, rfl, hp, al⟩ := px
      obtain ⟨q, us, rfl, hq, al2⟩ := py
      refine .inr (.inr ⟨p, q, vs, us, rfl, rfl, g2.ok.sub _ _ hp, g2.ok.sub _ _ hq, sz_of (by rw [al.length, al2.length, mps_len, mps_len]; exact z.1), fun l hl => ?_⟩)
      exact o_new (Ψ := fun cs S => Ψ (.inr cs) S) kl G hl (by rw [mps_app]; exact al.app al2) z.2
    · obtain ⟨c, ec, z⟩ := z
      match a, b, ec with
      | .int i, .int j, ec =>
        cases ec
        cases px
        cases py
        exact .inl ⟨i, j, rfl, rfl, k (.int (i + j)) _ W2 G rfl z⟩
      | .str i, .str j, ec =>
        simp only [addF] at ec
        split at ec
        · rename_i hl
          cases ec
          cases px
          cases py
          exact .inr (.inl ⟨i, j, rfl, rfl, sz_of hl, k (.str (i ++ j)) _ W2 G rfl z⟩)
        · cases ec
      | .lst as, .lst bs, ec => rename_i hn; exact (hn as bs rfl rfl).elim) (kx.go g1)) kx
theorem p_add (ha : EP K Z ρ ta ma) (hb : EP K Z ρ tb mb) : EP K Z ρ (tOp rAddU ta tb) (op2 addF ma mb) := fun W0 W σ e Q Ψ Ξ hm k kx =>
  add_core (Ψ := fun s S => match s with | .inl c => Ψ c S | .inr cs => Ψ (.lst cs) S) ha hb e hm (fun a b S z => by
    obtain ⟨c, ec, z⟩ := z
    split
    · simp only [addF] at ec
      split at ec
      · rename_i hl
        cases ec
        exact ⟨hl, z⟩
      · cases ec
    · exact ⟨c, ec, z⟩) (fun c v W2 g p z => k c v W2 g p z) (fun cs v W2 g r z => by
      obtain ⟨W3, e1, e2, _, g3, p3⟩ := settle g r
      rw [← e1]
      exact k (.lst cs) v W3 g3 p3 (by rw [e2]; exact z)) kx
def addO (ma mb : W PV) : W (List PV) := bind ma fun a => bind mb fun b => lift (addL a b)
theorem o_add (ha : EP K Z ρ ta ma) (hb : EP K Z ρ tb mb) : EO K Z ρ (tOp rAddU ta tb) (addO ma mb) := fun W0 W σ e Q Ψ Ξ hm k kx =>
  add_core (Ψ := fun s S => match s with | .inl _ => False | .inr cs => Ψ cs S) ha hb e hm (fun a b S z => by
    obtain ⟨c, ec, z⟩ := z
    split
    · simp only [addL] at ec
      split at ec
      · rename_i hl
        cases ec
        exact ⟨hl, z⟩
      · cases ec
    · rename_i hn
      match a, b, ec with
      | .lst as, .lst bs, ec => exact (hn as bs rfl rfl).elim) (fun c v W2 g p z => z.elim) (fun cs v W2 g r z => k cs v W2 g r z) kx
/-! calls of built-ins -/
def lenF : List PV → Option PV
  | [.lst as] => some (.int (as.length : Int))
  | [.tup as] => some (.int (as.length : Int))
  | [.str z] => if z.length ≤ 100000 then some (.int (z.length : Int)) else none
  | [.scr ns] => some (.int (ns.length : Int))
  | _ => none
theorem cw_len : CbW K (rLenU K) lenF := fun as c e R H vs s al C k => by
  match as, e with
  | [.lst as], e =>
    cases e
    obtain ⟨v, rfl, p, us, rfl, hp, a2⟩ := Al.inv1 al
    exact .inl ⟨p, us, rfl, .inl (SqL.of (s _ _ hp)), k _ (by rw [a2.length, mps_len]; rfl)⟩
  | [.tup as], e =>
    cases e
    obtain ⟨v, rfl, p, us, rfl, hp, a2⟩ := Al.inv1 al
    exact .inl ⟨p, us, rfl, .inr (ex_t s hp), k _ (by rw [a2.length, mps_len]; rfl)⟩
  | [.scr ns], e =>
    cases e
    obtain ⟨v, rfl, p, rfl, hp⟩ := Al.inv1 al
    exact .inl ⟨p, _, rfl, .inl (ex_l s hp), k _ (by rw [List.length_map]; rfl)⟩
  | [.str z], e =>
    simp only [lenF] at e
    split at e
    · rename_i hl
      cases e
      obtain ⟨v, rfl, p⟩ := Al.inv1 al
      cases p
      exact .inr ⟨z, rfl, sz_of hl, k _ rfl⟩
    · cases e
def repF : List PV → Option PV
  | [a] => match toD a with
    | some d => if FineP a d then some (.str d.shown) else none
    | none => none
  | _ => none
theorem cw_rep : CbW K (rRepP K) repF := fun as c e R H vs s al C k => by
  match as, e with
  | [a], e =>
    simp only [repF] at e
    split at e
    · rename_i d hd
      split at e
      · rename_i hf
        cases e
        obtain ⟨v, rfl, p⟩ := Al.inv1 al
        exact ⟨v, a, d, rfl, MP.mono _ s p, hd, hf, k _ rfl⟩
      · cases e
    · cases e
def max2F : List PV → Option PV
  | [.int a, .int b] => some (.int (if b > a then b else a))
  | _ => none
def min2F : List PV → Option PV
  | [.int a, .int b] => some (.int (if b < a then b else a))
  | _ => none
def absF : List PV → Option PV
  | [.int a] => some (.int (if a < 0 then -a else a))
  | _ => none
def intF : List PV → Option PV
  | [.int a] => some (.int a)
  | [.bl b] => some (.int (if b = true then 1 else 0))
  | _ => none
theorem cw_max2 : CbW K (fun xs H Q => ∃ i j, xs = [.int i, .int j] ∧ Q (.int (if j > i then j else i)) H) max2F := fun as c e R H vs s al C k => by
  match as, e with
  | [.int a, .int b], e =>
    cases e
    obtain ⟨v, w, rfl, p, q⟩ := Al.inv2 al
    cases p
    cases q
    exact ⟨a, b, rfl, k _ rfl⟩
theorem cw_min2 : CbW K (fun xs H Q => ∃ i j, xs = [.int i, .int j] ∧ Q (.int (if j < i then j else i)) H) min2F := fun as c e R H vs s al C k => by
  match as, e with
  | [.int a, .int b], e =>
    cases e
    obtain ⟨v, w, rfl, p, q⟩ := Al.inv2 al
    cases p
    cases q
    exact ⟨a, b, rfl, k _ rfl⟩
theorem cw_abs : CbW K (fun xs H Q => ∃ i, xs = [.int i] ∧ Q (.int (if i < 0 then -i else i)) H) absF := fun as c e R H vs s al C k => by
  match as, e with
  | [.int a], e =>
    cases e
    obtain ⟨v, rfl, p⟩ := Al.inv1 al
    cases p
    exact ⟨a, rfl, k _ rfl⟩
theorem cw_int : CbW K (fun xs H Q => (∃ i, xs = [.int i] ∧ Q (.int i) H) ∨ ∃ k, xs = [.bl k] ∧ Q (.int (if k then 1 else 0)) H) intF := fun as c e R H vs s al C k => by
  match as, e with
  | [.int a], e =>
    cases e
    obtain ⟨v, rfl, p⟩ := Al.inv1 al
    cases p
    exact .inl ⟨a, rfl, k _ rfl⟩
  | [.bl b], e =>
    cases e
    obtain ⟨v, rfl, p⟩ := Al.inv1 al
    cases p
    exact .inr ⟨b, rfl, k _ rfl⟩
def asBs : List PV → Option (List Bool)
  | [] => some []
  | .bl b :: as => (asBs as).map (b :: ·)
  | _ :: _ => none
def asIs : List PV → Option (List Int)
  | [] => some []
  | .int b :: as => (asIs as).map (b :: ·)
  | _ :: _ => none
theorem asBs_al {H : Hp} : ∀ {as : List PV} {bs : List Bool} {vs : List V}, asBs as = some bs → Al H vs (mps K as) → vs = bs.map V.bl
  | [], _, _, h, .nil => by cases h; rfl
  | .bl b :: as, bs, _, h, .cons p t => by
    simp only [asBs] at h
    cases c : asBs as with
    | none => rw [c] at h; cases h
    | some cs =>
      rw [c] at h
      cases h
      cases p
      rw [asBs_al c t]
      rfl
theorem asIs_al {H : Hp} : ∀ {as : List PV} {bs : List Int} {vs : List V}, asIs as = some bs → Al H vs (mps K as) → vs = bs.map V.int
  | [], _, _, h, .nil => by cases h; rfl
  | .int b :: as, bs, _, h, .cons p t => by
    simp only [asIs] at h
    cases c : asIs as with
    | none => rw [c] at h; cases h
    | some cs =>
      rw [c] at h
      cases h
      cases p
      rw [asIs_al c t]
      rfl
def allF : List PV → Option PV
  | [.lst as] => (asBs as).map fun bs => .bl (bs.all id)
  | _ => none
def anyF : List PV → Option PV
  | [.lst as] => (asBs as).map fun bs => .bl (bs.any id)
  | _ => none
def sumF1 : List PV → Option PV
  | [.lst as] => (asIs as).map fun bs => .int bs.sum
  | _ => none
theorem cw_all : CbW K (rAll K) allF := fun as c e R H vs s al C k => by
  match as, e with
  | [.lst as], e =>
    simp only [allF] at e
    cases c : asBs as with
    | none => rw [c] at e; cases e
    | some bs =>
      rw [c] at e
      cases e
      obtain ⟨v, rfl, p, us, rfl, hp, a2⟩ := Al.inv1 al
      rw [asBs_al c a2] at hp
      exact ⟨p, bs, rfl, SqL.of (s _ _ hp), k _ rfl⟩
theorem cw_any : CbW K (rAny K) anyF := fun as c e R H vs s al C k => by
  match as, e with
  | [.lst as], e =>
    simp only [anyF] at e
    cases c : asBs as with
    | none => rw [c] at e; cases e
    | some bs =>
      rw [c] at e
      cases e
      obtain ⟨v, rfl, p, us, rfl, hp, a2⟩ := Al.inv1 al
      rw [asBs_al c a2] at hp
      exact ⟨p, bs, rfl, SqL.of (s _ _ hp), k _ rfl⟩
theorem cw_sum : CbW K (rSum K) sumF1 := fun as c e R H vs s al C k => by
  match as, e with
  | [.lst as], e =>
    simp only [sumF1] at e
    cases c : asIs as with
    | none => rw [c] at e; cases e
    | some bs =>
      rw [c] at e
      cases e
      obtain ⟨v, rfl, p, us, rfl, hp, a2⟩ := Al.inv1 al
      rw [asIs_al c a2] at hp
      exact ⟨p, bs, rfl, SqL.of (s _ _ hp), k _ rfl⟩
def listF : List PV → Option (List PV)
  | [.lst as] => some as
  | [.tup as] => some as
  | _ => none
theorem cm_list : CbM K (rListS K) listF := fun as cs e R H vs s al C k => by
  match as, e with
  | [.lst as], e =>
    cases e
    obtain ⟨v, rfl, p, us, rfl, hp, a2⟩ := Al.inv1 al
    exact ⟨p, us, rfl, .inl (SqL.of (s _ _ hp)), fun l hl => k l us hl a2⟩
  | [.tup as], e =>
    cases e
    obtain ⟨v, rfl, p, us, rfl, hp, a2⟩ := Al.inv1 al
    exact ⟨p, us, rfl, .inr (ex_t s hp), fun l hl => k l us hl a2⟩
end
end SL

namespace SL
open PySem PySem.Spec PyProof.Rows L2 Evl NF WL
/-! ### kinds -/
def tyN : PV → Option String
  | .non => some "NoneType"
  | .bl _ => some "bool"
  | .int _ => some "int"
  | .str _ => some "str"
  | .lst _ => some "list"
  | .tup _ => some "tuple"
  | .dic _ _ => some "dict"
  | .dit _ _ => some "dict"
  | _ => none
/-- what isinstance asks of a class of one's own -/
structure InsC (K : PySem.W.Frag) (c : Addr) : Prop where
  cl : Cls K c
  t1 : PySem.W.findIn K (.ref c) "__class__" = some (some (.builtin "object.__class__"))
  t2 : PySem.W.specialIn K (.builtin "object.__class__") "__get__" = some (some (.builtin "getset_descriptor.__get__"))
  t3 : PySem.W.takesIn K (.builtin "object.__class__") = some true
  t4 : PySem.W.mroIn K c (.type "object") = some true
section
variable {K : PySem.W.Frag} {Z : WX} {ρ : List Sl} {ta : TE} {ma : W PV}
theorem ty_lstP {H : Hp} {p : Addr} {xs : List V} (h : H p = some (.lst xs)) : TyX K H (.ref p) (.type "list") := .base (.lst h)
theorem tyx_of {R H : Hp} {v : V} {a : PV} {n : String} (h : tyN a = some n) (s : Ex R H) (p : (mp K a).p R v) : TyX K H v (.type n) := by
  cases a with
  | non => cases h; cases p; exact .base .non
  | bl b => cases h; cases p; exact .base (.bl b)
  | int i => cases h; cases p; exact .base (.int i)
  | str z => cases h; cases p; exact .base (.str z)
  | lst as =>
    cases h
    obtain ⟨q, vs, rfl, h1, _⟩ := p
    exact ty_lstP (s _ _ h1)
  | tup as =>
    cases h
    obtain ⟨q, vs, rfl, h1, _⟩ := p
    exact ty_tup (ex_t s h1)
  | dic ks as =>
    cases h
    obtain ⟨q, vs, rfl, h1, _⟩ := p
    exact .base (.dK (s _ _ h1))
  | dit ks as =>
    cases h
    obtain ⟨q, vs, rfl, h1, _⟩ := p
    exact .base (.dT (s _ _ h1))
  | ins c ns as => cases h
  | exc c ns as => cases h
  | cls c => cases h
  | scr ns => cases h
  | ptr p => cases h
  | hole => cases h
/-- isinstance(x, c): b of what is of a built-in kind, tab of classes of one's own -/
def isiF (b : String → Option Bool) (tab : List (Addr × Bool)) : PV → Option PV
  | .ins c _ _ => (tab.lookup c).map .bl
  | a => match tyN a with
    | some n => (b n).map .bl
    | none => none
def isiB (c : String) : PV → Option PV := isiF (fun n => kitB n c) []
def TabOk (K : PySem.W.Frag) (u : Value) (b : String → Option Bool) (tab : List (Addr × Bool)) : Prop := (∀ n r, b n = some r → PySem.W.kitOne K (.type n) u = some r) ∧ ∀ x ∈ tab, InsC K x.1 ∧ PySem.W.kitOne K (.ref x.1) u = some x.2
theorem lookup_mem {tab : List (Addr × Bool)} {c : Addr} {b : Bool} (h : tab.lookup c = some b) : (c, b) ∈ tab := by
  induction tab with
  | nil => cases h
  | cons x t ih =>
    obtain ⟨d, e⟩ := x
    rw [List.lookup_cons] at h
    split at h
    · rename_i he
      cases h
      rw [beq_iff_eq] at he
      rw [he]
      exact List.mem_cons_self ..
    · exact List.mem_cons_of_mem _ (ih h)
theorem p_isi {cv : V} {u : Value} {b : String → Option Bool} {tab : List (Addr × Bool)} (hc : ClsV cv u) (ht : TabOk K u b tab) (ha : EP K Z ρ ta ma) : EP K Z ρ (tCB (rIsi K) (tCons ta (tCons (tC cv) tNil))) (op1 (isiF b tab) ma) := fun W0 W σ e Q Ψ Ξ hm k kx =>
  ha W0 W σ e _ _ _ hm (fun a v W1 g p z => by
    obtain ⟨r, er, z⟩ := z
    have dat : ∀ {n : String}, tyN a = some n → (b n).map PV.bl = some r → ∃ (x c : V) (t u : Value) (b : Bool), [v, cv] = [x, c] ∧ ClsV c u ∧ TyX K W1.h x t ∧ PySem.W.kitOne K t u = some b ∧ Q (.bl b) W1.h := fun {n} hn er => by
      cases hk : b n with
      | none => rw [hk] at er; cases er
      | some d =>
        rw [hk] at er
        cases er
        exact ⟨v, cv, .type n, u, d, rfl, hc, tyx_of hn g.ok.sub p, ht.1 n d hk, k (.bl d) _ W1 g rfl z⟩
    unfold isiF at er
    split at er
    · rename_i c ns as
      cases hl : tab.lookup c with
      | none => rw [hl] at er; cases er
      | some d =>
        rw [hl] at er
        cases er
        obtain ⟨h1, h2⟩ := ht.2 _ (lookup_mem hl)
        obtain ⟨q, dx, vs, rfl, h3, _⟩ := p
        exact ⟨_, cv, .ref c, u, d, rfl, hc, .base (.ins (g.ok.sub _ _ h3) h1.cl h1.t1 h1.t2 h1.t3 h1.t4), h2, k (.bl d) _ W1 g rfl z⟩
    · split at er
      · rename_i n hn
        exact dat hn er
      · cases er) kx
theorem tab_b {c : String} : TabOk K (.type c) (fun n => kitB n c) [] := ⟨fun n r h => kit_ty h, fun x hx => by cases hx⟩
end
theorem isi_int (a : PV) (h : tyN a ≠ none) : isiB "int" a = some (.bl (match a with | .int _ => true | .bl _ => true | _ => false)) := by
  have h1 : kitB "NoneType" "int" = some false := by decide +kernel
  have h2 : kitB "bool" "int" = some true := by decide +kernel
  have h3 : kitB "int" "int" = some true := by decide +kernel
  have h4 : kitB "str" "int" = some false := by decide +kernel
  have h5 : kitB "list" "int" = some false := by decide +kernel
  have h6 : kitB "tuple" "int" = some false := by decide +kernel
  have h7 : kitB "dict" "int" = some false := by decide +kernel
  cases a <;> simp only [isiB, isiF, tyN, h1, h2, h3, h4, h5, h6, h7, Option.map] <;> first | rfl | exact absurd rfl h
theorem isi_bool (a : PV) (h : tyN a ≠ none) : isiB "bool" a = some (.bl (match a with | .bl _ => true | _ => false)) := by
  have h1 : kitB "NoneType" "bool" = some false := by decide +kernel
  have h2 : kitB "bool" "bool" = some true := by decide +kernel
  have h3 : kitB "int" "bool" = some false := by decide +kernel
  have h4 : kitB "str" "bool" = some false := by decide +kernel
  have h5 : kitB "list" "bool" = some false := by decide +kernel
  have h6 : kitB "tuple" "bool" = some false := by decide +kernel
  have h7 : kitB "dict" "bool" = some false := by decide +kernel
  cases a <;> simp only [isiB, isiF, tyN, h1, h2, h3, h4, h5, h6, h7, Option.map] <;> first | rfl | exact absurd rfl h
theorem isi_str (a : PV) (h : tyN a ≠ none) : isiB "str" a = some (.bl (match a with | .str _ => true | _ => false)) := by
  have h1 : kitB "NoneType" "str" = some false := by decide +kernel
  have h2 : kitB "bool" "str" = some false := by decide +kernel
  have h3 : kitB "int" "str" = some false := by decide +kernel
  have h4 : kitB "str" "str" = some true := by decide +kernel
  have h5 : kitB "list" "str" = some false := by decide +kernel
  have h6 : kitB "tuple" "str" = some false := by decide +kernel
  have h7 : kitB "dict" "str" = some false := by decide +kernel
  cases a <;> simp only [isiB, isiF, tyN, h1, h2, h3, h4, h5, h6, h7, Option.map] <;> first | rfl | exact absurd rfl h
theorem isi_list (a : PV) (h : tyN a ≠ none) : isiB "list" a = some (.bl (match a with | .lst _ => true | _ => false)) := by
  have h1 : kitB "NoneType" "list" = some false := by decide +kernel
  have h2 : kitB "bool" "list" = some false := by decide +kernel
  have h3 : kitB "int" "list" = some false := by decide +kernel
  have h4 : kitB "str" "list" = some false := by decide +kernel
  have h5 : kitB "list" "list" = some true := by decide +kernel
  have h6 : kitB "tuple" "list" = some false := by decide +kernel
  have h7 : kitB "dict" "list" = some false := by decide +kernel
  cases a <;> simp only [isiB, isiF, tyN, h1, h2, h3, h4, h5, h6, h7, Option.map] <;> first | rfl | exact absurd rfl h
theorem isi_tuple (a : PV) (h : tyN a ≠ none) : isiB "tuple" a = some (.bl (match a with | .tup _ => true | _ => false)) := by
  have h1 : kitB "NoneType" "tuple" = some false := by decide +kernel
  have h2 : kitB "bool" "tuple" = some false := by decide +kernel
  have h3 : kitB "int" "tuple" = some false := by decide +kernel
  have h4 : kitB "str" "tuple" = some false := by decide +kernel
  have h5 : kitB "list" "tuple" = some false := by decide +kernel
  have h6 : kitB "tuple" "tuple" = some true := by decide +kernel
  have h7 : kitB "dict" "tuple" = some false := by decide +kernel
  cases a <;> simp only [isiB, isiF, tyN, h1, h2, h3, h4, h5, h6, h7, Option.map] <;> first | rfl | exact absurd rfl h

/-! ### an own list is read for a while: what comes of it holds no list -/
mutual
def light : PV → Bool
  | .non => true
  | .bl _ => true
  | .int _ => true
  | .str _ => true
  | .tup as => lights as
  | .cls _ => true
  | .ptr _ => true
  | .hole => true
  | _ => false
def lights : List PV → Bool
  | [] => true
  | a :: as => light a && lights as
end
mutual
theorem light_p {K : PySem.W.Frag} {R R2 : Hp} {p : Addr} {us : List V} (e : ∀ q o, q ≠ p → R q = some o → R2 q = some o) (hp : R p = some (.lst us)) : ∀ {a : PV} {v : V}, light a = true → (mp K a).p R v → (mp K a).p R2 v
  | .non, _, _, h => h
  | .bl _, _, _, h => h
  | .int _, _, _, h => h
  | .str _, _, _, h => h
  | .tup as, v, hl, h => by
    obtain ⟨q, vs, h1, h2, h3⟩ := h
    refine ⟨q, vs, h1, ?_, lights_p e hp hl h3⟩
    rcases h2 with h2 | ⟨o, xs, n, k⟩
    · exact .inl (h2.elim (fun h2 => .inl (e _ _ (fun z => by rw [z, hp] at h2; cases h2) h2)) fun ⟨o, h2⟩ => .inr ⟨o, e _ _ (fun z => by rw [z, hp] at h2; cases h2) h2⟩)
    · exact .inr ⟨o, xs, n, k⟩
  | .cls _, _, _, h => h
  | .ptr _, _, _, h => h
  | .hole, _, _, h => h
theorem lights_p {K : PySem.W.Frag} {R R2 : Hp} {p : Addr} {us : List V} (e : ∀ q o, q ≠ p → R q = some o → R2 q = some o) (hp : R p = some (.lst us)) : ∀ {as : List PV} {vs : List V}, lights as = true → Al R vs (mps K as) → Al R2 vs (mps K as)
  | [], _, _, .nil => .nil
  | a :: as, _, hl, .cons h t => by
    rw [lights, Bool.and_eq_true] at hl
    exact .cons (light_p e hp hl.1 h) (lights_p e hp hl.2 t)
end
end SL

namespace SL
open PySem PySem.Spec PyProof.Rows L2 Evl NF WL
/-! ### an own list is lent to an expression -/
def Cl.light : Cl → Bool
  | .lst as => lights as
  | .ins _ _ _ as => lights as
  | .dic _ as => lights as
  | .dit _ as => lights as
  | .bag2 => true
  | .bag3 => true
def LightS (S : Sto) : Prop := ∀ p c, S p = some c → c.light = true
def lend (m : W PV) : W PV := fun S Ψ _ => LightS S ∧ m S (fun a S2 => light a = true ∧ LightS S2 ∧ Ψ a S2) fun _ _ => False
def lendO (m : W (List PV)) : W (List PV) := fun S Ψ _ => LightS S ∧ m S (fun as S2 => lights as = true ∧ LightS S2 ∧ Ψ as S2) fun _ _ => False
def cutR (R : Hp) (p : Addr) : Hp := fun q => if q = p then none else R q
theorem cutR_ne {R : Hp} {p q : Addr} (h : q ≠ p) : cutR R p q = R q := by unfold cutR; rw [if_neg h]
theorem cutR_same {R : Hp} {p : Addr} : cutR R p p = none := by unfold cutR; rw [if_pos rfl]
section
variable {K : PySem.W.Frag} {Z : WX} {W0 Wa W1 W2 W3 : Wd} {σ : L2.St} {ρ : List Sl} {i j : Nat} {te : TE} {me : W PV} {ms : W (List PV)}
theorem Cl.ok.cut {R H : Hp} {p q : Addr} {us : List V} {c : Cl} (h : c.ok K R H q) (l : c.light = true) (hp : R p = some (.lst us)) : c.ok K (cutR R p) H q := by
  have e : ∀ q o, q ≠ p → R q = some o → cutR R p q = some o := fun q o n h => by rw [cutR_ne n]; exact h
  cases c with
  | lst as => obtain ⟨vs, h, a⟩ := h; exact ⟨vs, h, lights_p e hp l a⟩
  | ins c dx ns as => obtain ⟨vs, h, n, a⟩ := h; exact ⟨vs, h, n, lights_p e hp l a⟩
  | dic ks as => obtain ⟨vs, h, n, a⟩ := h; exact ⟨vs, h, n, lights_p e hp l a⟩
  | dit ks as => obtain ⟨vs, h, n, a⟩ := h; exact ⟨vs, h, n, lights_p e hp l a⟩
  | bag2 => exact h
  | bag3 => exact h
theorem unlend {p : Addr} {us : List V} (hr : Wa.r p = none) (g : Go K ⟨upd Wa.r p (.lst us), Wa.h, Wa.s⟩ W2) (hl : LightS W2.s) : Go K Wa ⟨cutR W2.r p, W2.h, W2.s⟩ := by
  have hp : W2.r p = some (.lst us) := g.le.r _ _ upd_same
  refine ⟨⟨fun q o hq => ?_, fun q c hc => ?_⟩, fun q o hq => ?_, g.le.h, fun q o hq t e ns => ?_, g.le.d, g.le.n⟩
  · have hq' : cutR W2.r p q = some o := hq
    by_cases c : q = p
    · subst c
      rw [cutR_same] at hq'
      cases hq'
    · rw [cutR_ne c] at hq'
      exact g.ok.sub _ _ hq'
  · have a := (g.ok.cell q c hc).1
    have b := (g.ok.cell q c hc).2
    refine ⟨?_, b.cut (hl q c hc) hp⟩
    show cutR W2.r p q = none
    by_cases e : q = p
    · subst e
      exact cutR_same
    · rw [cutR_ne e]
      exact a
  · have c : q ≠ p := fun z => by rw [z, hr] at hq; cases hq
    show cutR W2.r p q = some o
    rw [cutR_ne c]
    exact g.le.r _ _ (by show upd Wa.r p _ q = _; rw [upd_ne c]; exact hq)
  · show cutR W2.r p q = none
    by_cases c : q = p
    · subst c
      exact cutR_same
    · rw [cutR_ne c]
      exact g.le.w q o hq t (by show upd Wa.r p _ q = _; rw [upd_ne c]; exact e) ns
theorem lend_core {as : List PV} (e : En K W0 Wa σ ρ) (h : ρ[i]? = some (.own as)) : ∃ p us, Wa.r p = none ∧ En K W0 ⟨upd Wa.r p (.lst us), Wa.h, Wa.s⟩ σ (ρ.set i (.val (.lst as))) := by
  obtain ⟨u, h1, p, rfl, h2, vs, h3, h4, h5, h6⟩ := e.sl i _ h
  refine ⟨p, vs, h4, ?_⟩
  obtain ⟨W', e1, e2, e3, e4⟩ := e.calm h
  have ex : Ex Wa.r (upd Wa.r p (.lst vs)) := Ex.new h4
  have hi : i < ρ.length := (List.getElem?_eq_some_iff.mp h).1
  refine ⟨⟨fun q o (hq : upd Wa.r p (.lst vs) q = some o) => ?_, fun q c hc => ?_⟩, ⟨e.le.r.trans ex, e.le.h, fun q o hq t z ns => ?_, e.le.d, e.le.n⟩, e4.len, fun k s hk => ?_, e4.ne⟩
  · by_cases c : q = p
    · subst c
      rw [upd_same] at hq
      cases hq
      exact h3
    · rw [upd_ne c] at hq
      exact e.ok.sub _ _ hq
  · have nq : q ≠ p := fun z => by
      have hc' : Wa.s q = some c := hc
      rw [z, h5] at hc'
      cases hc'
    have a := (e.ok.cell q c hc).1
    have b := (e.ok.cell q c hc).2
    exact ⟨by show upd Wa.r p _ q = none; rw [upd_ne nq]; exact a, b.stay ex fun _ h => h⟩
  · have nq : q ≠ p := fun y => by rw [y, h2] at hq; cases hq
    show upd Wa.r p _ q = none
    rw [upd_ne nq]
    exact e.le.w _ _ hq t z ns
  · by_cases c : i = k
    · subst c
      rw [List.getElem?_set_self hi] at hk
      cases hk
      exact ⟨_, h1, _, rfl, p, vs, rfl, upd_same, h6.mono ex⟩
    · rw [List.getElem?_set_ne c] at hk
      obtain ⟨u, k1, k2⟩ := e.sl k s hk
      refine ⟨u, k1, ?_⟩
      cases s with
      | un => trivial
      | val a =>
        obtain ⟨v, rfl, h⟩ := k2
        exact ⟨v, rfl, MP.mono _ ex h⟩
      | own bs =>
        obtain ⟨q, rfl, q1, us, q2, q3, q4, q5⟩ := k2
        have nq : q ≠ p := fun z => by
          subst z
          exact e.ne i k _ _ q c h hk h1 k1
        exact ⟨q, rfl, q1, us, q2, by show upd Wa.r p _ q = none; rw [upd_ne nq]; exact q3, q4, q5.mono ex⟩
theorem p_lend {as : List PV} (h : ρ[i]? = some (.own as)) (he : EP K Z (ρ.set i (.val (.lst as))) te me) : EP K Z ρ te (lend me) := fun W0 W σ e Q Ψ Ξ hm k kx => by
  obtain ⟨p, us, hr, e2⟩ := lend_core e h
  refine he W0 _ σ e2 _ _ _ hm.2 (fun a v W2 g pv ⟨la, ls, z⟩ => ?_) kx0
  have hp : W2.r p = some (.lst us) := g.le.r _ _ upd_same
  exact k a v ⟨cutR W2.r p, W2.h, W2.s⟩ (unlend hr g ls) (light_p (R2 := cutR W2.r p) (fun q o n h => by rw [cutR_ne n]; exact h) hp la pv) z
theorem o_lend {as : List PV} (h : ρ[i]? = some (.own as)) (he : EO K Z (ρ.set i (.val (.lst as))) te ms) : EO K Z ρ te (lendO ms) := fun W0 W σ e Q Ψ Ξ hm k kx => by
  obtain ⟨p, us, hr, e2⟩ := lend_core e h
  refine he W0 _ σ e2 _ _ _ hm.2 (fun bs v W2 g r ⟨la, ls, z⟩ => ?_) kx0
  have hp : W2.r p = some (.lst us) := g.le.r _ _ upd_same
  obtain ⟨q, rfl, hq, vs, h1, h2, h3, h4⟩ := r
  refine k bs _ ⟨cutR W2.r p, W2.h, W2.s⟩ (unlend hr g ls) ⟨q, rfl, hq, vs, h1, ?_, h3, lights_p (R2 := cutR W2.r p) (fun q o n h => by rw [cutR_ne n]; exact h) hp la h4⟩ z
  show cutR W2.r p q = none
  by_cases c : q = p
  · subst c
    exact cutR_same
  · rw [cutR_ne c]
    exact h2
/-- list(range(n)) -/
def lrF : PV → Option (List PV)
  | .int n => if -(2 ^ 60) < n ∧ n ≤ 100000 then some ((List.range n.toNat).map fun i : Nat => .int (i : Int)) else none
  | _ => none
def lrO (ma : W PV) : W (List PV) := bind ma fun a => lift (lrF a)
theorem rgV_mps {H : Hp} (n : Int) : Al H (rgV 0 n) (mps K ((List.range n.toNat).map fun i : Nat => .int (i : Int))) := by
  have h : ∀ l : List Nat, Al H (l.map fun i : Nat => V.int (i : Int)) (mps K (l.map fun i : Nat => .int (i : Int))) := by
    intro l
    induction l with
    | nil => exact .nil
    | cons a l ih => exact .cons rfl ih
  have e : rgV 0 n = (List.range n.toNat).map fun i : Nat => V.int (i : Int) := by
    unfold rgV
    simp
  rw [e]
  exact h _
theorem o_lr (h : EP K Z ρ te me) : EO K Z ρ (tLstRg (tRg1 te)) (lrO me) := fun W0 W σ e Q Ψ Ξ hm k kx => h W0 W σ e _ _ _ hm (fun a v W2 g p z => by
  obtain ⟨as, ea, z⟩ := z
  match a, ea with
  | .int n, ea =>
    simp only [lrF] at ea
    split at ea
    · rename_i hn
      cases ea
      cases p
      refine ⟨n, rfl, ⟨by omega, by omega, by omega, by omega, ?_⟩, fun q hq => o_new k g hq (rgV_mps (K := K) n) z⟩
      have : 100000 ≤ sizeLine := by decide
      omega
    · cases ea) kx
theorem p_dic : EP K Z ρ tDNewK (ret (.dic [] [])) := fun W0 W σ e Q Ψ Ξ hm k kx p hp => k (.dic [] []) _ ⟨upd W.r p (.dK []), upd W.h p (.dK []), W.s⟩ (new_set e.ok hp) ⟨p, [], rfl, upd_same, rfl, .nil⟩ hm
end
/-! ### what never comes may be any code -/
theorem ps_any {X : Cx} {st : Stmt} : PS X st (fun _ _ _ => False) := ⟨fun _ _ _ _ _ _ h => h.elim⟩
theorem pe_any {X : Cx} {e : Expr} : PE X e (fun _ _ _ => False) := ⟨fun _ _ _ _ _ _ h => h.elim⟩
/-! ### the laws' bags -/
section
variable {P : Program} {w : World} {K : PySem.W.Frag} {mg : Str → Option Value} {base : Heap} {k : Nat} {f : Addr} {fd : FuncData} {ps : List Str}
def takeW (s n : PV) : W RV := fun S Ψ _ => ∃ (p : Addr) (k : Int), s = .ptr p ∧ S p = some .bag3 ∧ n = .int k ∧ 0 < k ∧ k.natAbs < 2 ^ 8000 ∧ ∀ d : Int, 0 ≤ d → d < k → Ψ (.v (.int d)) S
def outW (s n : PV) : W RV := fun S Ψ _ => ∃ (p : Addr) (k : Int), s = .ptr p ∧ S p = some .bag2 ∧ n = .int k ∧ 0 < k ∧ k < 2 ^ 60 ∧ ∀ d : Int, 0 ≤ d → d < k → Ψ (.v (.int d)) S
def begunW (scr at_ : PV) : W RV := fun S Ψ _ => ∃ (ns : List Int) (j : Nat), scr = .scr ns ∧ at_ = .int (j : Int) ∧ ns.length ≤ 1000 ∧ j ≤ 1000 ∧ ∀ (a b : Int) (c : Bool), Ψ (.o [.int a, .int b, .bl c]) S
def bagW (scr at_ : PV) : W RV := fun S Ψ _ => ∃ (ns : List Int) (j : Nat), scr = .scr ns ∧ at_ = .int (j : Int) ∧ ns.length ≤ 1000 ∧ j ≤ 1000 ∧ ∀ (a b : Int), Ψ (.o [.int a, .int b]) S
/-- a bag's place changes, all else stands -/
theorem bag_go {Wa : Wd} {p : Addr} {c : Cl} {H' : Hp} (o : Ok K Wa) (hs : Wa.s p = some c) (x : ∀ q u, q ≠ p → Wa.h q = some u → H' q = some u) (hc : c.ok K Wa.r H' p) : Go K Wa ⟨Wa.r, H', Wa.s⟩ := by
  have hr := (o.cell p c hs).1
  refine ⟨⟨fun q u hq => x q u (fun z => by rw [z] at hq; rw [show Wa.r p = some u from hq] at hr; cases hr) (o.sub _ _ hq), fun q d hq => ?_⟩, Ex.refl _, fun q u n h => x q u (fun z => by rw [z, hs] at n; cases n) h, fun q u h t e _ => e, fun q d h => by
    by_cases e : q = p
    · subst e
      exact hc.there
    · obtain ⟨v, a, b⟩ := o.stands h
      exact ⟨v, x q v e a, b⟩, fun q d h n => ?_⟩
  · have a := (o.cell q d hq).1
    have b := (o.cell q d hq).2
    refine ⟨a, ?_⟩
    by_cases e : q = p
    · subst e
      have hq' : Wa.s q = some d := hq
      rw [hs] at hq'
      cases hq'
      exact hc
    · exact b.stay (Ex.refl _) fun u h => x q u e h
  · have h' : Wa.s q = some d := h
    rw [n] at h'
    cases h'
theorem sub_take : ∀ vs H Q E, spW K (ar2 takeW) vs H Q E → spTake vs H Q E := fun vs H Q E h => by
  obtain ⟨Wa, as, Ψ, Ξ, rfl, o, al, hF, q, _⟩ := h
  obtain ⟨a, b, rfl, p, n, rfl, hs, rfl, n0, n8, z⟩ := ar2_inv hF
  obtain ⟨v, v2, rfl, h1, h2⟩ := Al.inv2 al
  cases h1
  cases h2
  have hb := (o.cell p _ hs).2
  refine ⟨p, n, rfl, hb, n0, n8, fun d H' d0 dn hb' x => ?_⟩
  exact q (.v (.int d)) (.int d) ⟨Wa.r, H', Wa.s⟩ (bag_go o hs (fun q u e h => x q u e h) hb') rfl (z d d0 dn)
theorem sub_out : ∀ vs H Q E, spW K (ar2 outW) vs H Q E → spOut vs H Q E := fun vs H Q E h => by
  obtain ⟨Wa, as, Ψ, Ξ, rfl, o, al, hF, q, _⟩ := h
  obtain ⟨a, b, rfl, p, n, rfl, hs, rfl, n0, n8, z⟩ := ar2_inv hF
  obtain ⟨v, v2, rfl, h1, h2⟩ := Al.inv2 al
  cases h1
  cases h2
  have hb := (o.cell p _ hs).2
  refine ⟨p, n, rfl, hb, n0, n8, fun d H' d0 dn hb' x => ?_⟩
  exact q (.v (.int d)) (.int d) ⟨Wa.r, H', Wa.s⟩ (bag_go o hs (fun q u e h => x q u e h) hb') rfl (z d d0 dn)
theorem grown_go {Wa : Wd} {H' : Hp} (o : Ok K Wa) (e : Ex Wa.h H') : Go K Wa ⟨Wa.r, H', Wa.s⟩ := ⟨⟨fun q u hq => e _ _ (o.sub _ _ hq), fun q d hq => by
  have a := (o.cell q d hq).1
  have b := (o.cell q d hq).2
  exact ⟨a, b.stay (Ex.refl _) fun u h => e _ _ h⟩⟩, Ex.refl _, fun q u n h => e _ _ h, fun q u h t e _ => e, fun q d h => (o.stands h).imp fun _ z => ⟨e _ _ z.1, z.2⟩, fun q d h n => by
  have h' : Wa.s q = some d := h
  rw [n] at h'
  cases h'⟩
theorem sub_begun : ∀ vs H Q E, spW K (ar2 begunW) vs H Q E → spBegun K vs H Q E := fun vs H Q E h => by
  obtain ⟨Wa, as, Ψ, Ξ, rfl, o, al, hF, q, _⟩ := h
  obtain ⟨a, b, rfl, ns, j, rfl, rfl, nl, jl, z⟩ := ar2_inv hF
  obtain ⟨v, v2, rfl, h1, h2⟩ := Al.inv2 al
  obtain ⟨p, rfl, hp⟩ := h1
  cases h2
  refine ⟨p, ns, j, rfl, ex_l o.sub hp, nl, jl, fun st H' nst e hb => ?_⟩
  obtain ⟨a, b, c, hb⟩ := hb
  exact q (.o [.int a, .int b, .bl c]) (.ref st) ⟨Wa.r, H', Wa.s⟩ (grown_go o e) ⟨st, rfl, nst, _, hb, o.rnone nst, o.snone nst, .cons rfl (.cons rfl (Al.one rfl))⟩ (z a b c)
theorem sub_bag : ∀ vs H Q E, spW K (ar2 bagW) vs H Q E → spBag K vs H Q E := fun vs H Q E h => by
  obtain ⟨Wa, as, Ψ, Ξ, rfl, o, al, hF, q, _⟩ := h
  obtain ⟨a, b, rfl, ns, j, rfl, rfl, nl, jl, z⟩ := ar2_inv hF
  obtain ⟨v, v2, rfl, h1, h2⟩ := Al.inv2 al
  obtain ⟨p, rfl, hp⟩ := h1
  cases h2
  refine ⟨p, ns, j, rfl, ex_l o.sub hp, nl, jl, fun st H' nst e hb => ?_⟩
  obtain ⟨a, b, hb⟩ := hb
  exact q (.o [.int a, .int b]) (.ref st) ⟨Wa.r, H', Wa.s⟩ (grown_go o e) ⟨st, rfl, nst, _, hb, o.rnone nst, o.snone nst, .cons rfl (Al.one rfl)⟩ (z a b)
/-- a new list of this form becomes a bag -/
def isBag3 : List PV → Bool
  | [.int _, .int _, .bl _] => true
  | _ => false
def isBag2 : List PV → Bool
  | [.int _, .int _] => true
  | _ => false
def bag3W (ms : W (List PV)) : W PV := fun S Ψ Ξ => ms S (fun as S2 => isBag3 as = true ∧ ∀ p, S2 p = none → Ψ (.ptr p) (put S2 p .bag3)) Ξ
def bag2W (ms : W (List PV)) : W PV := fun S Ψ Ξ => ms S (fun as S2 => isBag2 as = true ∧ ∀ p, S2 p = none → Ψ (.ptr p) (put S2 p .bag2)) Ξ
theorem new_bag {Wa W1 : Wd} {as : List PV} {v : V} {c : Cl} (g : Go K Wa W1) (r : ROk K Wa W1 v as) (hc : ∀ vs p, W1.h p = some (.lst vs) → Al W1.r vs (mps K as) → c.ok K W1.r W1.h p) : ∃ p W3, v = .ref p ∧ W1.s p = none ∧ W3.h = W1.h ∧ W3.r = W1.r ∧ W3.s = put W1.s p c ∧ Go K Wa W3 := by
  obtain ⟨p, rfl, hp, vs, h1, h2, h3, h4⟩ := r
  refine ⟨p, ⟨W1.r, W1.h, put W1.s p c⟩, rfl, h3, rfl, rfl, rfl, ⟨g.ok.sub, fun q d hd => ?_⟩, g.le.r, g.le.h, g.le.w, g.le.d, fun q d hd n => ?_⟩
  · have hd' : put W1.s p c q = some d := hd
    by_cases e : q = p
    · subst e
      rw [put_same] at hd'
      cases hd'
      exact ⟨h2, hc vs q h1 h4⟩
    · rw [put_ne e] at hd'
      exact g.ok.cell q d hd'
  · by_cases e : q = p
    · subst e
      exact hp
    · have hd' : put W1.s p c q = some d := hd
      rw [put_ne e] at hd'
      exact g.le.n q d hd' n
variable {Z : WX} {ρ : List Sl} {te : TE} {ms : W (List PV)}
theorem p_bag3 (h : EO K Z ρ te ms) : EP K Z ρ te (bag3W ms) := fun W0 W σ e Q Ψ Ξ hm k kx => h W0 W σ e _ _ _ hm (fun as v W1 g1 r ⟨hb, h2⟩ => by
  match as, hb with
  | [.int a, .int b, .bl c], _ =>
    obtain ⟨p, W3, rfl, sp, e1, _, e2, g3⟩ := new_bag (c := .bag3) g1 r fun vs p hp al => by
      cases al with
      | cons p1 t1 =>
        obtain ⟨x, y, rfl, p2, p3⟩ := Al.inv2 t1
        cases p1
        cases p2
        cases p3
        exact ⟨a, b, c, hp⟩
    rw [← e1]
    exact k (.ptr p) _ W3 g3 rfl (by rw [e2]; exact h2 p sp)) kx
theorem p_bag2 (h : EO K Z ρ te ms) : EP K Z ρ te (bag2W ms) := fun W0 W σ e Q Ψ Ξ hm k kx => h W0 W σ e _ _ _ hm (fun as v W1 g1 r ⟨hb, h2⟩ => by
  match as, hb with
  | [.int a, .int b], _ =>
    obtain ⟨p, W3, rfl, sp, e1, _, e2, g3⟩ := new_bag (c := .bag2) g1 r fun vs p hp al => by
      obtain ⟨x, y, rfl, p2, p3⟩ := Al.inv2 al
      cases p2
      cases p3
      exact ⟨a, b, hp⟩
    rw [← e1]
    exact k (.ptr p) _ W3 g3 rfl (by rw [e2]; exact h2 p sp)) kx
/-! ### the law's end -/
def spEnd (K : PySem.W.Frag) : Sp := fun vs H Q _ => ∃ (a : Addr) (ns : List Int), vs = [.ref a] ∧ SqL K H a (ns.map V.int) ∧ ns.length ≤ 63 ∧ ∀ H', Q (.bl true) H'
def S0 : Sto := fun _ => none
theorem ad_end {F : PV → W RV} (hF : ∀ ns : List Int, ns.length ≤ 63 → F (.scr ns) S0 (fun r _ => r = .v (.bl true)) fun _ _ => False) (Fn : FnG P w K mg base CX0 k f fd ps (spW K (ar1 F))) : FnG P w K mg base CX0 k f fd ps (spEnd K) := FnG.imp Fn fun vs H Q E h => by
  obtain ⟨a, ns, rfl, hs, hl, q⟩ := h
  refine ⟨⟨H, H, S0⟩, [.scr ns], fun r _ => r = .v (.bl true), fun _ _ => False, rfl, ⟨Ex.refl _, fun p c h => by cases h⟩, .cons ⟨a, rfl, hs⟩ .nil, hF ns hl, fun r v W2 _ rr z => ?_, fun _ _ _ _ _ _ z => z.elim⟩
  subst z
  cases rr
  exact q _
end
theorem tup2_k {K : PySem.W.Frag} {A : Addr} {od : Option Addr} {sl : Array (Option Value)} {n : Nat} {i j : Int} {ta tb : Tok} (h : K.lookup A = some ⟨.type "tuple", od, .seq #[.int i ta, .int j tb] n, sl⟩) : ∀ H, (mp K (.tup [.int i, .int j])).p H (.ref A) := fun H => ⟨A, [.int i, .int j], rfl, .inr ⟨_, _, _, h, rfl, rfl, by show 2 ≤ sizeLine; decide, .cons ⟨_, rfl⟩ (.cons ⟨_, rfl⟩ .nil)⟩, .cons rfl (.cons rfl .nil)⟩
end SL

namespace SL
open PySem PySem.Spec PyProof.Rows L2 Evl NF WL
/-! ### defs by the layer's own promise (nothing is shown by repr in them) -/
section
variable {P : Program} {w : World} {K : PySem.W.Frag} {mg : Str → Option Value} {base : Heap} {f : Addr} {fd : FuncData} {F : List PV → W RV}
theorem FnOk.sub {CX : CXT} {k : Nat} {ps : List Str} {sp sp' : Sp} (G : FnOk P w K mg base CX k f fd ps sp) (h : ∀ vs H Q E, sp' vs H Q E → sp vs H Q E) : FnOk P w K mg base CX k f fd ps sp' :=
  ⟨fun vs H Q E z => G.len vs H Q E (h vs H Q E z), fun A out s H args us vs Q E hr he hb hv hs => G.run A out s H args us vs Q E hr he hb hv (h vs H Q E hs)⟩
theorem fo_scope {CX : CXT} {k : Nat} {ps : List Str} (G : FnOk P w K mg base CX k f fd ps (spW K F)) : FnOk P w K mg base CX k f fd ps (spW K fun as => scopeW (F as)) := FnOk.sub G fun vs H Q E ⟨Wa, as, Ψ, Ξ, a, b, c, d, q, qx⟩ =>
  ⟨Wa, as, _, _, a, b, c, d, fun r v W2 g rr z => q r v ⟨W2.r, W2.h, cutS Wa.s W2.s⟩ (cut_go g) (cut_rr rr) z, fun x cls d W2 g hx z => qx x cls d ⟨W2.r, W2.h, cutS Wa.s W2.s⟩ (cut_go g) hx z⟩
theorem foW {x qual : Str} {st : Stmt} {N ps : List Str} {k : Nat} (Fn : Fun K x qual st f fd) (S : FnScope N ps (defScope st)) (hN : ps.length ≤ N.length) (hl : ∀ as S Ψ Ξ, F as S Ψ Ξ → as.length = ps.length)
    (hb : ∀ (cdv : Value) (A : Around) (outer : List Env) (s : Shared) (H : Hp) (E : XK), Room k (A.deeper (envOfC qual (defScope st) s.heap.objs.size f cdv)) → ∃ t, PSs (cxOf CX0 P w K mg base N qual (defScope st) f cdv A outer s H E).nox (defBody st) t ∧
      ∀ as S Ψ Ξ, F as S Ψ Ξ → ∃ m : W (Fl Unit), runF m S Ψ Ξ ∧ GP K (fun cls d _ H => E cls d H) (as.map .val ++ List.replicate (N.length - as.length) .un) t (fun _ => List.replicate N.length .un) m) : FnOk P w K mg base CX0 (k + 1) f fd ps (spW K F) :=
  Fun.ok Fn S (sp_len hl) fun cdv A out s H vs Q E hr h => by
    obtain ⟨t, ht, b⟩ := hb cdv A out s H E hr
    exact ⟨t, ht, fnW_core h (fun as S Ψ Ξ z => by rw [hl as S Ψ Ξ z]; exact hN) b⟩
theorem foWD {x qual : Str} {params : Arguments} {body : List Stmt} {scope : Scope} {dvs : List V} {N ps : List Str} {k : Nat} (Fn : FunD K x qual params body scope dvs [] f fd) (S : FnScope N ps scope) (hN : ps.length ≤ N.length) (hl : ∀ as S Ψ Ξ, F as S Ψ Ξ → as.length = ps.length)
    (hb : ∀ (cdv : Value) (A : Around) (outer : List Env) (s : Shared) (H : Hp) (E : XK), Room k (A.deeper (envOfC qual scope s.heap.objs.size f cdv)) → ∃ t, PSs (cxOf CX0 P w K mg base N qual scope f cdv A outer s H E).nox body t ∧
      ∀ as S Ψ Ξ, F as S Ψ Ξ → ∃ m : W (Fl Unit), runF m S Ψ Ξ ∧ GP K (fun cls d _ H => E cls d H) (as.map .val ++ List.replicate (N.length - as.length) .un) t (fun _ => List.replicate N.length .un) m) : FnOk P w K mg base CX0 (k + 1) f fd ps (spW K F) :=
  FunD.ok Fn S (sp_len hl) fun cdv A out s H vs Q E hr h => by
    obtain ⟨t, ht, b⟩ := hb cdv A out s H E hr
    exact ⟨t, ht.nox, fnW_core h (fun as S Ψ Ξ z => by rw [hl as S Ψ Ξ z]; exact hN) b⟩
end
/-! ### own classes -/
section
variable {K : PySem.W.Frag} {Z : WX} {W0 W1 W2 W3 : Wd} {σ : L2.St} {ρ : List Sl} {i j : Nat} {ta tb te : TE} {tA : TA} {ma mb me : W PV} {ms : W (List PV)} {F : List PV → W RV} {S : Type} {pat : S → List Sl} {t : TS}
theorem zip_lookup {R : Hp} {f : Str} : ∀ {ns : List Str} {vs : List V} {as : List PV}, vs.length = ns.length → Al R vs (mps K as) → ∀ {a : PV}, (ns.zip as).lookup f = some a → ∃ v, (ns.zip vs).lookup f = some v ∧ (mp K a).p R v
  | [], _, _, _, _, _, h => by simp at h
  | _ :: _, [], _, h, _, _, _ => by cases h
  | n :: ns, v :: vs, [], _, al, _, h => by cases al
  | n :: ns, v :: vs, b :: as, hl, .cons p t, a, h => by
    rw [List.zip_cons_cons, List.lookup_cons] at h ⊢
    split at h
    · rename_i he
      cases h
      exact ⟨v, rfl, p⟩
    · rename_i he
      exact zip_lookup (Nat.succ.inj hl) t h
/-- e.f -/
def fldG (c : Addr) (f : Str) (S : Sto) : PV → Option PV
  | .ptr p => match S p with
    | some (.ins d _ ns as) => if d = c then (ns.zip as).lookup f else none
    | _ => none
  | .ins d ns as => if d = c then (ns.zip as).lookup f else none
  | _ => none
def fldW (c : Addr) (f : Str) (ma : W PV) : W PV := bind ma fun a => look fun S => fldG c f S a
theorem p_fld {c : Addr} {f : Str} (hc : Cls K c) (hn : NoAttr K c f) (ha : EP K Z ρ ta ma) : EP K Z ρ (tFld K ta f) (fldW c f ma) := fun W0 W σ e Q Ψ Ξ hm k kx =>
  ha W0 W σ e _ _ _ hm (fun a v W1 g p z => by
    obtain ⟨b, eb, z⟩ := z
    unfold fldG at eb
    split at eb
    · rename_i q
      cases p
      dsimp only at eb
      split at eb
      · rename_i d dx ns as hs
        split at eb
        · rename_i hd
          subst hd
          obtain ⟨vs, h1, h2, h3⟩ := (g.ok.cell q _ hs).2
          obtain ⟨u, hu, pu⟩ := zip_lookup h2 h3 eb
          exact ⟨q, d, dx, _, u, rfl, h1, hc, hn, hu, k b u W1 g pu z⟩
        · cases eb
      · cases eb
    · rename_i d ns as
      dsimp only at eb
      split at eb
      · rename_i hd
        subst hd
        obtain ⟨q, dx, vs, rfl, h1, h2, h3⟩ := p
        obtain ⟨u, hu, pu⟩ := zip_lookup h2 h3 eb
        exact ⟨q, d, dx, _, u, rfl, g.ok.sub _ _ h1, hc, hn, hu, k b u W1 g pu z⟩
      · cases eb
    · cases eb) kx
/-- x.f = e, where the instance may change and has no f yet -/
theorem putF_new {f : Str} {v : V} : ∀ {fs : List (Str × V)}, fs.lookup f = none → putF f v fs = fs ++ [(f, v)]
  | [], _ => rfl
  | (g, x) :: r, h => by
    rw [List.lookup_cons] at h
    split at h
    · cases h
    · rename_i he
      have hne : ¬ g = f := fun z => by
        subst z
        simp at he
      rw [putF, if_neg hne, putF_new h]
      rfl
theorem zip_snoc {α β : Type} : ∀ {ns : List α} {vs : List β} {n : α} {v : β}, vs.length = ns.length → ns.zip vs ++ [(n, v)] = (ns ++ [n]).zip (vs ++ [v])
  | [], [], _, _, _ => rfl
  | _ :: ns, _ :: vs, _, _, h => by
    rw [List.zip_cons_cons, List.cons_append, List.cons_append, List.cons_append, List.zip_cons_cons, zip_snoc (by simpa using h)]
  | [], _ :: _, _, _, h => by cases h
  | _ :: _, [], _, _, h => by cases h
theorem zip_none {f : Str} : ∀ {ns : List Str} {vs : List V}, ns.contains f = false → (ns.zip vs).lookup f = none
  | [], _, _ => by simp
  | _ :: _, [], _ => by simp
  | n :: ns, v :: vs, h => by
    rw [List.contains_cons, Bool.or_eq_false_iff] at h
    rw [List.zip_cons_cons, List.lookup_cons, h.1]
    exact zip_none h.2
def newFld (p : Addr) (c : Addr) (f : Str) (a : PV) : W Unit := fun S Ψ _ => ∃ dx ns as, S p = some (.ins c dx ns as) ∧ ns.contains f = false ∧ ns.length < 900 ∧ as.length = ns.length ∧ Ψ () (put S p (.ins c dx (ns ++ [f]) (as ++ [a])))
theorem fld_core {c : Addr} {f : Str} {p : Addr} {Wa : Wd} {D : Ends} {Ψ : Sto → Prop} {Ξ : XV → Sto → Prop} (hc : Cls K c) (hn : NoAttr K c f) (h : ρ[i]? = some (.val (.ptr p))) (e : En K W0 Wa σ ρ) (ht : EP K Z ρ te me) (hm : (bind me fun a => newFld p c f a) Wa.s (fun _ S => Ψ S) Ξ)
    (k : ∀ W2, En K W0 W2 σ ρ → Ψ W2.s → D.nx σ W2.h) (kx : KX K Z σ Wa Ξ) : sFld K (tVar i) te f D σ Wa.h :=
  ht W0 Wa σ e _ _ _ hm (fun a v W1 g pv z => by
    obtain ⟨dx, ns, as, hs, hf, hl, ha, z⟩ := z
    have e1 := e.go g
    obtain ⟨u, h1, w, rfl, h2⟩ := e1.sl i _ h
    cases h2
    obtain ⟨vs, k1, k2, k3⟩ := (g.ok.cell p _ hs).2
    refine ⟨_, h1, p, c, dx, _, rfl, k1, hc, hn, ?_, ?_⟩
    · rw [List.length_zip]
      omega
    · rw [putF_new (zip_none hf), zip_snoc k2]
      exact k _ (e1.go (put_cell (c2 := .ins c dx (ns ++ [f]) (as ++ [a])) g.ok hs ⟨vs ++ [v], upd_same, by simp [k2], by rw [mps_app]; exact k3.app (Al.one pv)⟩)) z) kx
theorem gp_fld {c : Addr} {f : Str} {p : Addr} {kk : W (Fl S)} (hc : Cls K c) (hn : NoAttr K c f) (h : ρ[i]? = some (.val (.ptr p))) (he : EP K Z ρ te me) (hk : GP K Z ρ t pat kk) : GP K Z ρ (tSeq (sFld K (tVar i) te f) t) pat (bind me fun a => bind (newFld p c f a) fun _ => kk) := fun W0 W σ D e Φ Ξ hm q =>
  fld_core (D := { D with nx := t D }) hc hn h e he (Ψ := fun S => kk S Φ Ξ) hm (fun W2 e2 z => hk W0 W2 σ D e2 _ _ z q) (q.x e)
theorem gp_fld1 {c : Addr} {f : Str} {p : Addr} {s : S} (hc : Cls K c) (hn : NoAttr K c f) (h : ρ[i]? = some (.val (.ptr p))) (he : EP K Z ρ te me) (hp : pat s = ρ) : GP K Z ρ (sFld K (tVar i) te f) pat (bind me fun a => bind (newFld p c f a) fun _ => ret (.nx s)) := fun W0 W σ D e Φ Ξ hm q =>
  fld_core hc hn h e he (Ψ := fun S => Φ (.nx s) S) hm (fun W2 e2 z => q.nx W2 σ s (hp ▸ e2) z) (q.x e)
/-- a new instance, settled behind its __init__ -/
def makeW (c : Addr) (F : List PV → W RV) (ds : List PV) (ms : W (List PV)) : W PV := bind ms fun vs => fun S Ψ Ξ => ∀ x dx, S x = none → S dx = none → F (.ptr x :: (vs ++ ds)) (put S x (.ins c dx [] [])) (fun r S2 => r = .v .non ∧ ∃ ns as, S2 x = some (.ins c dx ns as) ∧ Ψ (.ins c ns as) (rem S2 x)) fun _ _ => False
theorem make_go {Wa Wb : Wd} {x c dx : Addr} {ns : List Str} {as : List PV} (o : Ok K Wa) (g : Go K Wa Wb) (hx : Wa.h x = none) (hs : Wb.s x = some (.ins c dx ns as)) : ∃ W3, W3.h = Wb.h ∧ W3.s = rem Wb.s x ∧ Go K Wa W3 ∧ (mp K (.ins c ns as)).p W3.r (.ref x) := by
  obtain ⟨vs, h1, h2, h3⟩ := (g.ok.cell x _ hs).2
  have hr := (g.ok.cell x _ hs).1
  have ex : Ex Wb.r (upd Wb.r x (.ins c dx (ns.zip vs))) := Ex.new hr
  exact ⟨⟨upd Wb.r x (.ins c dx (ns.zip vs)), Wb.h, rem Wb.s x⟩, rfl, rfl, g.trans (calm_cell g.ok hs h1), x, dx, vs, rfl, upd_same, h2, h3.mono ex⟩
end
end SL

namespace SL
open PySem PySem.Spec PyProof.Rows L2 Evl NF WL
/-! ### an own == -/
structure EqO (P : Program) (w : World) (K : PySem.W.Frag) (mg : Str → Option Value) (base : Heap) (C : Addr) (k : Nat) (sp : Sp) : Prop where
  ex : ∃ (f : Addr) (fd : FuncData), PySem.W.findIn K (.ref C) "__eq__" = some (some (.ref f)) ∧ PySem.W.isFn K (.ref f) = true ∧ FnOk P w K mg base CX0 k f fd ["self", "other"] sp ∧ Binds K fd ["self", "other"] []
def rEqO (C : Addr) (sp : Sp) : R2 := fun x y H Q => ∃ (a b dx dy : Addr) (fs gs : List (Str × V)), x = .ref a ∧ y = .ref b ∧ H a = some (.ins C dx fs) ∧ H b = some (.ins C dy gs) ∧ sp [.ref a, .ref b] H (fun v H' => ∃ r : Bool, v = .bl r ∧ Q (.bl r) H') E0
theorem op_eqO {X : Cx} {C : Addr} {k j : Nat} {sp : Sp} (L : EqO X.prog X.w X.K X.mg X.base C k sp) (hr : Room j X.A) (hk : k ≤ j) : OpR X (compareOp .Eq) (rEqO C sp) := by
  obtain ⟨f, fd, hl, hf, F, hb⟩ := L.ex
  intro pins s σ H x y u v Q I rx ry h
  obtain ⟨a, b, dx, dy, fs, gs, rfl, rfl, ea, eb, hs⟩ := h
  cases (show u = Value.ref a from rx)
  cases (show v = Value.ref b from ry)
  obtain ⟨mA, O, _⟩ := ins_get I.hok ea
  obtain ⟨od, J, _⟩ := O.look
  obtain ⟨mB, O2, _⟩ := ins_get I.hok eb
  obtain ⟨od2, J2, _⟩ := O2.look
  obtain ⟨m, fr⟩ := I.fr
  have bd := hb s [.ref a, .ref b] I.kIn rfl
  have lk : PySem.W.Looks (model X.prog X.w) s.heap (typeOf (.ref b)) (.ref C) := fun A Q E s k q => wpAny_typeOf_ref (k _ _ O2.obj) q
  have un := hr.units
  show wpAny (model X.prog X.w) X.A (richCompare .Eq (.ref a) (.ref b)) _ _ s
  refine PySem.W.cmp_K (by omega) fr I.ok.mod.kin J lk (by unfold PySem.W.notFirst; simp) hl hf (wpAny_call (codeAny_mono (F.run X.A X.stack s H ⟨[.ref a, .ref b], []⟩ [.ref a, .ref b] [.ref a, .ref b] _ E0 (hr.mono hk) I.env0 bd (.cons rfl (.cons rfl .nil)) hs) ?_))
  intro rr s2 z
  match rr, z with
  | .error y, z => exact z.elim
  | .ok (.ret u), z =>
    obtain ⟨v, H', I', rv, r, rfl, q⟩ := I.after z
    cases rv
    exact ⟨.bl r, H', I', rfl, q⟩
section
variable {K : PySem.W.Frag} {Z : WX} {W0 W1 W2 W3 : Wd} {σ : L2.St} {ρ : List Sl} {i j : Nat} {ta tb te tl : TE} {tA : TA} {ma mb me : W PV} {ms : W (List PV)} {F : List PV → W RV} {S : Type} {pat : S → List Sl} {t : TS}
/-! ### instances -/
theorem p_make {c : Addr} {dvs : List V} {ds : List PV} {Ex0 : XK} (hd : ∀ H, Al H dvs (mps K ds)) (ha : VP K Z ρ tA ms) : EP K Z ρ (tMake c (spW K F) dvs Ex0 tA) (makeW c F ds ms) := fun W0 W σ e Q Ψ Ξ hm k kx =>
  ha W0 W σ e _ _ _ hm (fun as vs W1 g1 al z x dx hx hdx ne => by
    have g2 := new_own (u := .own x) g1.ok hdx
    have hx2 : upd W1.h dx (.own x) x = none := by rw [upd_ne (Ne.symm ne)]; exact hx
    have g3 := new_cell (p := x) (u := .ins c dx []) (c := .ins c dx [] []) g2.ok hx2 ⟨[], upd_same, rfl, .nil⟩
    have G := g2.trans g3
    refine ⟨⟨W1.r, upd (upd W1.h dx (.own x)) x (.ins c dx []), put W1.s x (.ins c dx [] [])⟩, .ptr x :: (as ++ ds), _, _, rfl, g3.ok, .cons rfl (by rw [mps_app]; exact al.app (hd _)), z x dx (g1.ok.snone hx) (g1.ok.snone hdx), fun r v W2 g4 rr zz => ?_, fun _ _ _ _ _ _ z => z.elim⟩
    obtain ⟨rfl, ns, bs, hs, zz⟩ := zz
    cases rr
    obtain ⟨W3, e1, e2, g5, p5⟩ := make_go g1.ok (G.trans g4) hx hs
    refine ⟨rfl, ?_⟩
    rw [← e1]
    exact k _ _ W3 (g1.trans g5) p5 (by rw [e2]; exact zz)) kx
def isObj (c : Addr) (m : Str) (S : Sto) : PV → Option Unit
  | .ptr p => match S p with
    | some (.ins d _ ns _) => if d = c ∧ ns.contains m = false then some () else none
    | _ => none
  | .ins d ns _ => if d = c ∧ ns.contains m = false then some () else none
  | _ => none
theorem isObj_p {c : Addr} {m : Str} {Wa : Wd} {a : PV} {v : V} (o : Ok K Wa) (h : isObj c m Wa.s a = some ()) (p : (mp K a).p Wa.r v) : ∃ q dx fs, v = .ref q ∧ Wa.h q = some (.ins c dx fs) ∧ fs.lookup m = none := by
  unfold isObj at h
  split at h
  · rename_i q
    cases p
    split at h
    · rename_i d dx ns as hs
      split at h
      · rename_i hd
        obtain ⟨rfl, hn⟩ := hd
        obtain ⟨vs, h1, h2, h3⟩ := (o.cell q _ hs).2
        exact ⟨q, dx, _, rfl, h1, zip_none hn⟩
      · cases h
    · cases h
  · rename_i d ns as
    split at h
    · rename_i hd
      obtain ⟨rfl, hn⟩ := hd
      obtain ⟨q, dx, vs, rfl, h1, h2, h3⟩ := p
      exact ⟨q, dx, _, rfl, o.sub _ _ h1, zip_none hn⟩
    · cases h
  · cases h
/-- o.m(..) -/
def methR (c : Addr) (m : Str) (F : List PV → W RV) (ma : W PV) (ms : W (List PV)) : W RV := bind ma fun a => bind (look fun S => isObj c m S a) fun _ => bind ms fun as => noX (F (a :: as))
def methW (c : Addr) (m : Str) (F : List PV → W RV) (ma : W PV) (ms : W (List PV)) : W PV := bind (methR c m F ma ms) fun r => ret r.pv
def methO (c : Addr) (m : Str) (F : List PV → W RV) (ma : W PV) (ms : W (List PV)) : W (List PV) := bind (methR c m F ma ms) fun r => lift (asO r)
theorem meth_core {c : Addr} {m : Str} {Wa : Wd} {Q : VK} {Ex0 : XK} {Ψ : RV → Sto → Prop} {Ξ : XV → Sto → Prop} (e : En K W0 Wa σ ρ) (ha : EP K Z ρ ta ma) (hs : VP K Z ρ tA ms) (hm : methR c m F ma ms Wa.s Ψ Ξ) (k : ∀ r v W2, Go K Wa W2 → RRk K Wa W2 v r → Ψ r W2.s → Q v W2.h) (kx : KX K Z σ Wa Ξ) : tMeth c m (spW K F) [] Ex0 ta tA σ Wa.h Q :=
  ha W0 Wa σ e _ _ _ hm (fun a v W1 g1 p z => by
    obtain ⟨_, ho, z⟩ := z
    obtain ⟨q, dx, fs, rfl, h1, h2⟩ := isObj_p g1.ok ho p
    refine ⟨q, dx, fs, rfl, h1, h2, hs W0 W1 σ (e.go g1) _ _ _ z (fun as vs W2 g2 al z => ?_) (kx.go g1)⟩
    have G := g1.trans g2
    exact ⟨W2, a :: as, _, _, rfl, g2.ok, .cons (MP.mono _ g2.le.r p) (by rw [List.append_nil]; exact al), z, fun r v W3 g3 rr zz => k r v W3 (G.trans g3) (by
      cases r with
      | v b => exact rr
      | o bs => exact ROk.back G.ok G rr) zz, fun _ _ _ _ _ _ z => z.elim⟩) kx
theorem p_meth {c : Addr} {m : Str} {Ex0 : XK} (ha : EP K Z ρ ta ma) (hs : VP K Z ρ tA ms) : EP K Z ρ (tMeth c m (spW K F) [] Ex0 ta tA) (methW c m F ma ms) := fun W0 W σ e Q Ψ Ξ hm k kx =>
  meth_core e ha hs hm (fun r v W2 g rr z => by
    obtain ⟨W3, e1, e2, g3, p3⟩ := rr_settle g rr
    rw [← e1]
    exact k _ v W3 g3 p3 (by rw [e2]; exact z)) kx
theorem o_meth {c : Addr} {m : Str} {Ex0 : XK} (ha : EP K Z ρ ta ma) (hs : VP K Z ρ tA ms) : EO K Z ρ (tMeth c m (spW K F) [] Ex0 ta tA) (methO c m F ma ms) := fun W0 W σ e Q Ψ Ξ hm k kx =>
  meth_core e ha hs hm (fun r v W2 g rr z => by
    obtain ⟨bs, eb, z⟩ := z
    cases r with
    | v a => cases eb
    | o cs =>
      cases eb
      exact k _ v W2 g rr z) kx
/-- len(o) -/
def lenOf : RV → Option PV
  | .v (.int n) => if 0 ≤ n ∧ n < 2 ^ 63 then some (.int n) else none
  | _ => none
def lenOW (c : Addr) (F : List PV → W RV) (ma : W PV) : W PV := bind ma fun a => bind (look fun S => isObj c "" S a) fun _ => bind (noX (F [a])) fun r => lift (lenOf r)
theorem p_lenO {c : Addr} (ha : EP K Z ρ ta ma) : EP K Z ρ (tCB (rLenO c (spW K F)) (tCons ta tNil)) (lenOW c F ma) := fun W0 W σ e Q Ψ Ξ hm k kx =>
  ha W0 W σ e _ _ _ hm (fun a v W1 g1 p z => by
    obtain ⟨_, ho, z⟩ := z
    obtain ⟨q, dx, fs, rfl, h1, h2⟩ := isObj_p g1.ok ho p
    refine ⟨q, dx, fs, rfl, h1, W1, [a], _, _, rfl, g1.ok, Al.one p, z, fun r v W3 g3 rr zz => ?_, fun _ _ _ _ _ _ z => z.elim⟩
    obtain ⟨b, eb, zz⟩ := zz
    unfold lenOf at eb
    split at eb
    · rename_i n
      split at eb
      · rename_i hn
        cases eb
        cases rr
        exact ⟨n, rfl, hn.1, hn.2, k (.int n) _ W3 (g1.trans g3) rfl zz⟩
      · cases eb
    · cases eb) kx
/-- o == p -/
def eqOf : RV → Option PV
  | .v (.bl b) => some (.bl b)
  | _ => none
def eqOW (c : Addr) (F : List PV → W RV) (ma mb : W PV) : W PV := bind ma fun a => bind mb fun b => bind (look fun S => isObj c "" S a) fun _ => bind (look fun S => isObj c "" S b) fun _ => bind (noX (F [a, b])) fun r => lift (eqOf r)
theorem p_eqO {c : Addr} (ha : EP K Z ρ ta ma) (hb : EP K Z ρ tb mb) : EP K Z ρ (tOp (rEqO c (spW K F)) ta tb) (eqOW c F ma mb) := fun W0 W σ e Q Ψ Ξ hm k kx =>
  ha W0 W σ e _ _ _ hm (fun a v W1 g1 p z => hb W0 W1 σ (e.go g1) _ _ _ z (fun b v2 W2 g2 p2 z => by
    obtain ⟨_, ho, _, ho2, z⟩ := z
    have p1 := MP.mono _ g2.le.r p
    obtain ⟨q, dx, fs, rfl, h1, h2⟩ := isObj_p g2.ok ho p1
    obtain ⟨q2, dx2, fs2, rfl, k1, k2⟩ := isObj_p g2.ok ho2 p2
    refine ⟨q, q2, dx, dx2, fs, fs2, rfl, rfl, h1, k1, W2, [a, b], _, _, rfl, g2.ok, .cons p1 (Al.one p2), z, fun r v W3 g3 rr zz => ?_, fun _ _ _ _ _ _ z => z.elim⟩
    obtain ⟨b, eb, zz⟩ := zz
    unfold eqOf at eb
    split at eb
    · rename_i n
      cases eb
      cases rr
      exact ⟨n, rfl, k (.bl n) _ W3 ((g1.trans g2).trans g3) rfl zz⟩
    · cases eb) (kx.go g1)) kx
/-! ### x[i] = e of an own list -/
def setF (as : List PV) (i a : PV) : Option (List PV) := match i with
  | .int k => (ixN as.length k).map fun j => as.set j a
  | _ => none
theorem item_core {as : List PV} {Wa : Wd} {D : Ends} {Ψ : List PV → Sto → Prop} {Ξ : XV → Sto → Prop} (e : En K W0 Wa σ ρ) (h : ρ[i]? = some (.own as)) (he : EP K Z ρ te me) (hi : EP K Z ρ tb mb) (hm : (bind me fun a => bind mb fun b => lift (setF as b a)) Wa.s Ψ Ξ)
    (k : ∀ bs W2, En K W0 W2 σ (ρ.set i (.own bs)) → Ψ bs W2.s → D.nx σ W2.h) (kx : KX K Z σ Wa Ξ) : tAsg te (gSub (tVar i) tb rSetL) D σ Wa.h :=
  he W0 Wa σ e _ _ _ hm (fun a v W1 g1 p z => by
    have e1 := e.go g1
    obtain ⟨u, h1, q, rfl, _⟩ := e1.sl i _ h
    refine ⟨_, h1, hi W0 W1 σ e1 _ _ _ z (fun b y W2 g2 py z => ?_) (kx.go g1)⟩
    obtain ⟨bs, eb, z⟩ := z
    have e2 := e1.go g2
    obtain ⟨_, vs, k1, k2, k3, k4⟩ := e2.own_some h h1
    unfold setF at eb
    split at eb
    · rename_i n
      cases py
      cases c : ixN as.length n with
      | none => rw [c] at eb; cases eb
      | some jj =>
        rw [c] at eb
        cases eb
        refine ⟨q, vs, n, jj, rfl, rfl, k1, by rw [k4.length, mps_len]; exact c, ?_⟩
        exact k _ ⟨W2.r, upd W2.h q (.lst (vs.set jj v)), W2.s⟩ (e2.put h h1 (by rw [mps_set]; exact k4.set (MP.mono _ g2.le.r p) jj)) z
    · cases eb) kx
theorem gp_item {kk : List PV → W (Fl S)} {as : List PV} (h : ρ[i]? = some (.own as)) (he : EP K Z ρ te me) (hi : EP K Z ρ tb mb) (hk : ∀ bs, GP K Z (ρ.set i (.own bs)) t pat (kk bs)) : GP K Z ρ (tSeq (tAsg te (gSub (tVar i) tb rSetL)) t) pat (bind me fun a => bind mb fun b => bind (lift (setF as b a)) kk) := fun W0 W σ D e Φ Ξ hm q =>
  item_core (D := { D with nx := t D }) e h he hi (Ψ := fun bs S => kk bs S Φ Ξ) hm (fun bs W2 e2 z => hk bs W0 W2 σ D e2 _ _ z q) (q.x e)
theorem gp_item1 {f : List PV → S} {as : List PV} (h : ρ[i]? = some (.own as)) (he : EP K Z ρ te me) (hi : EP K Z ρ tb mb) (hk : ∀ bs, pat (f bs) = ρ.set i (.own bs)) : GP K Z ρ (tAsg te (gSub (tVar i) tb rSetL)) pat (bind me fun a => bind mb fun b => bind (lift (setF as b a)) fun bs => ret (.nx (f bs))) := fun W0 W σ D e Φ Ξ hm q =>
  item_core e h he hi (Ψ := fun bs S => Φ (.nx (f bs)) S) hm (fun bs W2 e2 z => q.nx W2 σ (f bs) (hk bs ▸ e2) z) (q.x e)
/-! ### texts -/
def asSs : List PV → Option (List Str)
  | [] => some []
  | .str b :: as => (asSs as).map (b :: ·)
  | _ :: _ => none
theorem asSs_al {H : Hp} : ∀ {as : List PV} {bs : List Str} {vs : List V}, asSs as = some bs → Al H vs (mps K as) → vs = bs.map V.str
  | [], _, _, h, .nil => by cases h; rfl
  | .str b :: as, bs, _, h, .cons p t => by
    simp only [asSs] at h
    cases c : asSs as with
    | none => rw [c] at h; cases h
    | some cs =>
      rw [c] at h
      cases h
      cases p
      rw [asSs_al c t]
      rfl
def rJoin (K : PySem.W.Frag) : V → List V → Hp → VK → Prop := fun x xs H Q => ∃ a p, ∃ ys : List Str, x = .str a ∧ xs = [.ref p] ∧ (SqL K H p (ys.map V.str) ∨ SqT K H p (ys.map V.str)) ∧ (ys.map (·.length)).sum + ys.length * a.length ≤ 16777216 ∧ Q (.str (Txt.join a ys)) H
theorem pe_joinK {X : Cx} {o e : Expr} {to te : TE} {apos pos : Pos} (hK : X.K = K) (ho : PE X o to) (he : PE X e te) (hs : starEach [e] X.env = [(false, eval e X.env)] := by rfl) (hbase : attributeBase o "join" X.env (eval o X.env) = eval o X.env := by rfl) (hline : (apos.endLine == pos.line) = true := by rfl) : PE X (.Call (.Attribute o "join" apos) [e] [] pos) (tM1 (rJoin K) to te) := hK ▸ pe_join ho he hs hbase hline
def isS : PV → Option Str
  | .str s => some s
  | _ => none
theorem isS_p {a : PV} {s : Str} {H : Hp} {v : V} (h : isS a = some s) (p : (mp K a).p H v) : v = .str s := by
  cases a <;> try cases h
  exact p
def joinS (a : Str) : PV → Option PV
  | .lst as => match asSs as with
    | some ys => if (ys.map (·.length)).sum + ys.length * a.length ≤ 16777216 then some (.str (Txt.join a ys)) else none
    | none => none
  | _ => none
def joinW (ma mb : W PV) : W PV := bind ma fun a => bind (lift (isS a)) fun s => bind mb fun b => lift (joinS s b)
theorem p_join (ha : EP K Z ρ ta ma) (hb : EP K Z ρ tb mb) : EP K Z ρ (tM1 (rJoin K) ta tb) (joinW ma mb) := fun W0 W σ e Q Ψ Ξ hm k kx =>
  ha W0 W σ e _ _ _ hm (fun a v W1 g1 p z => by
    obtain ⟨s, es, z⟩ := z
    cases isS_p es p
    refine ⟨⟨s, rfl⟩, hb W0 W1 σ (e.go g1) _ _ _ z (fun b y W2 g2 py z => ?_) (kx.go g1)⟩
    obtain ⟨c, ec, z⟩ := z
    match b, ec with
    | .lst as, ec =>
      simp only [joinS] at ec
      split at ec
      · rename_i ys hy
        split at ec
        · rename_i hl
          cases ec
          obtain ⟨q, vs, rfl, hq, al⟩ := py
          rw [asSs_al hy al] at hq
          exact ⟨s, q, ys, rfl, rfl, .inl (SqL.of (g2.ok.sub _ _ hq)), hl, k (.str (Txt.join s ys)) _ W2 (g1.trans g2) rfl z⟩
        · cases ec
      · cases ec) kx
/-! ### slices -/
def OP (K : PySem.W.Frag) (Z : WX) (ρ : List Sl) (to : TO) (m : W (Option Int)) : Prop := ∀ W0 W σ, En K W0 W σ ρ → ∀ (Q : Option Int → Hp → Prop) Ψ Ξ, m W.s Ψ Ξ → (∀ o W2, Go K W W2 → Ψ o W2.s → Q o W2.h) → KX K Z σ W Ξ → to σ W.h Q
def isI1 : PV → Option (Option Int)
  | .int i => some (some i)
  | _ => none
def partW (m : W PV) : W (Option Int) := bind m fun a => lift (isI1 a)
def noPart : W (Option Int) := ret none
theorem op_none : OP K Z ρ tNoPart noPart := fun W0 W σ e Q Ψ Ξ hm k kx => k none W e.id hm
theorem op_part (h : EP K Z ρ te me) : OP K Z ρ (tPart te) (partW me) := fun W0 W σ e Q Ψ Ξ hm k kx => h W0 W σ e _ _ _ hm (fun a v W1 g p z => by
  obtain ⟨o, eo, z⟩ := z
  match a, eo with
  | .int i, eo =>
    cases eo
    cases p
    exact ⟨i, rfl, k (some i) W1 g z⟩) kx
def cutO (ma : W PV) (ml mh : W (Option Int)) : W (List PV) := bind ma fun a => bind ml fun l => bind mh fun h => lift ((asL a).map fun as => WL.cut as l h)
theorem mps_cut (as : List PV) (l h : Option Int) : mps K (WL.cut as l h) = WL.cut (mps K as) l h := by
  unfold WL.cut
  rw [mps_map, mps_map, List.map_take, List.map_drop, List.length_map]
theorem o_cut {to th : TO} {ml mh : W (Option Int)} (ha : EP K Z ρ ta ma) (hl : OP K Z ρ to ml) (hh : OP K Z ρ th mh) : EO K Z ρ (tSl (rSlL K) ta to th) (cutO ma ml mh) := fun W0 W σ e Q Ψ Ξ hm k kx =>
  ha W0 W σ e _ _ _ hm (fun a v W1 g1 p z => hl W0 W1 σ (e.go g1) _ _ _ z (fun l W2 g2 z => hh W0 W2 σ ((e.go g1).go g2) _ _ _ z (fun h W3 g3 z => by
    obtain ⟨cs, ec, z⟩ := z
    match a, ec with
    | .lst as, ec =>
      cases ec
      obtain ⟨q, vs, rfl, hq, al⟩ := p
      have hq3 := (g2.le.r.trans g3.le.r) _ _ hq
      have al3 := (al.mono g2.le.r).mono g3.le.r
      exact ⟨q, vs, rfl, SqL.of (g3.ok.sub _ _ hq3), fun p hp => o_new k ((g1.trans g2).trans g3) hp (by rw [mps_cut]; exact WL.al_cut al3) z⟩) (kx.go (g1.trans g2))) (kx.go g1)) kx
theorem pe_sliceK {X : Cx} {e : Expr} {lo hi : Option Expr} {p2 pos : Pos} {te : TE} {tl th : TO} (hK : X.K = K) (he : PE X e te) (hl : PO X lo tl) (hu : PO X hi th) : PE X (.Subscript e (.Slice lo hi none p2) pos) (L2.tSl (rSlL K) te tl th) := hK ▸ pe_slice sl_list he hl hu
end
end SL

namespace SL
open PySem PySem.Spec PyProof.Rows L2 Evl NF WL
section
variable {X : Cx} {K : PySem.W.Frag} {Z : WX} {W0 W1 W2 W3 : Wd} {σ : L2.St} {ρ : List Sl} {ta tb te tl : TE} {ma mb me : W PV}
/-! ### a text is walked -/
def strL : PV → Option (List PV)
  | .str z => some (z.cps.toList.map fun c => .str ⟨#[c]⟩)
  | _ => none
def itS (me : W PV) : W (List PV) := bind me fun a => lift (strL a)
theorem w_str (h : EP K Z ρ te me) : WkP K Z ρ (iStr te) (itS me) := fun W0 W σ e R Ψ Ξ hm kk kx =>
  h W0 W σ e _ _ _ hm (fun a v W2 g p ⟨as, ea, z⟩ => by
    match a, ea with
    | .str s, ea =>
      cases ea
      cases p
      have ll : (s.cps.toList.map fun c => PV.str ⟨#[c]⟩).length = s.cps.size := by simp
      refine ⟨s, rfl, kk _ W2 _ g ⟨fun i W1 _ _ h => ?_, fun i W1 _ _ h => ?_, fun i W1 x H' a b hi y => ?_⟩ z⟩
      · rw [ll] at h
        exact h
      · rw [ll] at h
        exact h
      · rw [ll] at hi
        obtain ⟨rfl, c, hc, rfl⟩ := y
        refine ⟨W1, .str ⟨#[c]⟩, rfl, rfl, Go.id b, ?_, rfl⟩
        rw [List.getElem?_map, Array.getElem?_toList, hc]
        rfl) kx
/-! ### order of ints and texts -/
def rLeS : R2 := fun x y H Q => ∃ i j, x = .str i ∧ y = .str j ∧ Q (.bl (!decide (j.cps.toList < i.cps.toList))) H
def rLeU : R2 := fun x y H Q => rI0 (fun i j => .bl (decide (i ≤ j))) x y H Q ∨ rLeS x y H Q
theorem op_leU : OpR X (compareOp .LtE) rLeU := op_or op_le op_le_str
def leU : PV → PV → Option PV
  | .int a, .int b => some (.bl (decide (a ≤ b)))
  | .str a, .str b => some (.bl (!decide (b.cps.toList < a.cps.toList)))
  | _, _ => none
theorem ow_leU : OpW K rLeU leU := fun a b c e R H x y s px py C k => by
  match a, b, e with
  | .int i, .int j, e =>
    cases e
    cases px
    cases py
    exact .inl ⟨i, j, rfl, rfl, k _ rfl⟩
  | .str i, .str j, e =>
    cases e
    cases px
    cases py
    exact .inr ⟨i, j, rfl, rfl, k _ rfl⟩
end
end SL

namespace SL
open PySem PySem.Spec PyProof.Rows L2 Evl NF WL
/-! ### reckoning with what comes of code -/
section
variable {α β S T A : Type}
@[simp] theorem r_bind (a : α) (k : α → W β) : bind (ret a) k = k a := rfl
@[simp] theorem r_bindF_nx (s : S) (k : S → W (Fl T)) : bindF (ret (.nx s)) k = k s := rfl
@[simp] theorem r_bindF_rt (r : RV) (k : S → W (Fl T)) : bindF (ret (.rt r)) k = ret (.rt r) := rfl
@[simp] theorem r_bb {γ : Type} (m : W α) (k : α → W β) (l : β → W γ) : bind (bind m k) l = bind m fun a => bind (k a) l := rfl
@[simp] theorem r_bFb (m : W α) (k : α → W (Fl S)) (l : S → W (Fl T)) : bindF (bind m k) l = bind m fun a => bindF (k a) l := rfl
@[simp] theorem r_bFF {U : Type} (m : W (Fl S)) (k : S → W (Fl T)) (l : T → W (Fl U)) : bindF (bindF m k) l = bindF m fun s => bindF (k s) l := by
  funext S Ψ Ξ
  show m S _ Ξ = m S _ Ξ
  congr 1
  funext f S2
  cases f <;> rfl
@[simp] theorem r_lift (a : α) : lift (some a) = ret a := lift_some a
@[simp] theorem r_noX (a : α) : noX (ret a) = ret a := rfl
@[simp] theorem r_noXb (m : W α) (k : α → W β) : noX (bind m k) = bind (noX m) fun a => noX (k a) := rfl
@[simp] theorem r_noXX (m : W α) : noX (noX m) = noX m := rfl
@[simp] theorem r_noXl (o : Option α) : noX (lift o) = lift o := rfl
@[simp] theorem r_op2 (f : PV → PV → Option PV) (a b : PV) : op2 f (ret a) (ret b) = lift (f a b) := rfl
@[simp] theorem r_op1 (f : PV → Option PV) (a : PV) : op1 f (ret a) = lift (f a) := rfl
@[simp] theorem r_cb (f : List PV → Option PV) (as : List PV) : cb f (ret as) = lift (f as) := rfl
@[simp] theorem r_cbO (f : List PV → Option (List PV)) (as : List PV) : cbO f (ret as) = lift (f as) := rfl
@[simp] theorem r_vnil : vnil = ret [] := rfl
@[simp] theorem r_vcons (a : PV) (as : List PV) : vcons (ret a) (ret as) = ret (a :: as) := rfl
@[simp] theorem r_tst (b : Bool) : tst (ret (.bl b)) = ret b := by unfold tst; simp [isB]
@[simp] theorem r_andT1 (m : W Bool) : andT (ret true) m = m := rfl
@[simp] theorem r_andT0 (m : W Bool) : andT (ret false) m = ret false := rfl
@[simp] theorem r_orT1 (m : W Bool) : orT (ret true) m = ret true := rfl
@[simp] theorem r_orT0 (m : W Bool) : orT (ret false) m = m := rfl
@[simp] theorem r_notT (b : Bool) : notT (ret b) = ret !b := rfl
@[simp] theorem r_andV1 (m : W PV) : andV (ret (.bl true)) m = m := by unfold andV; simp [isB]
@[simp] theorem r_andV0 (m : W PV) : andV (ret (.bl false)) m = ret (.bl false) := by unfold andV; simp [isB]
@[simp] theorem r_orV1 (m : W PV) : orV (ret (.bl true)) m = ret (.bl true) := by unfold orV; simp [isB]
@[simp] theorem r_orV0 (m : W PV) : orV (ret (.bl false)) m = m := by unfold orV; simp [isB]
@[simp] theorem r_notV (b : Bool) : notV (ret (.bl b)) = ret (.bl !b) := by unfold notV; simp [isB]
@[simp] theorem r_ifE1 (ma mb : W PV) : ifE (ret true) ma mb = ma := rfl
@[simp] theorem r_ifE0 (ma mb : W PV) : ifE (ret false) ma mb = mb := rfl
@[simp] theorem r_chain (f1 f2 : PV → PV → Option PV) (a b : PV) (mc : W PV) : chain f1 f2 (ret a) (ret b) mc = bind (lift (f1 a b)) fun u => bind (lift (isB u)) fun t => if t = true then bind mc fun c => lift (f2 b c) else ret (.bl false) := rfl
@[simp] theorem r_chain3 (f1 f2 f3 : PV → PV → Option PV) (a b c : PV) (md : W PV) : chain3 f1 f2 f3 (ret a) (ret b) (ret c) md = bind (lift (f1 a b)) fun u => bind (lift (isB u)) fun t => if t = true then bind (lift (f2 b c)) fun u2 => bind (lift (isB u2)) fun t2 => if t2 = true then bind md fun d => lift (f3 c d) else ret (.bl false) else ret (.bl false) := rfl
@[simp] theorem r_isB (b : Bool) : isB (.bl b) = some b := rfl
@[simp] theorem r_tup (as : List PV) : tupW (ret as) = lift (if as.length ≤ 100000 then some (.tup as) else none) := rfl
@[simp] theorem r_lstO (as : List PV) : lstO (ret as) = lift (if as.length ≤ 100000 then some as else none) := rfl
@[simp] theorem r_setl (as : List PV) : setl (ret as) = ret (.lst as) := rfl
@[simp] theorem r_addO (a b : PV) : addO (ret a) (ret b) = lift (addL a b) := rfl
@[simp] theorem r_runF_rt (r : RV) : runF (ret (.rt r)) = ret r := rfl
@[simp] theorem r_runF_nx (s : Unit) : runF (ret (.nx s)) = ret (.v .non) := rfl
@[simp] theorem r_runF_b (m : W α) (k : α → W (Fl Unit)) : runF (bind m k) = bind m fun a => runF (k a) := rfl
@[simp] theorem r_pv_v (a : PV) : (RV.v a).pv = a := rfl
@[simp] theorem r_pv_o (as : List PV) : (RV.o as).pv = .lst as := rfl
@[simp] theorem r_asO (as : List PV) : asO (.o as) = some as := rfl
@[simp] theorem r_itL (as : List PV) : itL (ret (.lst as)) = ret as := by unfold itL; simp [asL]
@[simp] theorem r_itR (n : Int) (h1 : -(2 ^ 60) < n) (h2 : n < 2 ^ 60) : itR (ret [.int n]) = ret ((List.range n.toNat).map fun i : Nat => .int (i : Int)) := by unfold itR; simp only [r_bind]; rw [show rngL [.int n] = some ((List.range n.toNat).map fun i : Nat => .int (i : Int)) by show (if -(2 ^ 60) < n ∧ n < 2 ^ 60 then some ((List.range n.toNat).map fun i : Nat => PV.int (i : Int)) else none) = _; rw [if_pos ⟨h1, h2⟩]]; exact lift_some _
@[simp] theorem r_itE (as : List PV) : itE (ret [.lst as]) = ret (enumF 0 as) := by unfold itE; simp [enumL]
@[simp] theorem r_itZ (as bs : List PV) : itZ (ret [.lst as, .lst bs]) = ret (zipF as bs) := by unfold itZ; simp [zipL]
@[simp] theorem r_for0 (f : PV → Option A) (F : A → S → W (Fl S)) (s : S) : forW f F [] s = ret (.nx s) := rfl
@[simp] theorem r_for1 (F : PV → S → W (Fl S)) (a : PV) (l : List PV) (s : S) : forW some F (a :: l) s = bindF (F a s) (forW some F l) := by rw [forW, lift_some]; rfl
theorem r_for2 (F : PV × PV → S → W (Fl S)) (a b : PV) (l : List PV) (s : S) : forW (tupF2 some some) F (.tup [a, b] :: l) s = bindF (F (a, b) s) (forW (tupF2 some some) F l) := by
  rw [forW]
  simp [tupF2]
/-! what a piece waits for -/
@[simp] theorem b_op2a (f : PV → PV → Option PV) (m : W α) (k : α → W PV) (mb : W PV) : op2 f (bind m k) mb = bind m fun a => op2 f (k a) mb := rfl
@[simp] theorem b_op2b (f : PV → PV → Option PV) (a : PV) (m : W α) (k : α → W PV) : op2 f (ret a) (bind m k) = bind m fun b => op2 f (ret a) (k b) := rfl
@[simp] theorem b_op1 (f : PV → Option PV) (m : W α) (k : α → W PV) : op1 f (bind m k) = bind m fun a => op1 f (k a) := rfl
@[simp] theorem b_cb (f : List PV → Option PV) (m : W α) (k : α → W (List PV)) : cb f (bind m k) = bind m fun a => cb f (k a) := rfl
@[simp] theorem b_cbO (f : List PV → Option (List PV)) (m : W α) (k : α → W (List PV)) : cbO f (bind m k) = bind m fun a => cbO f (k a) := rfl
@[simp] theorem b_vcons (m : W α) (k : α → W PV) (ms : W (List PV)) : vcons (bind m k) ms = bind m fun a => vcons (k a) ms := rfl
@[simp] theorem b_vcons2 (a : PV) (m : W α) (k : α → W (List PV)) : vcons (ret a) (bind m k) = bind m fun b => vcons (ret a) (k b) := rfl
@[simp] theorem b_tst (m : W α) (k : α → W PV) : tst (bind m k) = bind m fun a => tst (k a) := rfl
@[simp] theorem b_notT (m : W α) (k : α → W Bool) : notT (bind m k) = bind m fun a => notT (k a) := rfl
@[simp] theorem b_orT (m : W α) (k : α → W Bool) (n : W Bool) : orT (bind m k) n = bind m fun a => orT (k a) n := rfl
@[simp] theorem b_andT (m : W α) (k : α → W Bool) (n : W Bool) : andT (bind m k) n = bind m fun a => andT (k a) n := rfl
@[simp] theorem b_orV (m : W α) (k : α → W PV) (n : W PV) : orV (bind m k) n = bind m fun a => orV (k a) n := rfl
@[simp] theorem b_andV (m : W α) (k : α → W PV) (n : W PV) : andV (bind m k) n = bind m fun a => andV (k a) n := rfl
@[simp] theorem b_notV (m : W α) (k : α → W PV) : notV (bind m k) = bind m fun a => notV (k a) := rfl
@[simp] theorem b_ifE (m : W α) (k : α → W Bool) (x y : W PV) : ifE (bind m k) x y = bind m fun a => ifE (k a) x y := rfl
@[simp] theorem b_tup (m : W α) (k : α → W (List PV)) : tupW (bind m k) = bind m fun a => tupW (k a) := rfl
@[simp] theorem b_lstO (m : W α) (k : α → W (List PV)) : lstO (bind m k) = bind m fun a => lstO (k a) := rfl
@[simp] theorem b_setl (m : W α) (k : α → W (List PV)) : setl (bind m k) = bind m fun a => setl (k a) := rfl
@[simp] theorem b_itL (m : W α) (k : α → W PV) : itL (bind m k) = bind m fun a => itL (k a) := rfl
@[simp] theorem b_itR (m : W α) (k : α → W (List PV)) : itR (bind m k) = bind m fun a => itR (k a) := rfl
/-! operations on ints and the like -/
@[simp] theorem r_addI (a b : Int) : addF (.int a) (.int b) = some (.int (a + b)) := rfl
@[simp] theorem r_subI (a b : Int) : subF (.int a) (.int b) = some (.int (a - b)) := rfl
@[simp] theorem r_ltI (a b : Int) : ltF (.int a) (.int b) = some (.bl (decide (a < b))) := rfl
@[simp] theorem r_leI (a b : Int) : leF (.int a) (.int b) = some (.bl (decide (a ≤ b))) := rfl
@[simp] theorem r_gtI (a b : Int) : gtF (.int a) (.int b) = some (.bl (decide (a > b))) := rfl
@[simp] theorem r_geI (a b : Int) : geF (.int a) (.int b) = some (.bl (decide (a ≥ b))) := rfl
@[simp] theorem r_negI (a : Int) : negF (.int a) = some (.int (-a)) := rfl
@[simp] theorem r_absI (a : Int) : absF [.int a] = some (.int (if a < 0 then -a else a)) := rfl
@[simp] theorem r_max2 (a b : Int) : max2F [.int a, .int b] = some (.int (if b > a then b else a)) := rfl
@[simp] theorem r_min2 (a b : Int) : min2F [.int a, .int b] = some (.int (if b < a then b else a)) := rfl
@[simp] theorem r_lenL (as : List PV) : lenF [.lst as] = some (.int (as.length : Int)) := rfl
@[simp] theorem r_lenT (as : List PV) : lenF [.tup as] = some (.int (as.length : Int)) := rfl
theorem r_modI {a b : Int} (h : b ≠ 0) : modF (.int a) (.int b) = some (.int (a.fmod b)) := by simp only [modF]; rw [if_pos h]
theorem r_fdivI {a b : Int} (h : b ≠ 0) (h2 : b.natAbs.log2 < 9000) : fdivF (.int a) (.int b) = some (.int (a.fdiv b)) := by simp only [fdivF]; rw [if_pos ⟨h, h2⟩]
theorem r_mulI {a b : Int} (h : a.natAbs.log2 + b.natAbs.log2 < 1000000) : mulF (.int a) (.int b) = some (.int (a * b)) := by simp only [mulF]; rw [if_pos h]
theorem atI_nat' {α : Type} (as : List α) (n : Nat) (h : n < as.length) : atI as (n : Int) = some as[n] := atI_nat (List.getElem?_eq_getElem h)
@[simp] theorem r_ixL0 (a : PV) (as : List PV) : ixF (.lst (a :: as)) (.int 0) = some a := atI_nat (j := 0) rfl
@[simp] theorem r_ixT0 (a : PV) (as : List PV) : ixF (.tup (a :: as)) (.int 0) = some a := atI_nat (j := 0) rfl
@[simp] theorem r_ixL1 (a b : PV) (as : List PV) : ixF (.lst (a :: b :: as)) (.int 1) = some b := atI_nat (j := 1) rfl
@[simp] theorem r_ixT1 (a b : PV) (as : List PV) : ixF (.tup (a :: b :: as)) (.int 1) = some b := atI_nat (j := 1) rfl
@[simp] theorem r_ixT2 (a b c : PV) (as : List PV) : ixF (.tup (a :: b :: c :: as)) (.int 2) = some c := atI_nat (j := 2) rfl
theorem r_ixL {as : List PV} {n : Nat} {a : PV} (h : as[n]? = some a) : ixF (.lst as) (.int (n : Int)) = some a := atI_nat h
theorem r_ixT {as : List PV} {n : Nat} {a : PV} (h : as[n]? = some a) : ixF (.tup as) (.int (n : Int)) = some a := atI_nat h
/-! == of scalars -/
theorem shaped_int (i : Int) : SeqAt.shaped (.int i) = true := rfl
@[simp] theorem r_eqI (a b : Int) : eqF (.int a) (.int b) = some (.bl (decide (a = b))) := by
  unfold eqF eqD
  simp only [toD]
  rw [if_pos ⟨rfl, rfl, rfl, rfl⟩]
  simp only [PyData.eqv]
  rfl
@[simp] theorem r_neI (a b : Int) : neF (.int a) (.int b) = some (.bl (!decide (a = b))) := by
  unfold neF neD
  simp only [toD]
  rw [if_pos ⟨rfl, rfl, rfl, rfl⟩]
  simp only [PyData.eqv]
  rfl
@[simp] theorem r_eqS (a b : Str) : eqF (.str a) (.str b) = some (.bl (decide (a = b))) := rfl
@[simp] theorem r_neS (a b : Str) : neF (.str a) (.str b) = some (.bl (!decide (a = b))) := rfl
@[simp] theorem r_callW (F : List PV → W RV) (ds as : List PV) : callW F ds (ret as) = bind (noX (F (as ++ ds))) fun r => ret r.pv := rfl
@[simp] theorem r_callO (F : List PV → W RV) (ds as : List PV) : callO F ds (ret as) = bind (noX (F (as ++ ds))) fun r => lift (asO r) := rfl
@[simp] theorem b_callW (F : List PV → W RV) (ds : List PV) (m : W α) (k : α → W (List PV)) : callW F ds (bind m k) = bind m fun a => callW F ds (k a) := rfl
@[simp] theorem b_callO (F : List PV → W RV) (ds : List PV) (m : W α) (k : α → W (List PV)) : callO F ds (bind m k) = bind m fun a => callO F ds (k a) := rfl
@[simp] theorem r_ar0 (F : W RV) : ar0 F [] = F := rfl
@[simp] theorem r_ar1 (F : PV → W RV) (a : PV) : ar1 F [a] = F a := rfl
@[simp] theorem r_ar2 (F : PV → PV → W RV) (a b : PV) : ar2 F [a, b] = F a b := rfl
@[simp] theorem r_ar3 (F : PV → PV → PV → W RV) (a b c : PV) : ar3 F [a, b, c] = F a b c := rfl
@[simp] theorem r_ar4 (F : PV → PV → PV → PV → W RV) (a b c d : PV) : ar4 F [a, b, c, d] = F a b c d := rfl
@[simp] theorem r_ar5 (F : PV → PV → PV → PV → PV → W RV) (a b c d e : PV) : ar5 F [a, b, c, d, e] = F a b c d e := rfl
@[simp] theorem r_fldI (c : Addr) (f : Str) (ns : List Str) (as : List PV) : fldW c f (ret (.ins c ns as)) = lift ((ns.zip as).lookup f) := by
  funext S Ψ Ξ
  show (∃ a, fldG c f S (.ins c ns as) = some a ∧ Ψ a S) = ∃ a, (ns.zip as).lookup f = some a ∧ Ψ a S
  simp [fldG]
@[simp] theorem b_fld (c : Addr) (f : Str) (m : W α) (k : α → W PV) : fldW c f (bind m k) = bind m fun a => fldW c f (k a) := rfl
@[simp] theorem r_lrI (n : Int) (h1 : -(2 ^ 60) < n) (h2 : n ≤ 100000) : lrO (ret (.int n)) = ret ((List.range n.toNat).map fun i : Nat => .int (i : Int)) := by
  unfold lrO
  simp only [r_bind]
  rw [show lrF (.int n) = some ((List.range n.toNat).map fun i : Nat => PV.int (i : Int)) by simp only [lrF]; rw [if_pos ⟨h1, h2⟩]]
  exact lift_some _
@[simp] theorem r_lenS (ns : List Int) : lenF [.scr ns] = some (.int (ns.length : Int)) := rfl
/-! loops -/
theorem use_bindF {m : W (Fl S)} {k : S → W (Fl T)} {S0 : Sto} {Ψ : Fl T → Sto → Prop} {Ξ : XV → Sto → Prop} (h : m S0 (fun fl S2 => match fl with | .nx s => k s S2 Ψ Ξ | .rt r => Ψ (.rt r) S2) Ξ) : bindF m k S0 Ψ Ξ := by
  show m S0 (fun fl S2 => (match fl with | .nx s => k s | .rt r => ret (.rt r) : W (Fl T)) S2 Ψ Ξ) Ξ
  have e : (fun (fl : Fl S) (S2 : Sto) => (match fl with | .nx s => k s | .rt r => ret (.rt r) : W (Fl T)) S2 Ψ Ξ) = fun fl S2 => match fl with | .nx s => k s S2 Ψ Ξ | .rt r => Ψ (.rt r) S2 := by
    funext fl S2
    cases fl <;> rfl
  rw [e]
  exact h
theorem use_runF {m : W (Fl Unit)} {S0 : Sto} {Ψ : RV → Sto → Prop} {Ξ : XV → Sto → Prop} (h : m S0 (fun fl S2 => match fl with | .nx _ => Ψ (.v .non) S2 | .rt r => Ψ r S2) Ξ) : runF m S0 Ψ Ξ := by
  show m S0 (fun fl S2 => (match fl with | .nx _ => ret (.v .non) | .rt r => ret r : W RV) S2 Ψ Ξ) Ξ
  have e : (fun (fl : Fl Unit) (S2 : Sto) => (match fl with | .nx _ => ret (.v .non) | .rt r => ret r : W RV) S2 Ψ Ξ) = fun fl S2 => match fl with | .nx _ => Ψ (.v .non) S2 | .rt r => Ψ r S2 := by
    funext fl S2
    cases fl <;> rfl
  rw [e]
  exact h
/-- a loop by an invariant of its state and of the places -/
theorem for_inv {f : PV → Option A} {F : A → S → W (Fl S)} {Φ : Fl S → Sto → Prop} {Ξ : XV → Sto → Prop} (I : S → Sto → Prop) : ∀ (as : List PV) (s : S) (S0 : Sto), I s S0 → (∀ a ∈ as, ∀ s S1 Φ', I s S1 → (∀ s' S2, I s' S2 → Φ' (.nx s') S2) → (bind (lift (f a)) fun x => F x s) S1 Φ' Ξ) → (∀ s S1, I s S1 → Φ (.nx s) S1) → forW f F as s S0 Φ Ξ
  | [], s, S0, i, _, k => k s S0 i
  | a :: as, s, S0, i, h, k => by
    have := h a (List.mem_cons_self ..) s S0 (fun fl S2 => match fl with | .nx s' => forW f F as s' S2 Φ Ξ | .rt r => Φ (.rt r) S2) i fun s' S2 i' => for_inv I as s' S2 i' (fun b hb => h b (List.mem_cons_of_mem _ hb)) k
    obtain ⟨x, ex, z⟩ := this
    exact ⟨x, ex, use_bindF z⟩
theorem while_no {c : S → W Bool} {F : S → W (Fl S)} {s : S} (hc : c s = ret false) : whileW c F s = ret (.nx s) := by
  funext S0 Φ Ξ
  apply propext
  constructor
  · rintro ⟨n, h⟩
    cases n with
    | zero => exact h.elim
    | succ n =>
      rw [iterW, hc] at h
      exact h
  · intro h
    refine ⟨1, ?_⟩
    rw [iterW, hc]
    exact h
theorem while_go {c : S → W Bool} {F : S → W (Fl S)} {s s' : S} (hc : c s = ret true) (hF : F s = ret (.nx s')) : whileW c F s = whileW c F s' := by
  funext S0 Φ Ξ
  apply propext
  constructor
  · rintro ⟨n, h⟩
    cases n with
    | zero => exact h.elim
    | succ n =>
      rw [iterW, hc, r_bind, if_pos rfl, hF] at h
      exact ⟨n, h⟩
  · rintro ⟨n, h⟩
    refine ⟨n + 1, ?_⟩
    rw [iterW, hc, r_bind, if_pos rfl, hF]
    exact h
/-- a comprehension, item by item -/
theorem lc_map {f : PV → Option A} {F : A → W PV} {g : PV → PV} : ∀ {as : List PV}, (∀ a ∈ as, ∃ x, f a = some x ∧ F x = ret (g a)) → lcF f (fun _ => ret true) F as = ret (as.map g)
  | [], _ => rfl
  | a :: as, h => by
    obtain ⟨x, e1, e2⟩ := h a (List.mem_cons_self ..)
    rw [lcF, e1, r_lift, r_bind, r_bind, if_pos rfl, e2, r_bind, lc_map fun b hb => h b (List.mem_cons_of_mem _ hb)]
    rfl
theorem lc_filter {f : PV → Option A} {c : A → W Bool} {F : A → W PV} {p : PV → Bool} {g : PV → PV} : ∀ {as : List PV}, (∀ a ∈ as, ∃ x, f a = some x ∧ c x = ret (p a) ∧ (p a = true → F x = ret (g a))) → lcF f c F as = ret ((as.filter p).map g)
  | [], _ => rfl
  | a :: as, h => by
    obtain ⟨x, e1, e2, e3⟩ := h a (List.mem_cons_self ..)
    have ih := lc_filter (p := p) (g := g) fun b hb => h b (List.mem_cons_of_mem _ hb)
    rw [lcF, e1, r_lift, r_bind, e2, r_bind]
    cases hp : p a with
    | true =>
      rw [if_pos rfl, e3 hp, r_bind, ih, List.filter_cons_of_pos hp]
      rfl
    | false =>
      rw [if_neg (by simp), ih, List.filter_cons_of_neg (by simp [hp])]
theorem r_lcO {f : PV → Option A} {c : A → W Bool} {F : A → W PV} {as bs : List PV} (hl : as.length ≤ 50000) (h : lcF f c F as = ret bs) : lcO f c F (ret as) = ret bs := by
  unfold lcO
  simp only [r_bind]
  rw [show few 50000 as = some as by unfold few; rw [if_pos hl], r_lift, r_bind, h]
  rfl
end
end SL

namespace SL
open PySem PySem.Spec PyProof.Rows L2 Evl NF WL
def withP {α : Type} (a : PV) (k : Addr → W α) : W α := match a with
  | .ptr p => k p
  | _ => fail
theorem withP_inv {α : Type} {a : PV} {k : Addr → W α} {S Ψ Ξ} (h : withP a k S Ψ Ξ) : ∃ p, a = .ptr p ∧ k p S Ψ Ξ := by
  unfold withP at h
  split at h
  · exact ⟨_, rfl, h⟩
  · exact h.elim
section
variable {X : Cx} {C : Addr} {j k : Nat} {m : Str} {ps : List Str} {sp : Sp} {o : Expr} {ta : TE} {pos apos : Pos} {pl : Sem Bool}
theorem pe_cm0 (M : CalM X.prog X.w X.K X.mg X.base C k m ps sp) (hr : Room j X.A) (hk : k ≤ j) (he : PE X o ta)
    (ht : eval (.Call (.Attribute o m apos) [] [] pos) X.env = (do
      let ov ← eval o X.env
      standAt apos.atName
      let (g, first) ← holding [ov] (getMethod ov m pl)
      callWith pos g first (backTo pos (starEach [] X.env)) (backToKw pos (keywordEach [] X.env))) := by rfl) : PE X (.Call (.Attribute o m apos) [] [] pos) (tMeth C m sp [] E0 ta tNil) := by
  obtain ⟨f, fd, hm, F, b⟩ := M.ex
  exact pe_meth0 he M.cl hm F (hr.mono hk) b .nil pass0 ht
theorem pi_listK' {K : PySem.W.Frag} {tg e : Expr} {te : TE} (h : X.K = K) (he : PE X e te) : PI X tg e (iList K te) := h ▸ pi_list he
end
/-- a chain of three as a test -/
theorem pt_chain3 {X : Cx} {a b c d : Expr} {pos : Pos} {ta tb tc td : TE} {o1 o2 o3 : CmpOp} {r1 r2 r3 : R2} (h1 : OpR X (compareOp o1) r1) (h2 : OpR X (compareOp o2) r2) (h3 : OpR X (compareOp o3) r3) (ha : PE X a ta) (hb : PE X b tb) (hc : PE X c tc) (hd : PE X d td)
    (hm : lastMarks [o1, o2, o3] [b, c, d] = false := by with_unfolding_all rfl) : PT X (.Compare a [o1, o2, o3] [b, c, d] pos) (tTest (tChain3 r1 r2 r3 ta tb tc td)) := by
  constructor
  intro pins s σ H Q I h
  refine isTrue_chain (thn (ha.run pins s σ H _ I h) ?_) hm
  rintro va s1 ⟨x, H1, I1, q1, p1⟩
  refine test_link (thn (hb.run pins s1 σ H1 _ I1 p1) ?_)
  rintro vb s2 ⟨y, H2, I2, q2, p2⟩
  refine thn (h1 pins s2 σ H2 x y va vb _ I2 q1 q2 p2) ?_
  rintro vz s3 ⟨z, H3, I3, q3, k, rfl, p3⟩
  cases q3
  refine wpAny_truthy_bool ?_
  cases k with
  | false =>
    obtain ⟨k', e', p'⟩ := p3
    cases e'
    exact ⟨H3, I3, p'⟩
  | true =>
    refine test_link (thn (hc.run pins s3 σ H3 _ I3 p3) ?_)
    rintro vc s4 ⟨u, H4, I4, q4, p4⟩
    refine thn (h2 pins s4 σ H4 y u vb vc _ I4 q2 q4 p4) ?_
    rintro vy s5 ⟨z2, H5, I5, q5, k2, rfl, p5⟩
    cases q5
    refine wpAny_truthy_bool ?_
    cases k2 with
    | false =>
      obtain ⟨k', e', p'⟩ := p5
      cases e'
      exact ⟨H5, I5, p'⟩
    | true =>
      refine test_last (thn (hd.run pins s5 σ H5 _ I5 p5) ?_)
      rintro vd s6 ⟨v, H6, I6, q6, p6⟩
      refine thn (h3 pins s6 σ H6 u v vc vd _ I6 q4 q6 p6) ?_
      rintro vw s7 ⟨z3, H7, I7, q7, k3, rfl, p7⟩
      cases q7
      exact wpAny_truthy_bool ⟨H7, I7, p7⟩
theorem pi_enumK {X : Cx} {K : PySem.W.Frag} {tg e : Expr} {es : List Expr} {x : Str} {p pos : Pos} {ta : TA} (h : X.K = K) (hi : PI X tg (.Call (.Name x p) (e :: es) [] pos) (iEnum X.K ta)) : PI X tg (.Call (.Name x p) (e :: es) [] pos) (iEnum K ta) := h ▸ hi
theorem pi_zipK {X : Cx} {K : PySem.W.Frag} {tg e : Expr} {es : List Expr} {x : Str} {p pos : Pos} {ta : TA} (h : X.K = K) (hi : PI X tg (.Call (.Name x p) (e :: es) [] pos) (iZip X.K ta)) : PI X tg (.Call (.Name x p) (e :: es) [] pos) (iZip K ta) := h ▸ hi
theorem pg_tupK {X : Cx} {K : PySem.W.Frag} {es : List Expr} {k n : Nat} {t : TGs} {pos : Pos} (hK : X.K = K) (hc : X.calm = true) (h : PGs X es t) (hn : (assignEach es X.env).length = n := by rfl) (hst : (assignEach es X.env).findIdx? (·.1) = none := by rfl) : PG X (.Tuple es k pos) (gTup K n t) := hK ▸ pg_tup hc h hn hst
end SL
namespace SL
open PySem PySem.Spec PyProof.Rows L2 Evl NF WL
theorem tab_one {K : PySem.W.Frag} {c : Addr} (h : InsC K c) (k : PySem.W.kitOne K (.ref c) (.ref c) = some true) : TabOk K (.ref c) (fun _ => none) [(c, true)] := ⟨fun n r e => (by cases e), fun x hx => by
  rw [List.mem_singleton] at hx
  subst hx
  exact ⟨h, k⟩⟩
theorem cal_mk {P : Program} {w : World} {K : PySem.W.Frag} {mg : Str → Option Value} {base : Heap} {k : Nat} {x : Str} {ps : List Str} {dvs : List V} {sp : Sp} {f : Addr} {fd : FuncData} {ds : List Value} (h : FnOk P w K mg base CX0 k f fd ps sp) (m : mg x = some (.ref f)) (kp : PySem.W.keepIn K (.ref f) = true) (b : Binds K fd ps ds) (d : Vals dvs ds) : Cal P w K mg base k x ps dvs sp := ⟨⟨f, fd, ds, h, m, kp, b, d⟩⟩
end SL

namespace SL
open PySem PySem.Spec PyProof.Rows L2 Evl NF WL
section
variable {X : Cx} {K : PySem.W.Frag} {Z : WX} {W0 W1 W2 W3 : Wd} {σ : L2.St} {ρ : List Sl} {i j : Nat} {ta tb te to : TE} {tA tr : TA} {ma mb me : W PV} {ms mk : W (List PV)}
/-! ### methods that read -/
def isT (T : String) : PV → Option Unit
  | .lst _ => if T = "list" then some () else none
  | .str _ => if T = "str" then some () else none
  | _ => none
theorem isT_p {T : String} {a : PV} {R H : Hp} {v : V} (h : isT T a = some ()) (s : Ex R H) (p : (mp K a).p R v) : tyV K T v H := by
  cases a <;> simp only [isT] at h <;> (try cases h)
  · split at h
    · rename_i e
      cases p
      exact e
    · cases h
  · split at h
    · rename_i e
      obtain ⟨q, vs, rfl, hq, _⟩ := p
      exact .inl ⟨e, vs, SqL.of (s _ _ hq)⟩
    · cases h
def MbW (K : PySem.W.Frag) (r : V → List V → Hp → VK → Prop) (f : PV → List PV → Option PV) : Prop := ∀ a as c, f a as = some c → ∀ (R H : Hp) (x : V) (vs : List V), Ex R H → (mp K a).p R x → Al R vs (mps K as) → ∀ C : VK, (∀ v, (mp K c).p R v → C v H) → r x vs H C
def bmW (T : String) (f : PV → List PV → Option PV) (ma : W PV) (ms : W (List PV)) : W PV := bind ma fun a => bind (lift (isT T a)) fun _ => bind ms fun as => lift (f a as)
theorem p_bm {T : String} {r : V → List V → Hp → VK → Prop} {f : PV → List PV → Option PV} (hf : MbW K r f) (ha : EP K Z ρ ta ma) (hs : VP K Z ρ tA ms) : EP K Z ρ (tBM K T r ta tA) (bmW T f ma ms) := fun W0 W σ e Q Ψ Ξ hm k kx =>
  ha W0 W σ e _ _ _ hm (fun a v W1 g1 p z => by
    obtain ⟨u, hu, z⟩ := z
    refine ⟨isT_p hu g1.ok.sub p, hs W0 W1 σ (e.go g1) _ _ _ z (fun as vs W2 g2 al z => ?_) (kx.go g1)⟩
    obtain ⟨c, ec, z⟩ := z
    exact hf a as c ec W2.r W2.h v vs g2.ok.sub (MP.mono _ g2.le.r p) al _ fun v pv => k c v W2 (g1.trans g2) pv z) kx
/-! list.count of truths -/
def cntF : PV → List PV → Option PV
  | .lst as, [.bl b] => (asBs as).map fun bs => .int (bs.count b : Nat)
  | _, _ => none
theorem mt_countK (h : X.K = K) : MtR X "list.count" (rCntB K) := h ▸ mt_countB
theorem mw_count : MbW K (rCntB K) cntF := fun a as c e R H x vs s p al C k => by
  match a, as, e with
  | .lst bs, [.bl b], e =>
    simp only [cntF] at e
    cases h : asBs bs with
    | none => rw [h] at e; cases e
    | some ds =>
      rw [h] at e
      cases e
      obtain ⟨q, us, rfl, hq, a2⟩ := p
      obtain ⟨v, rfl, pv⟩ := Al.inv1 al
      cases pv
      rw [asBs_al h a2] at hq
      exact ⟨q, ds, b, rfl, rfl, SqL.of (s _ _ hq), k _ rfl⟩
/-! list.index of whole numbers -/
def idxF : PV → List PV → Option PV
  | .lst as, [.int b] => match asIs as with
    | some is => (is.idxOf? b).map fun j => .int (j : Int)
    | none => none
  | _, _ => none
theorem mw_index : MbW K (rIndex K) idxF := fun a as c e R H x vs s p al C k => by
  match a, as, e with
  | .lst bs, [.int b], e =>
    simp only [idxF] at e
    cases h : asIs bs with
    | none => rw [h] at e; cases e
    | some ds =>
      rw [h] at e
      simp only at e
      cases h2 : ds.idxOf? b with
      | none => rw [h2] at e; cases e
      | some j =>
        rw [h2] at e
        cases e
        obtain ⟨q, us, rfl, hq, a2⟩ := p
        obtain ⟨v, rfl, pv⟩ := Al.inv1 al
        cases pv
        rw [asIs_al h a2] at hq
        obtain ⟨hj, h3, h4⟩ := List.idxOf?_eq_some_iff.mp h2
        have e1 : ds[j]? = some b := by rw [List.getElem?_eq_getElem hj, h3]
        refine ⟨q, ds.map V.int, .int b, j, .int b, rfl, rfl, SqL.of (s _ _ hq), rfl, flat_ints _, by rw [List.getElem?_map, e1]; rfl, by show (b == b) = true; simp, fun m z hm hz => ?_, k _ rfl⟩
        rw [List.getElem?_map] at hz
        have hm2 : m < ds.length := by omega
        rw [List.getElem?_eq_getElem hm2] at hz
        cases hz
        show (ds[m] == b) = false
        have := h4 m hm
        simpa using this
/-! sorted of whole numbers -/
def srt (is : List Int) : List Int := is.mergeSort fun a b => decide (a ≤ b)
theorem srt_perm (is : List Int) : (srt is).Perm is := List.mergeSort_perm _ _
theorem srt_sorted (is : List Int) : (srt is).Pairwise (· ≤ ·) := by
  have := List.pairwise_mergeSort (le := fun a b : Int => decide (a ≤ b)) (fun a b c h1 h2 => by simp at *; omega) (fun a b => by simp; omega) is
  exact this.imp fun h => by simpa using h
def sortF : List PV → Option (List PV)
  | [.lst as] => match asIs as with
    | some is => if is.length < 64 then some ((srt is).map .int) else none
    | none => none
  | _ => none
theorem al_ints {H : Hp} : ∀ ns : List Int, Al H (ns.map V.int) (mps K (ns.map PV.int))
  | [] => .nil
  | n :: ns => .cons rfl (al_ints ns)
theorem cm_sorted : CbM K (rSorted K) sortF := fun as cs e R H vs s al C k => by
  match as, e with
  | [.lst bs], e =>
    simp only [sortF] at e
    cases h : asIs bs with
    | none => rw [h] at e; cases e
    | some is =>
      rw [h] at e
      simp only at e
      split at e
      · rename_i hl
        cases e
        obtain ⟨v, rfl, p, us, rfl, hp, a2⟩ := Al.inv1 al
        rw [asIs_al h a2] at hp
        refine ⟨p, is, rfl, SqL.of (s _ _ hp), hl, fun ns' q hp' hs' hq => ?_⟩
        have : ns' = srt is := List.Perm.eq_of_pairwise (le := (· ≤ ·)) (fun a b _ _ h1 h2 => Int.le_antisymm h1 h2) hs' (srt_sorted is) (hp'.trans (srt_perm is).symm)
        subst this
        exact k q _ hq (al_ints _)
      · cases e
/-! in, of whole numbers -/
def inF (neg : Bool) (a b : PV) : Option PV := match a, b with
  | .int i, .lst as => match asIs as with
    | some is => some (.bl (if neg then !decide (i ∈ is) else decide (i ∈ is)))
    | none => none
  | _, _ => none
theorem ow_in {neg : Bool} : OpW K (rIn K neg) (inF neg) := fun a b c e R H x y s px py C k => by
  match a, b, e with
  | .int i, .lst as, e =>
    simp only [inF] at e
    cases h : asIs as with
    | none => rw [h] at e; cases e
    | some is =>
      rw [h] at e
      cases e
      cases px
      obtain ⟨p, us, rfl, hp, a2⟩ := py
      rw [asIs_al h a2] at hp
      exact ⟨p, _, rfl, .inl (SqL.of (s _ _ hp)), rfl, flat_ints _, by rw [inV_int]; exact k _ rfl⟩
/-! ### places that may change: lists -/
def lenC (ma : W PV) : W PV := bind ma fun a => fun S Ψ _ => ∃ p as, a = .ptr p ∧ S p = some (.lst as) ∧ Ψ (.int (as.length : Int)) S
theorem p_lenC (ha : EP K Z ρ ta ma) : EP K Z ρ (tCB (rLenU K) (tCons ta tNil)) (lenC ma) := fun W0 W σ e Q Ψ Ξ hm k kx => ha W0 W σ e _ _ _ hm (fun a v W1 g1 p z => by
  obtain ⟨q, as, rfl, hs, z⟩ := z
  cases p
  obtain ⟨vs, h1, h2⟩ := (g1.ok.cell q _ hs).2
  exact .inl ⟨q, vs, rfl, .inl (SqL.of h1), k _ _ W1 g1 (by rw [h2.length, mps_len]; rfl) z⟩) kx
def ixC (ma mb : W PV) : W PV := bind ma fun a => bind mb fun b => fun S Ψ _ => ∃ p as c, a = .ptr p ∧ S p = some (.lst as) ∧ ixF (.lst as) b = some c ∧ Ψ c S
theorem p_ixC (ha : EP K Z ρ ta ma) (hb : EP K Z ρ tb mb) : EP K Z ρ (tOp (rIxU K) ta tb) (ixC ma mb) := fun W0 W σ e Q Ψ Ξ hm k kx => ha W0 W σ e _ _ _ hm (fun a v W1 g1 p z => hb W0 W1 σ (e.go g1) _ _ _ z (fun b y W2 g2 py z => by
  obtain ⟨q, as, c, rfl, hs, hc, z⟩ := z
  cases p
  obtain ⟨vs, h1, h2⟩ := (g2.ok.cell q _ hs).2
  match b, hc with
  | .int i, hc =>
    cases py
    obtain ⟨v, hv, pv⟩ := atI_al h2 hc
    exact .inl ⟨q, vs, i, v, rfl, rfl, SqL.of h1, hv, k c v W2 (g1.trans g2) pv z⟩) (kx.go g1)) kx
def isLC (a : PV) (S : Sto) : Option Unit := match a with
  | .ptr p => match S p with
    | some (.lst _) => some ()
    | _ => none
  | _ => none
theorem isLC_p {a : PV} {S : Sto} (h : isLC a S = some ()) : ∃ p as, a = .ptr p ∧ S p = some (.lst as) := by
  unfold isLC at h
  split at h
  · split at h
    · rename_i p _ as e
      exact ⟨p, as, rfl, e⟩
    · cases h
  · cases h
/-- x.pop(i) -/
def popC (ma : W PV) (ms : W (List PV)) : W PV := bind ma fun a => bind (look (isLC a)) fun _ => bind ms fun is => fun S Ψ _ => ∃ (p : Addr) (as : List PV) (i : Nat) (c : PV), a = .ptr p ∧ S p = some (.lst as) ∧ is = [.int (i : Int)] ∧ as.length < 2 ^ 60 ∧ as[i]? = some c ∧ Ψ c (put S p (.lst (as.eraseIdx i)))
theorem er_map {α β : Type} {f : α → β} : ∀ (l : List α) (d : Nat), (l.map f).eraseIdx d = (l.eraseIdx d).map f
  | [], _ => by simp
  | _ :: _, 0 => rfl
  | a :: l, d + 1 => congrArg (f a :: ·) (er_map l d)
theorem mps_erase (K : PySem.W.Frag) (as : List PV) (i : Nat) : mps K (as.eraseIdx i) = (mps K as).eraseIdx i := by rw [mps_map, mps_map, er_map]
theorem p_popC (ha : EP K Z ρ ta ma) (hs : VP K Z ρ tA ms) : EP K Z ρ (tBM K "list" rPopAt ta tA) (popC ma ms) := fun W0 W σ e Q Ψ Ξ hm k kx => ha W0 W σ e _ _ _ hm (fun a v W1 g1 p z => by
  obtain ⟨u, hu, z⟩ := z
  obtain ⟨q, as0, rfl, hc⟩ := isLC_p hu
  cases p
  obtain ⟨vs0, h1, _⟩ := (g1.ok.cell q _ hc).2
  refine ⟨.inl ⟨rfl, vs0, SqL.of h1⟩, hs W0 W1 σ (e.go g1) _ _ _ z (fun is vs W2 g2 al z => ?_) (kx.go g1)⟩
  obtain ⟨p', as, i, c, ep, hs2, rfl, hl, hi, z⟩ := z
  cases ep
  obtain ⟨y, rfl, py⟩ := Al.inv1 al
  cases py
  obtain ⟨us, h2, h3⟩ := (g2.ok.cell q _ hs2).2
  obtain ⟨w, hw, pw⟩ := h3.get (mps_get hi)
  have il : i < as.length := (List.getElem?_eq_some_iff.mp hi).1
  have ll : us.length = as.length := by rw [h3.length, mps_len]
  refine ⟨q, us, (i : Int), i, w, rfl, rfl, h2, by omega, by omega, (ixN_seq (ixN_nat (by omega))).1, hw, ?_⟩
  have g3 := put_cell (p := q) (u := .lst (us.eraseIdx i)) (c2 := .lst (as.eraseIdx i)) g2.ok hs2 ⟨_, upd_same, by rw [mps_erase]; exact h3.erase i⟩
  exact k c w _ (g1.trans (g2.trans g3)) pw z) kx
/-! ### f(a, .., k = v, ..): what is handed in, put into the def's order -/
def perm {α : Type} (ix : List Nat) (xs : List α) : List α := ix.filterMap fun i => xs[i]?
theorem al_perm {H : Hp} {vs : List V} {as : List PV} (h : Al H vs (mps K as)) : ∀ ix : List Nat, Al H (perm ix vs) (mps K (perm ix as))
  | [] => .nil
  | i :: ix => by
    have ih := al_perm h ix
    have ll : vs.length = as.length := by rw [h.length, mps_len]
    unfold perm at ih ⊢
    rw [List.filterMap_cons, List.filterMap_cons]
    cases c : as[i]? with
    | none =>
      have : vs[i]? = none := by
        rw [List.getElem?_eq_none_iff] at c ⊢
        omega
      rw [this]
      exact ih
    | some a =>
      obtain ⟨v, hv, pv⟩ := h.get (mps_get c)
      rw [hv]
      exact .cons pv ih
def callN (F : List PV → W RV) (ix : List Nat) (ds : List PV) (n m : Nat) (ms mk : W (List PV)) : W PV := bind ms fun as => bind mk fun bs => bind (lift (if as.length = n ∧ bs.length = m then some () else none)) fun _ => bind (noX (F (perm ix (as ++ (bs ++ ds))))) fun r => ret r.pv
def gvN (ix : List Nat) (dvs : List V) (vs zs : List V) : List V := perm ix (vs ++ (zs ++ dvs))
theorem p_callN {F : List PV → W RV} {ix : List Nat} {dvs : List V} {ds : List PV} {n m : Nat} (hd : ∀ H, Al H dvs (mps K ds)) (ha : VP K Z ρ tA ms) (hk : VP K Z ρ tr mk) : EP K Z ρ (tCallN n m (spW K F) (gvN ix dvs) E0 tA tr) (callN F ix ds n m ms mk) := fun W0 W σ e Q Ψ Ξ hm k kx =>
  ha W0 W σ e _ _ _ hm (fun as vs W1 g1 al z => hk W0 W1 σ (e.go g1) _ _ _ z (fun bs zs W2 g2 al2 z => by
    obtain ⟨u, hu, z⟩ := z
    split at hu
    · rename_i hl
      have al1 := al.mono g2.le.r
      refine ⟨by rw [al.length, mps_len]; exact hl.1, by rw [al2.length, mps_len]; exact hl.2, ?_⟩
      have al3 : Al W2.r (vs ++ (zs ++ dvs)) (mps K (as ++ (bs ++ ds))) := by
        rw [mps_app, mps_app]
        exact al1.app (al2.app (hd _))
      refine ⟨W2, perm ix (as ++ (bs ++ ds)), _, _, rfl, g2.ok, al_perm al3 ix, z, fun r v W3 g3 rr z => ?_, fun _ _ _ _ _ _ z => z.elim⟩
      obtain ⟨W4, e1, e2, g4, p4⟩ := rr_settle g3 rr
      rw [← e1]
      exact k r.pv v W4 ((g1.trans g2).trans g4) p4 (by rw [e2]; exact z)
    · cases hu) (kx.go g1)) kx
def callK (F : List PV → W RV) (ix : List Nat) (ds : List PV) (m : Nat) (mk : W (List PV)) : W PV := bind mk fun bs => bind (lift (if bs.length = m then some () else none)) fun _ => bind (noX (F (perm ix (bs ++ ds)))) fun r => ret r.pv
theorem p_callK {F : List PV → W RV} {ix : List Nat} {m : Nat} (hk : VP K Z ρ tr mk) : EP K Z ρ (tCallW m (spW K F) (fun {α} xs => perm (α := α) ix xs) E0 tr) (callK F ix [] m mk) := fun W0 W σ e Q Ψ Ξ hm k kx =>
  hk W0 W σ e _ _ _ hm (fun bs zs W2 g2 al2 z => by
    obtain ⟨u, hu, z⟩ := z
    split at hu
    · rename_i hl
      refine ⟨by rw [al2.length, mps_len]; exact hl, ?_⟩
      rw [List.append_nil] at z
      refine ⟨W2, perm ix bs, _, _, rfl, g2.ok, al_perm al2 ix, z, fun r v W3 g3 rr z => ?_, fun _ _ _ _ _ _ z => z.elim⟩
      obtain ⟨W4, e1, e2, g4, p4⟩ := rr_settle g3 rr
      rw [← e1]
      exact k r.pv v W4 (g2.trans g4) p4 (by rw [e2]; exact z)
    · cases hu) kx
theorem vals_app : ∀ {vs zs : List V} {us ws : List Value}, Vals vs us → Vals zs ws → Vals (vs ++ zs) (us ++ ws)
  | _, _, _, _, .nil, h => h
  | _, _, _, _, .cons r t, h => .cons r (vals_app t h)
theorem vals_get : ∀ {vs : List V} {us : List Value} (i : Nat), Vals vs us → (vs[i]? = none ∧ us[i]? = none) ∨ ∃ v u, vs[i]? = some v ∧ us[i]? = some u ∧ RelV v u
  | _, _, _, .nil => .inl ⟨by simp, by simp⟩
  | _, _, 0, .cons r t => .inr ⟨_, _, rfl, rfl, r⟩
  | _, _, i + 1, .cons r t => by simpa using vals_get i t
theorem vals_perm {vs : List V} {us : List Value} (h : Vals vs us) : ∀ ix : List Nat, Vals (perm ix vs) (perm ix us)
  | [] => .nil
  | i :: ix => by
    have ih := vals_perm h ix
    unfold perm at ih ⊢
    rw [List.filterMap_cons, List.filterMap_cons]
    rcases vals_get i h with ⟨h1, h2⟩ | ⟨v, u, h1, h2, r⟩
    · rw [h1, h2]; exact ih
    · rw [h1, h2]; exact .cons r ih
def gvU (ix : List Nat) (us ws : List Value) : List Value := perm ix (us ++ (ws ++ []))
theorem gv_rel (ix : List Nat) {vs zs : List V} {us ws : List Value} (h : Vals vs us) (k : Vals zs ws) : Vals (gvN ix [] vs zs) (gvU ix us ws) := vals_perm (vals_app h (vals_app k .nil)) ix
theorem mt_idxK {X : Cx} (h : X.K = K) : MtR X "list.index" (rIndex K) := h ▸ mt_index
theorem cr_srtK {X : Cx} (h : X.K = K) : CallR X (.builtin "sorted") (rSorted K) := h ▸ cr_sorted
theorem op_inW {X : Cx} (h : X.K = K) : OpR X (compareOp .In) (rIn K false) := h ▸ op_in_seq
theorem op_notInW {X : Cx} (h : X.K = K) : OpR X (compareOp .NotIn) (rIn K true) := h ▸ op_notIn_seq
end
end SL

namespace NT
open PySem SL
def B_is_whole (ca : Nat → Addr) (v1thing : PV) : W (Fl Unit) :=
  (bind (andV (op1 (isiB "int") (ret v1thing)) (notV (op1 (isiB "bool") (ret v1thing)))) fun v2r => ret (.rt (.v v2r)))
def F_is_whole (ca : Nat → Addr) (v1thing : PV) : W RV := runF (B_is_whole ca v1thing)

def W_greatest_divisor_1 (ca : Nat → Addr)  (v4s : PV × PV) : W (Fl (PV × PV)) :=
  whileW (fun v4s => (tst (op2 neF (ret v4s.2) (ret (.int 0))))) (fun v4s =>
  (bindF (bind (vcons (ret v4s.2) (vcons (op2 modF (ret v4s.1) (ret v4s.2)) vnil)) fun as => bind (lift (two as)) fun x => ret (.nx x)) fun v5s => ret (.nx (v5s.1, v5s.2)))) v4s
def B_greatest_divisor (ca : Nat → Addr) (v1one : PV) (v2other : PV) : W (Fl Unit) :=
  (bindF (W_greatest_divisor_1 ca (v1one, v2other)) fun v3s =>
  (bind (cb absF (vcons (ret v3s.1) vnil)) fun v6r => ret (.rt (.v v6r))))
def F_greatest_divisor (ca : Nat → Addr) (v1one : PV) (v2other : PV) : W RV := runF (B_greatest_divisor ca v1one v2other)

def B_is_fraction (ca : Nat → Addr) (v1thing : PV) : W (Fl Unit) :=
  (bind (orT (notT (tst (op1 (isiB "tuple") (ret v1thing)))) (tst (op2 neF (cb lenF (vcons (ret v1thing) vnil)) (ret (.int 2))))) fun v8b => if v8b = true then bindF (S := Empty) (bind (ret (.bl false)) fun v2r => ret (.rt (.v v2r))) (fun s => s.elim) else
  (bind (ret v1thing) fun v7a => bind (lift ((tupF2 some some) v7a)) fun v3x =>
  (bind (orT (notT (tst (callW (ar1 (F_is_whole ca)) [] (vcons (ret v3x.1) vnil)))) (orT (notT (tst (callW (ar1 (F_is_whole ca)) [] (vcons (ret v3x.2) vnil)))) (tst (op2 ltF (ret v3x.2) (ret (.int 1)))))) fun v6b => if v6b = true then bindF (S := Empty) (bind (ret (.bl false)) fun v4r => ret (.rt (.v v4r))) (fun s => s.elim) else
  (bind (op2 eqF (callW (ar2 (F_greatest_divisor ca)) [] (vcons (ret v3x.1) (vcons (ret v3x.2) vnil))) (ret (.int 1))) fun v5r => ret (.rt (.v v5r))))))
def F_is_fraction (ca : Nat → Addr) (v1thing : PV) : W RV := runF (B_is_fraction ca v1thing)

def B_reduced (ca : Nat → Addr) (v1top : PV) (v2bottom : PV) : W (Fl Unit) :=
  (bind (callW (ar2 (F_greatest_divisor ca)) [] (vcons (ret v1top) (vcons (ret v2bottom) vnil))) fun v3divisor =>
  (bindF (bind (tst (op2 ltF (ret v2bottom) (ret (.int 0)))) fun v7b => if v7b = true then ((bindF (bind (op1 negF (ret v3divisor)) fun v6a => ret (.nx v6a)) fun v5s => ret (.nx v5s)) : W (Fl (PV))) else (ret (.nx v3divisor))) fun v4s =>
  (bind (tupW (vcons (op2 fdivF (ret v1top) (ret v4s)) (vcons (op2 fdivF (ret v2bottom) (ret v4s)) vnil))) fun v8r => ret (.rt (.v v8r)))))
def F_reduced (ca : Nat → Addr) (v1top : PV) (v2bottom : PV) : W RV := runF (B_reduced ca v1top v2bottom)

def B_fraction (ca : Nat → Addr) (v1top : PV) (v2bottom : PV) : W (Fl Unit) :=
  (bind (orT (notT (tst (callW (ar1 (F_is_whole ca)) [] (vcons (ret v1top) vnil)))) (orT (notT (tst (callW (ar1 (F_is_whole ca)) [] (vcons (ret v2bottom) vnil)))) (tst (op2 eqF (ret v2bottom) (ret (.int 0)))))) fun v4b => if v4b = true then bindF (S := Empty) fail (fun s => s.elim) else
  (bind (callW (ar2 (F_reduced ca)) [] (vcons (ret v1top) (vcons (ret v2bottom) vnil))) fun v3r => ret (.rt (.v v3r))))
def F_fraction (ca : Nat → Addr) (v1top : PV) (v2bottom : PV) : W RV := runF (B_fraction ca v1top v2bottom)

def B_plus (ca : Nat → Addr) (v1one : PV) (v2other : PV) : W (Fl Unit) :=
  (bind (callW (ar2 (F_reduced ca)) [] (vcons (op2 addF (op2 mulF (op2 ixF (ret v1one) (ret (.int 0))) (op2 ixF (ret v2other) (ret (.int 1)))) (op2 mulF (op2 ixF (ret v2other) (ret (.int 0))) (op2 ixF (ret v1one) (ret (.int 1))))) (vcons (op2 mulF (op2 ixF (ret v1one) (ret (.int 1))) (op2 ixF (ret v2other) (ret (.int 1)))) vnil))) fun v3r => ret (.rt (.v v3r)))
def F_plus (ca : Nat → Addr) (v1one : PV) (v2other : PV) : W RV := runF (B_plus ca v1one v2other)

def B_minus (ca : Nat → Addr) (v1one : PV) (v2other : PV) : W (Fl Unit) :=
  (bind (callW (ar2 (F_reduced ca)) [] (vcons (op2 subF (op2 mulF (op2 ixF (ret v1one) (ret (.int 0))) (op2 ixF (ret v2other) (ret (.int 1)))) (op2 mulF (op2 ixF (ret v2other) (ret (.int 0))) (op2 ixF (ret v1one) (ret (.int 1))))) (vcons (op2 mulF (op2 ixF (ret v1one) (ret (.int 1))) (op2 ixF (ret v2other) (ret (.int 1)))) vnil))) fun v3r => ret (.rt (.v v3r)))
def F_minus (ca : Nat → Addr) (v1one : PV) (v2other : PV) : W RV := runF (B_minus ca v1one v2other)

def B_times (ca : Nat → Addr) (v1one : PV) (v2other : PV) : W (Fl Unit) :=
  (bind (callW (ar2 (F_reduced ca)) [] (vcons (op2 mulF (op2 ixF (ret v1one) (ret (.int 0))) (op2 ixF (ret v2other) (ret (.int 0)))) (vcons (op2 mulF (op2 ixF (ret v1one) (ret (.int 1))) (op2 ixF (ret v2other) (ret (.int 1)))) vnil))) fun v3r => ret (.rt (.v v3r)))
def F_times (ca : Nat → Addr) (v1one : PV) (v2other : PV) : W RV := runF (B_times ca v1one v2other)

def B_over (ca : Nat → Addr) (v1one : PV) (v2other : PV) : W (Fl Unit) :=
  (bind (tst (op2 eqF (op2 ixF (ret v2other) (ret (.int 0))) (ret (.int 0)))) fun v4b => if v4b = true then bindF (S := Empty) fail (fun s => s.elim) else
  (bind (callW (ar2 (F_reduced ca)) [] (vcons (op2 mulF (op2 ixF (ret v1one) (ret (.int 0))) (op2 ixF (ret v2other) (ret (.int 1)))) (vcons (op2 mulF (op2 ixF (ret v1one) (ret (.int 1))) (op2 ixF (ret v2other) (ret (.int 0)))) vnil))) fun v3r => ret (.rt (.v v3r))))
def F_over (ca : Nat → Addr) (v1one : PV) (v2other : PV) : W RV := runF (B_over ca v1one v2other)

def B_under (ca : Nat → Addr) (v1one : PV) (v2other : PV) : W (Fl Unit) :=
  (bind (op2 ltF (op2 mulF (op2 ixF (ret v1one) (ret (.int 0))) (op2 ixF (ret v2other) (ret (.int 1)))) (op2 mulF (op2 ixF (ret v2other) (ret (.int 0))) (op2 ixF (ret v1one) (ret (.int 1))))) fun v3r => ret (.rt (.v v3r)))
def F_under (ca : Nat → Addr) (v1one : PV) (v2other : PV) : W RV := runF (B_under ca v1one v2other)

def B_apart (ca : Nat → Addr) (v1one : PV) (v2other : PV) : W (Fl Unit) :=
  (bind (tst (callW (ar2 (F_under ca)) [] (vcons (ret v1one) (vcons (ret v2other) vnil)))) fun v5b => if v5b = true then bindF (S := Empty) (bind (callW (ar2 (F_minus ca)) [] (vcons (ret v2other) (vcons (ret v1one) vnil))) fun v3r => ret (.rt (.v v3r))) (fun s => s.elim) else
  (bind (callW (ar2 (F_minus ca)) [] (vcons (ret v1one) (vcons (ret v2other) vnil))) fun v4r => ret (.rt (.v v4r))))
def F_apart (ca : Nat → Addr) (v1one : PV) (v2other : PV) : W RV := runF (B_apart ca v1one v2other)

def L_common_1 (ca : Nat → Addr)  (v5x : PV) (v4s : PV) : W (Fl (PV)) :=
  (bindF (bind (op2 mulF (ret v4s) (op2 fdivF (op2 ixF (ret v5x) (ret (.int 1))) (callW (ar2 (F_greatest_divisor ca)) [] (vcons (ret v4s) (vcons (op2 ixF (ret v5x) (ret (.int 1))) vnil))))) fun v7a => ret (.nx v7a)) fun v6s => ret (.nx v6s))
def E_common_2 (ca : Nat → Addr) (v3s : PV) (v9x : PV) : W PV :=
  (op2 mulF (op2 ixF (ret v9x) (ret (.int 0))) (op2 fdivF (ret v3s) (op2 ixF (ret v9x) (ret (.int 1)))))
def B_common (ca : Nat → Addr) (v1some : PV) : W (Fl Unit) :=
  (bind (ret (.int 1)) fun v2bottom =>
  (bindF (bind (itL (ret v1some)) fun as => forW some (L_common_1 ca) as v2bottom) fun v3s =>
  (bind (tupW (vcons (setl (lcO some (fun _ => ret true) (E_common_2 ca v3s) (itL (ret v1some)))) (vcons (ret v3s) vnil))) fun v8r => ret (.rt (.v v8r)))))
def F_common (ca : Nat → Addr) (v1some : PV) : W RV := runF (B_common ca v1some)

def B_total (ca : Nat → Addr) (v1some : PV) (v2start : PV) : W (Fl Unit) :=
  (bind (callW (ar1 (F_common ca)) [] (vcons (ifE (tst (op2 isF (ret v2start) (ret .non))) (setl (cbO listF (vcons (ret v1some) vnil))) (op2 addF (setl (lstO (vcons (ret v2start) vnil))) (setl (cbO listF (vcons (ret v1some) vnil))))) vnil)) fun v5a => bind (lift ((tupF2 some some) v5a)) fun v3x =>
  (bind (callW (ar2 (F_reduced ca)) [] (vcons (cb sumF1 (vcons (ret v3x.1) vnil)) (vcons (ret v3x.2) vnil))) fun v4r => ret (.rt (.v v4r))))
def F_total (ca : Nat → Addr) (v1some : PV) (v2start : PV) : W RV := runF (B_total ca v1some v2start)

def B_is_whole_within (ca : Nat → Addr) (v1thing : PV) (v2least : PV) (v3most : PV) : W (Fl Unit) :=
  (bind (andV (callW (ar1 (F_is_whole ca)) [] (vcons (ret v1thing) vnil)) (chain leU leU (ret v2least) (ret v1thing) (ret v3most))) fun v4r => ret (.rt (.v v4r)))
def F_is_whole_within (ca : Nat → Addr) (v1thing : PV) (v2least : PV) (v3most : PV) : W RV := runF (B_is_whole_within ca v1thing v2least v3most)

def E_is_mark_1 (ca : Nat → Addr)  (v4x : PV) : W PV :=
  (chain leU leU (ret (.str (PySem.Str.ofString "a"))) (ret v4x) (ret (.str (PySem.Str.ofString "z"))))
def B_is_mark (ca : Nat → Addr) (v1thing : PV) : W (Fl Unit) :=
  (bind (orT (notT (tst (op1 (isiB "str") (ret v1thing)))) (notT (tst (chain leU leU (ret (.int 1)) (cb lenF (vcons (ret v1thing) vnil)) (ret (.int 4)))))) fun v5b => if v5b = true then bindF (S := Empty) (bind (ret (.bl false)) fun v2r => ret (.rt (.v v2r))) (fun s => s.elim) else
  (bind (cb allF (vcons (setl (lcO some (fun _ => ret true) (E_is_mark_1 ca) (itS (ret v1thing)))) vnil)) fun v3r => ret (.rt (.v v3r))))
def F_is_mark (ca : Nat → Addr) (v1thing : PV) : W RV := runF (B_is_mark ca v1thing)

def B_is_share (ca : Nat → Addr) (v1thing : PV) : W (Fl Unit) :=
  (bind (andV (callW (ar1 (F_is_fraction ca)) [] (vcons (ret v1thing) vnil)) (chain3 leU leU leU (ret (.int 0)) (op2 ixF (ret v1thing) (ret (.int 0))) (op2 ixF (ret v1thing) (ret (.int 1))) (ret (.int 999)))) fun v2r => ret (.rt (.v v2r)))
def F_is_share (ca : Nat → Addr) (v1thing : PV) : W RV := runF (B_is_share ca v1thing)

def E_are_room_shares_1 (ca : Nat → Addr)  (v5x : PV) : W PV :=
  (callW (ar1 (F_is_share ca)) [] (vcons (ret v5x) vnil))
def B_are_room_shares (ca : Nat → Addr) (v1many : PV) (v2thing : PV) : W (Fl Unit) :=
  (bind (orT (notT (tst (op1 (isiB "list") (ret v2thing)))) (tst (op2 neF (cb lenF (vcons (ret v2thing) vnil)) (ret v1many)))) fun v6b => if v6b = true then bindF (S := Empty) (bind (ret (.bl false)) fun v3r => ret (.rt (.v v3r))) (fun s => s.elim) else
  (bind (andV (cb allF (vcons (setl (lcO some (fun _ => ret true) (E_are_room_shares_1 ca) (itL (ret v2thing)))) vnil)) (op2 eqF (callW (ar2 (F_total ca)) [.non] (vcons (ret v2thing) vnil)) (ret (.tup [(.int 1), (.int 1)])))) fun v4r => ret (.rt (.v v4r))))
def F_are_room_shares (ca : Nat → Addr) (v1many : PV) (v2thing : PV) : W RV := runF (B_are_room_shares ca v1many v2thing)

def L_check_marks_1 (ca : Nat → Addr)  (v4x : PV × PV) (v3s : Unit) : W (Fl (Unit)) :=
  (bindF (bind (notT (tst (callW (ar1 (F_is_mark ca)) [] (vcons (ret v4x.2) vnil)))) fun v6b => if v6b = true then (fail : W (Fl (Unit))) else (ret (.nx ()))) fun _ => ret (.nx ()))
def B_check_marks (ca : Nat → Addr) (v1marks : PV) : W (Fl Unit) :=
  (bind (orT (notT (tst (op1 (isiB "list") (ret v1marks)))) (notT (tst (chain leU leU (ret (.int 1)) (cb lenF (vcons (ret v1marks) vnil)) (ret (.int 6)))))) fun v7b => if v7b = true then bindF (S := Empty) fail (fun s => s.elim) else
  (bindF (bind (itE (vcons (ret v1marks) vnil)) fun as => forW (tupF2 some some) (L_check_marks_1 ca) as ()) fun _ => ret (.nx ())))
def F_check_marks (ca : Nat → Addr) (v1marks : PV) : W RV := runF (B_check_marks ca v1marks)

def L_check_shares_1 (ca : Nat → Addr) (v1many : PV) (v5x : PV × PV) (v4s : Unit) : W (Fl (Unit)) :=
  (bindF (bind (notT (tst (callW (ar2 (F_are_room_shares ca)) [] (vcons (ret v1many) (vcons (ret v5x.2) vnil))))) fun v7b => if v7b = true then (fail : W (Fl (Unit))) else (ret (.nx ()))) fun _ => ret (.nx ()))
def B_check_shares (ca : Nat → Addr) (v1many : PV) (v2shares : PV) : W (Fl Unit) :=
  (bind (orT (notT (tst (op1 (isiB "list") (ret v2shares)))) (tst (op2 neF (cb lenF (vcons (ret v2shares) vnil)) (ret v1many)))) fun v8b => if v8b = true then bindF (S := Empty) fail (fun s => s.elim) else
  (bindF (bind (itE (vcons (ret v2shares) vnil)) fun as => forW (tupF2 some some) (L_check_shares_1 ca v1many) as ()) fun _ => ret (.nx ())))
def F_check_shares (ca : Nat → Addr) (v1many : PV) (v2shares : PV) : W RV := runF (B_check_shares ca v1many v2shares)

def B_Machine___len__ (ca : Nat → Addr) (v1self : PV) : W (Fl Unit) :=
  (bind (cb lenF (vcons (fldW (ca 0) "kept_marks" (ret v1self)) vnil)) fun v2r => ret (.rt (.v v2r)))
def F_Machine___len__ (ca : Nat → Addr) (v1self : PV) : W RV := runF (B_Machine___len__ ca v1self)

def B_check_room (ca : Nat → Addr) (v1machine : PV) (v2room : PV) : W (Fl Unit) :=
  (bindF (bind (notT (tst (callW (ar3 (F_is_whole_within ca)) [] (vcons (ret v2room) (vcons (ret (.int 0)) (vcons (op2 subF (lenOW (ca 0) (ar1 (F_Machine___len__ ca)) (ret v1machine)) (ret (.int 1))) vnil)))))) fun v4b => if v4b = true then (fail : W (Fl (Unit))) else (ret (.nx ()))) fun _ => ret (.nx ()))
def F_check_room (ca : Nat → Addr) (v1machine : PV) (v2room : PV) : W RV := runF (B_check_room ca v1machine v2room)

def E_Machine___init___1 (ca : Nat → Addr)  (v5x : PV) : W PV :=
  (setl (cbO listF (vcons (ret v5x) vnil)))
def B_Machine___init__ (ca : Nat → Addr) (v1self : Addr) (v2marks : PV) (v3shares : PV) : W (Fl Unit) :=
  (bind (callW (ar1 (F_check_marks ca)) [] (vcons (ret v2marks) vnil)) fun _ =>
  (bind (callW (ar2 (F_check_shares ca)) [] (vcons (cb lenF (vcons (ret v2marks) vnil)) (vcons (ret v3shares) vnil))) fun _ =>
  (bind (setl (cbO listF (vcons (ret v2marks) vnil))) fun a => bind (newFld v1self (ca 0) "kept_marks" a) fun _ =>
  (bindF (bind (setl (lcO some (fun _ => ret true) (E_Machine___init___1 ca) (itL (ret v3shares)))) fun a => bind (newFld v1self (ca 0) "kept_shares" a) fun _ => ret (.nx ())) fun _ => ret (.nx ())))))
def F_Machine___init__ (ca : Nat → Addr) (v1s : PV) (v2marks : PV) (v3shares : PV) : W RV := withP v1s fun v1self => runF (B_Machine___init__ ca v1self v2marks v3shares)

def B_Machine_marks (ca : Nat → Addr) (v1self : PV) : W (Fl Unit) :=
  (bind (cbO listF (vcons (fldW (ca 0) "kept_marks" (ret v1self)) vnil)) fun v2r => ret (.rt (.o v2r)))
def F_Machine_marks (ca : Nat → Addr) (v1self : PV) : W RV := runF (B_Machine_marks ca v1self)

def E_Machine_shares_1 (ca : Nat → Addr)  (v3x : PV) : W PV :=
  (setl (cbO listF (vcons (ret v3x) vnil)))
def B_Machine_shares (ca : Nat → Addr) (v1self : PV) : W (Fl Unit) :=
  (bind (lcO some (fun _ => ret true) (E_Machine_shares_1 ca) (itL (fldW (ca 0) "kept_shares" (ret v1self)))) fun v2r => ret (.rt (.o v2r)))
def F_Machine_shares (ca : Nat → Addr) (v1self : PV) : W RV := runF (B_Machine_shares ca v1self)

def B_Machine_mark (ca : Nat → Addr) (v1self : PV) (v2room : PV) : W (Fl Unit) :=
  (bind (callW (ar2 (F_check_room ca)) [] (vcons (ret v1self) (vcons (ret v2room) vnil))) fun _ =>
  (bind (op2 ixF (fldW (ca 0) "kept_marks" (ret v1self)) (ret v2room)) fun v3r => ret (.rt (.v v3r))))
def F_Machine_mark (ca : Nat → Addr) (v1self : PV) (v2room : PV) : W RV := runF (B_Machine_mark ca v1self v2room)

def B_Machine___eq__ (ca : Nat → Addr) (v1self : PV) (v2other : PV) : W (Fl Unit) :=
  (bind (notT (tst (op1 (isiF (fun _ => none) [(ca 0, true)]) (ret v2other)))) fun v5b => if v5b = true then bindF (S := Empty) (bind (ret (.bl false)) fun v3r => ret (.rt (.v v3r))) (fun s => s.elim) else
  (bind (andV (op2 eqF (fldW (ca 0) "kept_marks" (ret v1self)) (fldW (ca 0) "kept_marks" (ret v2other))) (op2 eqF (fldW (ca 0) "kept_shares" (ret v1self)) (fldW (ca 0) "kept_shares" (ret v2other)))) fun v4r => ret (.rt (.v v4r))))
def F_Machine___eq__ (ca : Nat → Addr) (v1self : PV) (v2other : PV) : W RV := runF (B_Machine___eq__ ca v1self v2other)

def B_check_machine (ca : Nat → Addr) (v1thing : PV) : W (Fl Unit) :=
  (bindF (bind (notT (tst (op1 (isiF (fun _ => none) [(ca 0, true)]) (ret v1thing)))) fun v3b => if v3b = true then (fail : W (Fl (Unit))) else (ret (.nx ()))) fun _ => ret (.nx ()))
def F_check_machine (ca : Nat → Addr) (v1thing : PV) : W RV := runF (B_check_machine ca v1thing)

def E_standing_in_1 (ca : Nat → Addr) (v2room : PV) (v4x : PV) : W PV :=
  (ifE (tst (op2 eqF (ret v4x) (ret v2room))) (ret (.tup [(.int 1), (.int 1)])) (ret (.tup [(.int 0), (.int 1)])))
def B_standing_in (ca : Nat → Addr) (v1many : PV) (v2room : PV) : W (Fl Unit) :=
  (bind (lcO some (fun _ => ret true) (E_standing_in_1 ca v2room) (itR (vcons (ret v1many) vnil))) fun v3r => ret (.rt (.o v3r)))
def F_standing_in (ca : Nat → Addr) (v1many : PV) (v2room : PV) : W RV := runF (B_standing_in ca v1many v2room)

def E_stepped_1 (ca : Nat → Addr) (v2chances : PV) (v1shares : PV) (v5x : PV) (v6x : PV) : W PV :=
  (callW (ar2 (F_times ca)) [] (vcons (op2 ixF (ret v2chances) (ret v6x)) (vcons (op2 ixF (op2 ixF (ret v1shares) (ret v6x)) (ret v5x)) vnil)))
def E_stepped_2 (ca : Nat → Addr) (v2chances : PV) (v1shares : PV) (v3rooms : PV) (v5x : PV) : W PV :=
  (callW (ar2 (F_total ca)) [.non] (vcons (setl (lcO some (fun _ => ret true) (E_stepped_1 ca v2chances v1shares v5x) (itL (ret v3rooms)))) vnil))
def B_stepped (ca : Nat → Addr) (v1shares : PV) (v2chances : PV) : W (Fl Unit) :=
  (bind (setl (lrO (cb lenF (vcons (ret v1shares) vnil)))) fun v3rooms =>
  (bind (lcO some (fun _ => ret true) (E_stepped_2 ca v2chances v1shares v3rooms) (itL (ret v3rooms))) fun v4r => ret (.rt (.o v4r))))
def F_stepped (ca : Nat → Addr) (v1shares : PV) (v2chances : PV) : W RV := runF (B_stepped ca v1shares v2chances)

def L_where_1 (ca : Nat → Addr) (v4shares : PV) (v8x : PV) (v7s : PV) : W (Fl (PV)) :=
  (bindF (bind (setl (callO (ar2 (F_stepped ca)) [] (vcons (ret v4shares) (vcons (ret v7s) vnil)))) fun v10a => ret (.nx v10a)) fun v9s => ret (.nx v9s))
def B_where (ca : Nat → Addr) (v1machine : PV) (v2room : PV) (v3steps : PV) : W (Fl Unit) :=
  (bind (callW (ar1 (F_check_machine ca)) [] (vcons (ret v1machine) vnil)) fun _ =>
  (bind (callW (ar2 (F_check_room ca)) [] (vcons (ret v1machine) (vcons (ret v2room) vnil))) fun _ =>
  (bind (notT (tst (callW (ar3 (F_is_whole_within ca)) [] (vcons (ret v3steps) (vcons (ret (.int 0)) (vcons (ret (.int 12)) vnil)))))) fun v12b => if v12b = true then bindF (S := Empty) fail (fun s => s.elim) else
  (bind (setl (methO (ca 0) "shares" (ar1 (F_Machine_shares ca)) (ret v1machine) vnil)) fun v4shares =>
  (bind (setl (callO (ar2 (F_standing_in ca)) [] (vcons (lenOW (ca 0) (ar1 (F_Machine___len__ ca)) (ret v1machine)) (vcons (ret v2room) vnil)))) fun v5chances =>
  (bindF (bind (itR (vcons (ret v3steps) vnil)) fun as => forW some (L_where_1 ca v4shares) as v5chances) fun v6s =>
  (bind (ret v6s) fun v11r => ret (.rt (.v v11r)))))))))
def F_where (ca : Nat → Addr) (v1machine : PV) (v2room : PV) (v3steps : PV) : W RV := runF (B_where ca v1machine v2room v3steps)

def L_reached_1 (ca : Nat → Addr)  (v11x : PV × PV) (v10s : List PV) : W (Fl (List PV)) :=
  (bindF (bind (andT (tst (op2 gtF (op2 ixF (ret v11x.2) (ret (.int 0))) (ret (.int 0)))) (tst (lend (op2 (inF true) (ret v11x.1) (ret (.lst v10s)))))) fun v14b => if v14b = true then ((bindF (bind (ret v11x.1) fun a => bind (lift (if (v10s : List PV).length < 100000 then some (v10s ++ [a]) else none)) fun bs => ret (.nx bs)) fun v13s => ret (.nx v13s)) : W (Fl (List PV))) else (ret (.nx v10s))) fun v12s => ret (.nx v12s))
def W_reached_2 (ca : Nat → Addr) (v3shares : PV) (v7s : List PV × PV) : W (Fl (List PV × PV)) :=
  whileW (fun v7s => (tst (lend (op2 ltF (ret v7s.2) (cb lenF (vcons (ret (.lst v7s.1)) vnil)))))) (fun v7s =>
  (bind (lend (op2 ixF (ret v3shares) (op2 ixF (ret (.lst v7s.1)) (ret v7s.2)))) fun v8row =>
  (bindF (bind (itE (vcons (ret v8row) vnil)) fun as => forW (tupF2 some some) (L_reached_1 ca) as v7s.1) fun v9s =>
  (bindF (bind (ret (.int 1)) fun b => bind (lift (augF (· + ·) v7s.2 b)) fun c => ret (.nx c)) fun v15s => ret (.nx (v9s, v15s)))))) v7s
def B_reached (ca : Nat → Addr) (v1machine : PV) (v2room : PV) : W (Fl Unit) :=
  (bind (callW (ar1 (F_check_machine ca)) [] (vcons (ret v1machine) vnil)) fun _ =>
  (bind (callW (ar2 (F_check_room ca)) [] (vcons (ret v1machine) (vcons (ret v2room) vnil))) fun _ =>
  (bind (setl (methO (ca 0) "shares" (ar1 (F_Machine_shares ca)) (ret v1machine) vnil)) fun v3shares =>
  (bind (lstO (vcons (ret v2room) vnil)) fun v4found =>
  (bind (ret (.int 0)) fun v5lookedat =>
  (bindF (W_reached_2 ca v3shares (v4found, v5lookedat)) fun v6s =>
  (bind (cbO sortF (vcons (ret (.lst v6s.1)) vnil)) fun v16r => ret (.rt (.o v16r)))))))))
def F_reached (ca : Nat → Addr) (v1machine : PV) (v2room : PV) : W RV := runF (B_reached ca v1machine v2room)

def E_is_order_1 (ca : Nat → Addr)  (v3x : PV) : W PV :=
  (callW (ar1 (F_is_whole ca)) [] (vcons (ret v3x) vnil))
def B_is_order (ca : Nat → Addr) (v1many : PV) (v2thing : PV) : W (Fl Unit) :=
  (bind (orT (notT (tst (op1 (isiB "list") (ret v2thing)))) (notT (tst (cb allF (vcons (setl (lcO some (fun _ => ret true) (E_is_order_1 ca) (itL (ret v2thing)))) vnil))))) fun v6b => if v6b = true then bindF (S := Empty) (bind (ret (.bl false)) fun v4r => ret (.rt (.v v4r))) (fun s => s.elim) else
  (bind (op2 eqF (setl (cbO sortF (vcons (ret v2thing) vnil))) (setl (lrO (ret v1many)))) fun v5r => ret (.rt (.v v5r))))
def F_is_order (ca : Nat → Addr) (v1many : PV) (v2thing : PV) : W RV := runF (B_is_order ca v1many v2thing)

def E_renamed_1 (ca : Nat → Addr) (v4shares : PV) (v6x : PV) (v7x : PV) : W PV :=
  (op2 ixF (op2 ixF (ret v4shares) (ret v6x)) (ret v7x))
def E_renamed_2 (ca : Nat → Addr) (v4shares : PV) (v2order : PV) (v6x : PV) : W PV :=
  (setl (lcO some (fun _ => ret true) (E_renamed_1 ca v4shares v6x) (itL (ret v2order))))
def E_renamed_3 (ca : Nat → Addr) (v3marks : PV) (v8x : PV) : W PV :=
  (op2 ixF (ret v3marks) (ret v8x))
def B_renamed (ca : Nat → Addr) (v1machine : PV) (v2order : PV) : W (Fl Unit) :=
  (bind (callW (ar1 (F_check_machine ca)) [] (vcons (ret v1machine) vnil)) fun _ =>
  (bind (notT (tst (callW (ar2 (F_is_order ca)) [] (vcons (lenOW (ca 0) (ar1 (F_Machine___len__ ca)) (ret v1machine)) (vcons (ret v2order) vnil))))) fun v9b => if v9b = true then bindF (S := Empty) fail (fun s => s.elim) else
  (bind (setl (methO (ca 0) "marks" (ar1 (F_Machine_marks ca)) (ret v1machine) vnil)) fun v3marks =>
  (bind (setl (methO (ca 0) "shares" (ar1 (F_Machine_shares ca)) (ret v1machine) vnil)) fun v4shares =>
  (bind (makeW (ca 0) (ar3 (F_Machine___init__ ca)) [] (vcons (setl (lcO some (fun _ => ret true) (E_renamed_3 ca v3marks) (itL (ret v2order)))) (vcons (setl (lcO some (fun _ => ret true) (E_renamed_2 ca v4shares v2order) (itL (ret v2order)))) vnil))) fun v5r => ret (.rt (.v v5r)))))))
def F_renamed (ca : Nat → Addr) (v1machine : PV) (v2order : PV) : W RV := runF (B_renamed ca v1machine v2order)

def E_is_row_1 (ca : Nat → Addr)  (v4x : PV) : W PV :=
  (callW (ar1 (F_is_mark ca)) [] (vcons (ret v4x) vnil))
def B_is_row (ca : Nat → Addr) (v1thing : PV) : W (Fl Unit) :=
  (bind (orT (notT (tst (op1 (isiB "list") (ret v1thing)))) (notT (tst (chain leU leU (ret (.int 1)) (cb lenF (vcons (ret v1thing) vnil)) (ret (.int 8)))))) fun v5b => if v5b = true then bindF (S := Empty) (bind (ret (.bl false)) fun v2r => ret (.rt (.v v2r))) (fun s => s.elim) else
  (bind (cb allF (vcons (setl (lcO some (fun _ => ret true) (E_is_row_1 ca) (itL (ret v1thing)))) vnil)) fun v3r => ret (.rt (.v v3r))))
def F_is_row (ca : Nat → Addr) (v1thing : PV) : W RV := runF (B_is_row ca v1thing)

def E_only_marked_1 (ca : Nat → Addr) (v2mark : PV) (v5x : PV × PV) : W PV :=
  (ifE (tst (op2 eqF (ret v5x.1) (ret v2mark))) (ret v5x.2) (ret (.tup [(.int 0), (.int 1)])))
def B_only_marked (ca : Nat → Addr) (v1marks : PV) (v2mark : PV) (v3chances : PV) : W (Fl Unit) :=
  (bind (lcO (tupF2 some some) (fun _ => ret true) (E_only_marked_1 ca v2mark) (itZ (vcons (ret v1marks) (vcons (ret v3chances) vnil)))) fun v4r => ret (.rt (.o v4r)))
def F_only_marked (ca : Nat → Addr) (v1marks : PV) (v2mark : PV) (v3chances : PV) : W RV := runF (B_only_marked ca v1marks v2mark v3chances)

def L_chance_1 (ca : Nat → Addr) (v4marks : PV) (v5shares : PV) (v9x : PV) (v8s : PV) : W (Fl (PV)) :=
  (bindF (bind (setl (callO (ar3 (F_only_marked ca)) [] (vcons (ret v4marks) (vcons (ret v9x) (vcons (setl (callO (ar2 (F_stepped ca)) [] (vcons (ret v5shares) (vcons (ret v8s) vnil)))) vnil))))) fun v11a => ret (.nx v11a)) fun v10s => ret (.nx v10s))
def B_chance (ca : Nat → Addr) (v1machine : PV) (v2room : PV) (v3row : PV) : W (Fl Unit) :=
  (bind (callW (ar1 (F_check_machine ca)) [] (vcons (ret v1machine) vnil)) fun _ =>
  (bind (callW (ar2 (F_check_room ca)) [] (vcons (ret v1machine) (vcons (ret v2room) vnil))) fun _ =>
  (bind (notT (tst (callW (ar1 (F_is_row ca)) [] (vcons (ret v3row) vnil)))) fun v13b => if v13b = true then bindF (S := Empty) fail (fun s => s.elim) else
  (bind (setl (methO (ca 0) "marks" (ar1 (F_Machine_marks ca)) (ret v1machine) vnil)) fun v4marks =>
  (bind (setl (methO (ca 0) "shares" (ar1 (F_Machine_shares ca)) (ret v1machine) vnil)) fun v5shares =>
  (bind (setl (callO (ar3 (F_only_marked ca)) [] (vcons (ret v4marks) (vcons (op2 ixF (ret v3row) (ret (.int 0))) (vcons (setl (callO (ar2 (F_standing_in ca)) [] (vcons (lenOW (ca 0) (ar1 (F_Machine___len__ ca)) (ret v1machine)) (vcons (ret v2room) vnil)))) vnil))))) fun v6chances =>
  (bindF (bind (itL (setl (cutO (ret v3row) (partW (ret (.int 1))) noPart))) fun as => forW some (L_chance_1 ca v4marks v5shares) as v6chances) fun v7s =>
  (bind (callW (ar2 (F_total ca)) [.non] (vcons (ret v7s) vnil)) fun v12r => ret (.rt (.v v12r))))))))))
def F_chance (ca : Nat → Addr) (v1machine : PV) (v2room : PV) (v3row : PV) : W RV := runF (B_chance ca v1machine v2room v3row)

def B_check_many (ca : Nat → Addr) (v1many : PV) : W (Fl Unit) :=
  (bindF (bind (notT (tst (callW (ar3 (F_is_whole_within ca)) [] (vcons (ret v1many) (vcons (ret (.int 1)) (vcons (ret (.int 5)) vnil)))))) fun v3b => if v3b = true then (fail : W (Fl (Unit))) else (ret (.nx ()))) fun _ => ret (.nx ()))
def F_check_many (ca : Nat → Addr) (v1many : PV) : W RV := runF (B_check_many ca v1many)

def E_number_in_1 (ca : Nat → Addr) (v2room : PV) (v4x : PV) : W PV :=
  (op2 (inF false) (ret v2room) (ret v4x))
def B_number_in (ca : Nat → Addr) (v1parting : PV) (v2room : PV) : W (Fl Unit) :=
  (bind (bmW "list" idxF (setl (lcO some (fun _ => ret true) (E_number_in_1 ca v2room) (itL (ret v1parting)))) (vcons (ret (.bl true)) vnil)) fun v3r => ret (.rt (.v v3r)))
def F_number_in (ca : Nat → Addr) (v1parting : PV) (v2room : PV) : W RV := runF (B_number_in ca v1parting v2room)

def B_is_amount (ca : Nat → Addr) (v1thing : PV) : W (Fl Unit) :=
  (bind (andV (callW (ar1 (F_is_fraction ca)) [] (vcons (ret v1thing) vnil)) (op2 geF (op2 ixF (ret v1thing) (ret (.int 0))) (ret (.int 0)))) fun v2r => ret (.rt (.v v2r)))
def F_is_amount (ca : Nat → Addr) (v1thing : PV) : W RV := runF (B_is_amount ca v1thing)

def B_is_gap (ca : Nat → Addr) (v1thing : PV) : W (Fl Unit) :=
  (bind (andV (callW (ar1 (F_is_amount ca)) [] (vcons (ret v1thing) vnil)) (op2 leU (op2 ixF (ret v1thing) (ret (.int 0))) (op2 ixF (ret v1thing) (ret (.int 1))))) fun v2r => ret (.rt (.v v2r)))
def F_is_gap (ca : Nat → Addr) (v1thing : PV) : W RV := runF (B_is_gap ca v1thing)

def E_are_shares_1 (ca : Nat → Addr)  (v4x : PV) : W PV :=
  (callW (ar1 (F_is_amount ca)) [] (vcons (ret v4x) vnil))
def B_are_shares (ca : Nat → Addr) (v1thing : PV) : W (Fl Unit) :=
  (bind (orT (notT (tst (op1 (isiB "list") (ret v1thing)))) (notT (tst (chain leU leU (ret (.int 1)) (cb lenF (vcons (ret v1thing) vnil)) (ret (.int 6)))))) fun v5b => if v5b = true then bindF (S := Empty) (bind (ret (.bl false)) fun v2r => ret (.rt (.v v2r))) (fun s => s.elim) else
  (bind (andV (cb allF (vcons (setl (lcO some (fun _ => ret true) (E_are_shares_1 ca) (itL (ret v1thing)))) vnil)) (op2 eqF (callW (ar2 (F_total ca)) [.non] (vcons (ret v1thing) vnil)) (ret (.tup [(.int 1), (.int 1)])))) fun v3r => ret (.rt (.v v3r))))
def F_are_shares (ca : Nat → Addr) (v1thing : PV) : W RV := runF (B_are_shares ca v1thing)

def E_is_square_1 (ca : Nat → Addr) (v1many : PV) (v5x : PV) : W PV :=
  (andV (op1 (isiB "list") (ret v5x)) (op2 eqF (cb lenF (vcons (ret v5x) vnil)) (ret v1many)))
def B_is_square (ca : Nat → Addr) (v1many : PV) (v2thing : PV) : W (Fl Unit) :=
  (bind (orT (notT (tst (op1 (isiB "list") (ret v2thing)))) (tst (op2 neF (cb lenF (vcons (ret v2thing) vnil)) (ret v1many)))) fun v6b => if v6b = true then bindF (S := Empty) (bind (ret (.bl false)) fun v3r => ret (.rt (.v v3r))) (fun s => s.elim) else
  (bind (cb allF (vcons (setl (lcO some (fun _ => ret true) (E_is_square_1 ca v1many) (itL (ret v2thing)))) vnil)) fun v4r => ret (.rt (.v v4r))))
def F_is_square (ca : Nat → Addr) (v1many : PV) (v2thing : PV) : W RV := runF (B_is_square ca v1many v2thing)

def I_is_table_1 (ca : Nat → Addr)  (v3x : PV) : W (List PV) :=
  (itL (ret v3x))
def E_is_table_2 (ca : Nat → Addr)  (v3x : PV) (v4y : PV) : W PV :=
  (callW (ar1 (F_is_gap ca)) [] (vcons (ret v4y) vnil))
def E_is_table_3 (ca : Nat → Addr) (v2thing : PV) (v7x : PV) : W PV :=
  (op2 eqF (op2 ixF (op2 ixF (ret v2thing) (ret v7x)) (ret v7x)) (ret (.tup [(.int 0), (.int 1)])))
def I_is_table_4 (ca : Nat → Addr) (v6places : PV) (v10x : PV) : W (List PV) :=
  (itL (ret v6places))
def E_is_table_5 (ca : Nat → Addr) (v2thing : PV) (v10x : PV) (v11y : PV) : W PV :=
  (op2 eqF (op2 ixF (op2 ixF (ret v2thing) (ret v10x)) (ret v11y)) (op2 ixF (op2 ixF (ret v2thing) (ret v11y)) (ret v10x)))
def B_is_table (ca : Nat → Addr) (v1many : PV) (v2thing : PV) : W (Fl Unit) :=
  (bind (orT (notT (tst (callW (ar2 (F_is_square ca)) [] (vcons (ret v1many) (vcons (ret v2thing) vnil))))) (notT (tst (cb allF (vcons (setl (lcO2 some (fun _ => ret true) (I_is_table_1 ca) some (fun _ _ => ret true) (E_is_table_2 ca) (itL (ret v2thing)))) vnil))))) fun v13b => if v13b = true then bindF (S := Empty) (bind (ret (.bl false)) fun v5r => ret (.rt (.v v5r))) (fun s => s.elim) else
  (bind (setl (lrO (ret v1many))) fun v6places =>
  (bind (notT (tst (cb allF (vcons (setl (lcO some (fun _ => ret true) (E_is_table_3 ca v2thing) (itL (ret v6places)))) vnil)))) fun v12b => if v12b = true then bindF (S := Empty) (bind (ret (.bl false)) fun v8r => ret (.rt (.v v8r))) (fun s => s.elim) else
  (bind (cb allF (vcons (setl (lcO2 some (fun _ => ret true) (I_is_table_4 ca v6places) some (fun _ _ => ret true) (E_is_table_5 ca v2thing) (itL (ret v6places)))) vnil)) fun v9r => ret (.rt (.v v9r))))))
def F_is_table (ca : Nat → Addr) (v1many : PV) (v2thing : PV) : W RV := runF (B_is_table ca v1many v2thing)

def I_is_carrying_1 (ca : Nat → Addr)  (v4x : PV) : W (List PV) :=
  (itL (ret v4x))
def E_is_carrying_2 (ca : Nat → Addr)  (v4x : PV) (v5y : PV) : W PV :=
  (callW (ar1 (F_is_amount ca)) [] (vcons (ret v5y) vnil))
def E_is_carrying_3 (ca : Nat → Addr)  (v8x : PV) : W PV :=
  (callW (ar2 (F_total ca)) [.non] (vcons (ret v8x) vnil))
def E_is_carrying_4 (ca : Nat → Addr) (v10x : PV) (v11x : PV) : W PV :=
  (op2 ixF (ret v11x) (ret v10x))
def E_is_carrying_5 (ca : Nat → Addr) (v3thing : PV) (v10x : PV) : W PV :=
  (callW (ar2 (F_total ca)) [.non] (vcons (setl (lcO some (fun _ => ret true) (E_is_carrying_4 ca v10x) (itL (ret v3thing)))) vnil))
def B_is_carrying (ca : Nat → Addr) (v1ones : PV) (v2others : PV) (v3thing : PV) : W (Fl Unit) :=
  (bind (orT (notT (tst (callW (ar2 (F_is_square ca)) [] (vcons (cb lenF (vcons (ret v1ones) vnil)) (vcons (ret v3thing) vnil))))) (notT (tst (cb allF (vcons (setl (lcO2 some (fun _ => ret true) (I_is_carrying_1 ca) some (fun _ _ => ret true) (E_is_carrying_2 ca) (itL (ret v3thing)))) vnil))))) fun v13b => if v13b = true then bindF (S := Empty) (bind (ret (.bl false)) fun v6r => ret (.rt (.v v6r))) (fun s => s.elim) else
  (bind (setl (lcO some (fun _ => ret true) (E_is_carrying_3 ca) (itL (ret v3thing)))) fun v7taken =>
  (bind (setl (lcO some (fun _ => ret true) (E_is_carrying_5 ca v3thing) (itR (vcons (cb lenF (vcons (ret v1ones) vnil)) vnil)))) fun v9brought =>
  (bind (andV (op2 eqF (ret v7taken) (ret v1ones)) (op2 eqF (ret v9brought) (ret v2others))) fun v12r => ret (.rt (.v v12r))))))
def F_is_carrying (ca : Nat → Addr) (v1ones : PV) (v2others : PV) (v3thing : PV) : W RV := runF (B_is_carrying ca v1ones v2others v3thing)

def I_cost_1 (ca : Nat → Addr)  (v4x : PV × PV) : W (List PV) :=
  (itZ (vcons (ret v4x.1) (vcons (ret v4x.2) vnil)))
def E_cost_2 (ca : Nat → Addr)  (v4x : PV × PV) (v5y : PV × PV) : W PV :=
  (callW (ar2 (F_times ca)) [] (vcons (ret v5y.1) (vcons (ret v5y.2) vnil)))
def B_cost (ca : Nat → Addr) (v1table : PV) (v2carrying : PV) : W (Fl Unit) :=
  (bind (callW (ar2 (F_total ca)) [.non] (vcons (setl (lcO2 (tupF2 some some) (fun _ => ret true) (I_cost_1 ca) (tupF2 some some) (fun _ _ => ret true) (E_cost_2 ca) (itZ (vcons (ret v1table) (vcons (ret v2carrying) vnil))))) vnil)) fun v3r => ret (.rt (.v v3r)))
def F_cost (ca : Nat → Addr) (v1table : PV) (v2carrying : PV) : W RV := runF (B_cost ca v1table v2carrying)

def E_are_prices_1 (ca : Nat → Addr)  (v4x : PV) : W PV :=
  (callW (ar1 (F_is_fraction ca)) [] (vcons (ret v4x) vnil))
def I_are_prices_2 (ca : Nat → Addr) (v6places : PV) (v8x : PV) : W (List PV) :=
  (itL (ret v6places))
def E_are_prices_3 (ca : Nat → Addr) (v1table : PV) (v2thing : PV) (v8x : PV) (v9y : PV) : W PV :=
  (callW (ar2 (F_under ca)) [] (vcons (op2 ixF (op2 ixF (ret v1table) (ret v8x)) (ret v9y)) (vcons (callW (ar2 (F_apart ca)) [] (vcons (op2 ixF (ret v2thing) (ret v8x)) (vcons (op2 ixF (ret v2thing) (ret v9y)) vnil))) vnil)))
def B_are_prices (ca : Nat → Addr) (v1table : PV) (v2thing : PV) : W (Fl Unit) :=
  (bind (orT (notT (tst (op1 (isiB "list") (ret v2thing)))) (tst (op2 neF (cb lenF (vcons (ret v2thing) vnil)) (cb lenF (vcons (ret v1table) vnil))))) fun v11b => if v11b = true then bindF (S := Empty) (bind (ret (.bl false)) fun v3r => ret (.rt (.v v3r))) (fun s => s.elim) else
  (bind (notT (tst (cb allF (vcons (setl (lcO some (fun _ => ret true) (E_are_prices_1 ca) (itL (ret v2thing)))) vnil)))) fun v10b => if v10b = true then bindF (S := Empty) (bind (ret (.bl false)) fun v5r => ret (.rt (.v v5r))) (fun s => s.elim) else
  (bind (setl (lrO (cb lenF (vcons (ret v1table) vnil)))) fun v6places =>
  (bind (notV (cb anyF (vcons (setl (lcO2 some (fun _ => ret true) (I_are_prices_2 ca v6places) some (fun _ _ => ret true) (E_are_prices_3 ca v1table v2thing) (itL (ret v6places)))) vnil))) fun v7r => ret (.rt (.v v7r))))))
def F_are_prices (ca : Nat → Addr) (v1table : PV) (v2thing : PV) : W RV := runF (B_are_prices ca v1table v2thing)

def I_open_steps_1 (ca : Nat → Addr) (v2takers : PV) (v6x : PV) : W (List PV) :=
  (itL (ret v2takers))
def E_open_steps_2 (ca : Nat → Addr)  (v6x : PV) (v7y : PV) : W PV :=
  (tupW (vcons (ret v6x) (vcons (ret v7y) vnil)))
def E_open_steps_3 (ca : Nat → Addr) (v4gaps : PV) (v9x : PV × PV) : W PV :=
  (tupW (vcons (ret v9x.1) (vcons (ret v9x.2) (vcons (op2 ixF (op2 ixF (ret v4gaps) (ret v9x.1)) (ret v9x.2)) vnil))))
def E_open_steps_4 (ca : Nat → Addr) (v4gaps : PV) (v11x : PV × PV) : W PV :=
  (tupW (vcons (ret v11x.2) (vcons (ret v11x.1) (vcons (op1 negF (op2 ixF (op2 ixF (ret v4gaps) (ret v11x.1)) (ret v11x.2))) vnil))))
def T_open_steps_5 (ca : Nat → Addr) (v3carrying : PV) (v11x : PV × PV) : W Bool :=
  (tst (op2 gtF (op2 ixF (op2 ixF (ret v3carrying) (ret v11x.1)) (ret v11x.2)) (ret (.int 0))))
def B_open_steps (ca : Nat → Addr) (v1givers : PV) (v2takers : PV) (v3carrying : PV) (v4gaps : PV) : W (Fl Unit) :=
  (bind (setl (lcO2 some (fun _ => ret true) (I_open_steps_1 ca v2takers) some (fun _ _ => ret true) (E_open_steps_2 ca) (itL (ret v1givers)))) fun v5crossings =>
  (bind (setl (lcO (tupF2 some some) (fun _ => ret true) (E_open_steps_3 ca v4gaps) (itL (ret v5crossings)))) fun v8forth =>
  (bind (setl (lcO (tupF2 some some) (T_open_steps_5 ca v3carrying) (E_open_steps_4 ca v4gaps) (itL (ret v5crossings)))) fun v10back =>
  (bind (op2 addF (ret v8forth) (ret v10back)) fun v12r => ret (.rt (.v v12r))))))
def F_open_steps (ca : Nat → Addr) (v1givers : PV) (v2takers : PV) (v3carrying : PV) (v4gaps : PV) : W RV := runF (B_open_steps ca v1givers v2takers v3carrying v4gaps)

def I_flow_cost_1 (ca : Nat → Addr)  (v4x : PV × PV) : W (List PV) :=
  (itZ (vcons (ret v4x.1) (vcons (ret v4x.2) vnil)))
def E_flow_cost_2 (ca : Nat → Addr)  (v4x : PV × PV) (v5y : PV × PV) : W PV :=
  (op2 mulF (ret v5y.1) (ret v5y.2))
def B_flow_cost (ca : Nat → Addr) (v1carrying : PV) (v2gaps : PV) : W (Fl Unit) :=
  (bind (cb sumF1 (vcons (setl (lcO2 (tupF2 some some) (fun _ => ret true) (I_flow_cost_1 ca) (tupF2 some some) (fun _ _ => ret true) (E_flow_cost_2 ca) (itZ (vcons (ret v2gaps) (vcons (ret v1carrying) vnil))))) vnil)) fun v3r => ret (.rt (.v v3r)))
def F_flow_cost (ca : Nat → Addr) (v1carrying : PV) (v2gaps : PV) : W RV := runF (B_flow_cost ca v1carrying v2gaps)

def I_whole_table_1 (ca : Nat → Addr)  (v2x : PV) : W (List PV) :=
  (itL (ret v2x))
def E_whole_table_2 (ca : Nat → Addr)  (v2x : PV) (v3y : PV) : W PV :=
  (ret v3y)
def E_whole_table_3 (ca : Nat → Addr) (v4x : PV × PV) (v5many : PV) (v7x : PV) : W PV :=
  (setl (cutO (ret v4x.1) (partW (op2 mulF (ret v7x) (ret v5many))) (partW (op2 addF (op2 mulF (ret v7x) (ret v5many)) (ret v5many)))))
def B_whole_table (ca : Nat → Addr) (v1table : PV) : W (Fl Unit) :=
  (bind (callW (ar1 (F_common ca)) [] (vcons (setl (lcO2 some (fun _ => ret true) (I_whole_table_1 ca) some (fun _ _ => ret true) (E_whole_table_2 ca) (itL (ret v1table)))) vnil)) fun v8a => bind (lift ((tupF2 some some) v8a)) fun v4x =>
  (bind (cb lenF (vcons (ret v1table) vnil)) fun v5many =>
  (bind (tupW (vcons (setl (lcO some (fun _ => ret true) (E_whole_table_3 ca v4x v5many) (itR (vcons (ret v5many) vnil)))) (vcons (ret v4x.2) vnil))) fun v6r => ret (.rt (.v v6r)))))
def F_whole_table (ca : Nat → Addr) (v1table : PV) : W RV := runF (B_whole_table ca v1table)

def B_whole_shares (ca : Nat → Addr) (v1ones : PV) (v2others : PV) : W (Fl Unit) :=
  (bind (callW (ar1 (F_common ca)) [] (vcons (op2 addF (ret v1ones) (ret v2others)) vnil)) fun v5a => bind (lift ((tupF2 some some) v5a)) fun v3x =>
  (bind (tupW (vcons (setl (cutO (ret v3x.1) noPart (partW (cb lenF (vcons (ret v1ones) vnil))))) (vcons (setl (cutO (ret v3x.1) (partW (cb lenF (vcons (ret v1ones) vnil))) noPart)) (vcons (ret v3x.2) vnil)))) fun v4r => ret (.rt (.v v4r))))
def F_whole_shares (ca : Nat → Addr) (v1ones : PV) (v2others : PV) : W RV := runF (B_whole_shares ca v1ones v2others)

def B_is_fade (ca : Nat → Addr) (v1thing : PV) : W (Fl Unit) :=
  (bind (andV (callW (ar1 (F_is_fraction ca)) [] (vcons (ret v1thing) vnil)) (chain3 ltF ltF leU (ret (.int 0)) (op2 ixF (ret v1thing) (ret (.int 0))) (op2 ixF (ret v1thing) (ret (.int 1))) (ret (.int 999)))) fun v2r => ret (.rt (.v v2r)))
def F_is_fade (ca : Nat → Addr) (v1thing : PV) : W RV := runF (B_is_fade ca v1thing)

def B_meant_fade (ca : Nat → Addr) (v1fade : PV) : W (Fl Unit) :=
  (bind (tst (op2 isF (ret v1fade) (ret .non))) fun v5b => if v5b = true then bindF (S := Empty) (bind (ret (.tup [(.int 1), (.int 2)])) fun v2r => ret (.rt (.v v2r))) (fun s => s.elim) else
  (bind (notT (tst (callW (ar1 (F_is_fade ca)) [] (vcons (ret v1fade) vnil)))) fun v4b => if v4b = true then bindF (S := Empty) fail (fun s => s.elim) else
  (bind (ret v1fade) fun v3r => ret (.rt (.v v3r)))))
def F_meant_fade (ca : Nat → Addr) (v1fade : PV) : W RV := runF (B_meant_fade ca v1fade)

def I_like_pairs_1 (ca : Nat → Addr) (v2rooms : PV) (v4x : PV) : W (List PV) :=
  (itL (ret v2rooms))
def T_like_pairs_2 (ca : Nat → Addr) (v1marks : PV) (v4x : PV) (v5y : PV) : W Bool :=
  (andT (tst (op2 ltF (ret v4x) (ret v5y))) (tst (op2 eqF (op2 ixF (ret v1marks) (ret v4x)) (op2 ixF (ret v1marks) (ret v5y)))))
def E_like_pairs_3 (ca : Nat → Addr)  (v4x : PV) (v5y : PV) : W PV :=
  (tupW (vcons (ret v4x) (vcons (ret v5y) vnil)))
def B_like_pairs (ca : Nat → Addr) (v1marks : PV) : W (Fl Unit) :=
  (bind (setl (lrO (cb lenF (vcons (ret v1marks) vnil)))) fun v2rooms =>
  (bind (lcO2 some (fun _ => ret true) (I_like_pairs_1 ca v2rooms) some (T_like_pairs_2 ca v1marks) (E_like_pairs_3 ca) (itL (ret v2rooms))) fun v3r => ret (.rt (.o v3r))))
def F_like_pairs (ca : Nat → Addr) (v1marks : PV) : W RV := runF (B_like_pairs ca v1marks)

def B_gap_within (ca : Nat → Addr) (v1marks : PV) (v2gaps : PV) (v3one : PV) (v4other : PV) : W (Fl Unit) :=
  (bind (tst (op2 eqF (ret v3one) (ret v4other))) fun v9b => if v9b = true then bindF (S := Empty) (bind (ret (.tup [(.int 0), (.int 1)])) fun v5r => ret (.rt (.v v5r))) (fun s => s.elim) else
  (bind (tst (op2 neF (op2 ixF (ret v1marks) (ret v3one)) (op2 ixF (ret v1marks) (ret v4other)))) fun v8b => if v8b = true then bindF (S := Empty) (bind (ret (.tup [(.int 1), (.int 1)])) fun v6r => ret (.rt (.v v6r))) (fun s => s.elim) else
  (bind (op2 ixF (ret v2gaps) (tupW (vcons (cb min2F (vcons (ret v3one) (vcons (ret v4other) vnil))) (vcons (cb max2F (vcons (ret v3one) (vcons (ret v4other) vnil))) vnil)))) fun v7r => ret (.rt (.v v7r)))))
def F_gap_within (ca : Nat → Addr) (v1marks : PV) (v2gaps : PV) (v3one : PV) (v4other : PV) : W RV := runF (B_gap_within ca v1marks v2gaps v3one v4other)

def E_table_of_1 (ca : Nat → Addr) (v1marks : PV) (v2gaps : PV) (v5x : PV) (v6x : PV) : W PV :=
  (callW (ar4 (F_gap_within ca)) [] (vcons (ret v1marks) (vcons (ret v2gaps) (vcons (ret v5x) (vcons (ret v6x) vnil)))))
def E_table_of_2 (ca : Nat → Addr) (v1marks : PV) (v2gaps : PV) (v3rooms : PV) (v5x : PV) : W PV :=
  (setl (lcO some (fun _ => ret true) (E_table_of_1 ca v1marks v2gaps v5x) (itL (ret v3rooms))))
def B_table_of (ca : Nat → Addr) (v1marks : PV) (v2gaps : PV) : W (Fl Unit) :=
  (bind (setl (lrO (cb lenF (vcons (ret v1marks) vnil)))) fun v3rooms =>
  (bind (lcO some (fun _ => ret true) (E_table_of_2 ca v1marks v2gaps v3rooms) (itL (ret v3rooms))) fun v4r => ret (.rt (.o v4r))))
def F_table_of (ca : Nat → Addr) (v1marks : PV) (v2gaps : PV) : W RV := runF (B_table_of ca v1marks v2gaps)

def E_cleared_1 (ca : Nat → Addr) (v3pivot : PV) (v2own : PV) (v1row : PV) (v4divisor : PV) (v6x : PV × PV) : W PV :=
  (op2 fdivF (op2 subF (op2 mulF (op2 ixF (ret v3pivot) (ret v2own)) (ret v6x.1)) (op2 mulF (op2 ixF (ret v1row) (ret v2own)) (ret v6x.2))) (ret v4divisor))
def B_cleared (ca : Nat → Addr) (v1row : PV) (v2own : PV) (v3pivot : PV) (v4divisor : PV) : W (Fl Unit) :=
  (bind (lcO (tupF2 some some) (fun _ => ret true) (E_cleared_1 ca v3pivot v2own v1row v4divisor) (itZ (vcons (ret v1row) (vcons (ret v3pivot) vnil)))) fun v5r => ret (.rt (.o v5r)))
def F_cleared (ca : Nat → Addr) (v1row : PV) (v2own : PV) (v3pivot : PV) (v4divisor : PV) : W RV := runF (B_cleared ca v1row v2own v3pivot v4divisor)

def E_solution_1 (ca : Nat → Addr) (v6x : PV) (v7pivot : PV) (v5s : PV × PV) (v9x : PV × PV) : W PV :=
  (ifE (tst (op2 eqF (ret v9x.1) (ret v6x))) (ret v9x.2) (setl (callO (ar4 (F_cleared ca)) [] (vcons (ret v9x.2) (vcons (ret v6x) (vcons (ret v7pivot) (vcons (ret v5s.2) vnil)))))))
def L_solution_2 (ca : Nat → Addr)  (v6x : PV) (v5s : PV × PV) : W (Fl (PV × PV)) :=
  (bind (op2 ixF (ret v5s.1) (ret v6x)) fun v7pivot =>
  (bind (setl (lcO (tupF2 some some) (fun _ => ret true) (E_solution_1 ca v6x v7pivot v5s) (itE (vcons (ret v5s.1) vnil)))) fun v8rows =>
  (bindF (bind (op2 ixF (ret v7pivot) (ret v6x)) fun v11a => ret (.nx v11a)) fun v10s => ret (.nx (v8rows, v10s)))))
def E_solution_3 (ca : Nat → Addr) (v4s : PV × PV) (v13x : PV) : W PV :=
  (callW (ar2 (F_reduced ca)) [] (vcons (op2 ixF (ret v13x) (op1 negF (ret (.int 1)))) (vcons (ret v4s.2) vnil)))
def B_solution (ca : Nat → Addr) (v1equations : PV) : W (Fl Unit) :=
  (bind (ret v1equations) fun v2rows =>
  (bind (ret (.int 1)) fun v3divisor =>
  (bindF (bind (itR (vcons (cb lenF (vcons (ret v1equations) vnil)) vnil)) fun as => forW some (L_solution_2 ca) as (v2rows, v3divisor)) fun v4s =>
  (bind (lcO some (fun _ => ret true) (E_solution_3 ca v4s) (itL (ret v4s.1))) fun v12r => ret (.rt (.o v12r))))))
def F_solution (ca : Nat → Addr) (v1equations : PV) : W RV := runF (B_solution ca v1equations)

def E_by_distance_1 (ca : Nat → Addr)  (v6x : PV) : W PV :=
  (ret v6x)
def T_by_distance_2 (ca : Nat → Addr) (v2room : PV) (v6x : PV) : W Bool :=
  (tst (op2 neF (ret v6x) (ret v2room)))
def E_by_distance_3 (ca : Nat → Addr) (v4tops : PV) (v8x : PV) : W PV :=
  (tupW (vcons (op2 ixF (ret v4tops) (ret v8x)) (vcons (ret v8x) vnil)))
def E_by_distance_4 (ca : Nat → Addr) (v3row : PV) (v9x : PV × PV) : W PV :=
  (tupW (vcons (op2 ixF (ret v3row) (ret v9x.2)) (vcons (ret v9x.2) vnil)))
def B_by_distance (ca : Nat → Addr) (v1table : PV) (v2room : PV) : W (Fl Unit) :=
  (bind (op2 ixF (ret v1table) (ret v2room)) fun v3row =>
  (bind (op2 ixF (callW (ar1 (F_common ca)) [] (vcons (ret v3row) vnil)) (ret (.int 0))) fun v4tops =>
  (bind (setl (lcO some (T_by_distance_2 ca v2room) (E_by_distance_1 ca) (itR (vcons (cb lenF (vcons (ret v3row) vnil)) vnil)))) fun v5others =>
  (bind (lcO (tupF2 some some) (fun _ => ret true) (E_by_distance_4 ca v3row) (itL (setl (cbO sortF (vcons (setl (lcO some (fun _ => ret true) (E_by_distance_3 ca v4tops) (itL (ret v5others)))) vnil))))) fun v7r => ret (.rt (.o v7r))))))
def F_by_distance (ca : Nat → Addr) (v1table : PV) (v2room : PV) : W RV := runF (B_by_distance ca v1table v2room)

def B_is_entry (ca : Nat → Addr) (v1pair : PV) (v2thing : PV) : W (Fl Unit) :=
  (bind (orT (notT (tst (op1 (isiB "tuple") (ret v2thing)))) (tst (op2 neF (cb lenF (vcons (ret v2thing) vnil)) (ret (.int 3))))) fun v7b => if v7b = true then bindF (S := Empty) (bind (ret (.bl false)) fun v3r => ret (.rt (.v v3r))) (fun s => s.elim) else
  (bind (setl (cutO (ret v2thing) noPart (partW (ret (.int 2))))) fun v6a => bind (lift ((tupF2 some some) v6a)) fun v4x =>
  (bind (andV (callW (ar1 (F_is_whole ca)) [] (vcons (ret v4x.1) vnil)) (andV (callW (ar1 (F_is_whole ca)) [] (vcons (ret v4x.2) vnil)) (op2 eqF (tupW (vcons (ret v4x.1) (vcons (ret v4x.2) vnil))) (ret v1pair)))) fun v5r => ret (.rt (.v v5r)))))
def F_is_entry (ca : Nat → Addr) (v1pair : PV) (v2thing : PV) : W RV := runF (B_is_entry ca v1pair v2thing)

def E_is_paper_1 (ca : Nat → Addr)  (v8x : PV × PV) : W PV :=
  (callW (ar2 (F_is_entry ca)) [] (vcons (ret v8x.1) (vcons (ret v8x.2) vnil)))
def B_is_paper (ca : Nat → Addr) (v1marks : PV) (v2thing : PV) : W (Fl Unit) :=
  (bind (orT (notT (tst (op1 (isiB "tuple") (ret v2thing)))) (tst (op2 neF (cb lenF (vcons (ret v2thing) vnil)) (ret (.int 2))))) fun v11b => if v11b = true then bindF (S := Empty) (bind (ret (.bl false)) fun v3r => ret (.rt (.v v3r))) (fun s => s.elim) else
  (bind (ret v2thing) fun v10a => bind (lift ((tupF2 some some) v10a)) fun v4x =>
  (bind (setl (callO (ar1 (F_like_pairs ca)) [] (vcons (ret v1marks) vnil))) fun v5pairs =>
  (bind (orT (notT (tst (callW (ar2 (F_is_table ca)) [] (vcons (cb lenF (vcons (ret v1marks) vnil)) (vcons (ret v4x.1) vnil))))) (orT (notT (tst (op1 (isiB "list") (ret v4x.2)))) (tst (op2 neF (cb lenF (vcons (ret v4x.2) vnil)) (cb lenF (vcons (ret v5pairs) vnil)))))) fun v9b => if v9b = true then bindF (S := Empty) (bind (ret (.bl false)) fun v6r => ret (.rt (.v v6r))) (fun s => s.elim) else
  (bind (cb allF (vcons (setl (lcO (tupF2 some some) (fun _ => ret true) (E_is_paper_1 ca) (itZ (vcons (ret v5pairs) (vcons (ret v4x.2) vnil))))) vnil)) fun v7r => ret (.rt (.v v7r)))))))
def F_is_paper (ca : Nat → Addr) (v1marks : PV) (v2thing : PV) : W RV := runF (B_is_paper ca v1marks v2thing)

def I_parts_unlike_1 (ca : Nat → Addr) (v3rooms : PV) (v5x : PV) : W (List PV) :=
  (itL (ret v3rooms))
def T_parts_unlike_2 (ca : Nat → Addr) (v1marks : PV) (v5x : PV) (v6y : PV) : W Bool :=
  (tst (op2 neF (op2 ixF (ret v1marks) (ret v5x)) (op2 ixF (ret v1marks) (ret v6y))))
def E_parts_unlike_3 (ca : Nat → Addr) (v2table : PV) (v5x : PV) (v6y : PV) : W PV :=
  (op2 eqF (op2 ixF (op2 ixF (ret v2table) (ret v5x)) (ret v6y)) (ret (.tup [(.int 1), (.int 1)])))
def B_parts_unlike (ca : Nat → Addr) (v1marks : PV) (v2table : PV) : W (Fl Unit) :=
  (bind (setl (lrO (cb lenF (vcons (ret v1marks) vnil)))) fun v3rooms =>
  (bind (cb allF (vcons (setl (lcO2 some (fun _ => ret true) (I_parts_unlike_1 ca v3rooms) some (T_parts_unlike_2 ca v1marks) (E_parts_unlike_3 ca v2table) (itL (ret v3rooms)))) vnil)) fun v4r => ret (.rt (.v v4r))))
def F_parts_unlike (ca : Nat → Addr) (v1marks : PV) (v2table : PV) : W RV := runF (B_parts_unlike ca v1marks v2table)

def B_holds_above (ca : Nat → Addr) (v1shares : PV) (v2table : PV) (v3fade : PV) (v4entry : PV) : W (Fl Unit) :=
  (bind (ret v4entry) fun v9a => bind (lift ((tupF3 some some some) v9a)) fun v5x =>
  (bind (notT (tst (callW (ar3 (F_is_carrying ca)) [] (vcons (op2 ixF (ret v1shares) (ret v5x.1)) (vcons (op2 ixF (ret v1shares) (ret v5x.2.1)) (vcons (ret v5x.2.2) vnil)))))) fun v8b => if v8b = true then bindF (S := Empty) (bind (ret (.bl false)) fun v6r => ret (.rt (.v v6r))) (fun s => s.elim) else
  (bind (notV (callW (ar2 (F_under ca)) [] (vcons (op2 ixF (op2 ixF (ret v2table) (ret v5x.1)) (ret v5x.2.1)) (vcons (callW (ar2 (F_times ca)) [] (vcons (ret v3fade) (vcons (callW (ar2 (F_cost ca)) [] (vcons (ret v2table) (vcons (ret v5x.2.2) vnil))) vnil))) vnil)))) fun v7r => ret (.rt (.v v7r)))))
def F_holds_above (ca : Nat → Addr) (v1shares : PV) (v2table : PV) (v3fade : PV) (v4entry : PV) : W RV := runF (B_holds_above ca v1shares v2table v3fade v4entry)

def E_lets_above_1 (ca : Nat → Addr) (v8shares : PV) (v7x : PV × PV) (v4meant : PV) (v10x : PV) : W PV :=
  (callW (ar4 (F_holds_above ca)) [] (vcons (ret v8shares) (vcons (ret v7x.1) (vcons (ret v4meant) (vcons (ret v10x) vnil)))))
def B_lets_above (ca : Nat → Addr) (v1machine : PV) (v2thing : PV) (v3fade : PV) : W (Fl Unit) :=
  (bind (callW (ar1 (F_check_machine ca)) [] (vcons (ret v1machine) vnil)) fun _ =>
  (bind (callW (ar1 (F_meant_fade ca)) [] (vcons (ret v3fade) vnil)) fun v4meant =>
  (bind (setl (methO (ca 0) "marks" (ar1 (F_Machine_marks ca)) (ret v1machine) vnil)) fun v5marks =>
  (bind (notT (tst (callW (ar2 (F_is_paper ca)) [] (vcons (ret v5marks) (vcons (ret v2thing) vnil))))) fun v12b => if v12b = true then bindF (S := Empty) (bind (ret (.bl false)) fun v6r => ret (.rt (.v v6r))) (fun s => s.elim) else
  (bind (ret v2thing) fun v11a => bind (lift ((tupF2 some some) v11a)) fun v7x =>
  (bind (setl (methO (ca 0) "shares" (ar1 (F_Machine_shares ca)) (ret v1machine) vnil)) fun v8shares =>
  (bind (andV (callW (ar2 (F_parts_unlike ca)) [] (vcons (ret v5marks) (vcons (ret v7x.1) vnil))) (cb allF (vcons (setl (lcO some (fun _ => ret true) (E_lets_above_1 ca v8shares v7x v4meant) (itL (ret v7x.2)))) vnil))) fun v9r => ret (.rt (.v v9r)))))))))
def F_lets_above (ca : Nat → Addr) (v1machine : PV) (v2thing : PV) (v3fade : PV) : W RV := runF (B_lets_above ca v1machine v2thing v3fade)

def E_is_parting_1 (ca : Nat → Addr)  (v3x : PV) : W PV :=
  (op1 (isiB "list") (ret v3x))
def I_is_parting_2 (ca : Nat → Addr)  (v6x : PV) : W (List PV) :=
  (itL (ret v6x))
def E_is_parting_3 (ca : Nat → Addr)  (v6x : PV) (v7y : PV) : W PV :=
  (ret v7y)
def E_is_parting_4 (ca : Nat → Addr)  (v9x : PV) : W PV :=
  (callW (ar1 (F_is_whole ca)) [] (vcons (ret v9x) vnil))
def B_is_parting (ca : Nat → Addr) (v1many : PV) (v2thing : PV) : W (Fl Unit) :=
  (bind (orT (notT (tst (op1 (isiB "list") (ret v2thing)))) (notT (tst (cb allF (vcons (setl (lcO some (fun _ => ret true) (E_is_parting_1 ca) (itL (ret v2thing)))) vnil))))) fun v10b => if v10b = true then bindF (S := Empty) (bind (ret (.bl false)) fun v4r => ret (.rt (.v v4r))) (fun s => s.elim) else
  (bind (setl (lcO2 some (fun _ => ret true) (I_is_parting_2 ca) some (fun _ _ => ret true) (E_is_parting_3 ca) (itL (ret v2thing)))) fun v5rooms =>
  (bind (andV (cb allF (vcons (setl (lcO some (fun _ => ret true) (E_is_parting_4 ca) (itL (ret v5rooms)))) vnil)) (op2 eqF (setl (cbO sortF (vcons (ret v5rooms) vnil))) (setl (lrO (ret v1many))))) fun v8r => ret (.rt (.v v8r)))))
def F_is_parting (ca : Nat → Addr) (v1many : PV) (v2thing : PV) : W RV := runF (B_is_parting ca v1many v2thing)

def B_check_machines (ca : Nat → Addr) (v1one : PV) (v2other : PV) : W (Fl Unit) :=
  (bind (callW (ar1 (F_check_machine ca)) [] (vcons (ret v1one) vnil)) fun _ =>
  (bindF (bind (callW (ar1 (F_check_machine ca)) [] (vcons (ret v2other) vnil)) fun _ => ret (.nx ())) fun _ => ret (.nx ())))
def F_check_machines (ca : Nat → Addr) (v1one : PV) (v2other : PV) : W RV := runF (B_check_machines ca v1one v2other)

def E_noughts_1 (ca : Nat → Addr)  (v3x : PV) : W PV :=
  (ret (.tup [(.int 0), (.int 1)]))
def B_noughts (ca : Nat → Addr) (v1machine : PV) : W (Fl Unit) :=
  (bind (lcO some (fun _ => ret true) (E_noughts_1 ca) (itR (vcons (lenOW (ca 0) (ar1 (F_Machine___len__ ca)) (ret v1machine)) vnil))) fun v2r => ret (.rt (.o v2r)))
def F_noughts (ca : Nat → Addr) (v1machine : PV) : W RV := runF (B_noughts ca v1machine)

def B_marks_beside (ca : Nat → Addr) (v1one : PV) (v2other : PV) : W (Fl Unit) :=
  (bind (op2 addF (setl (methO (ca 0) "marks" (ar1 (F_Machine_marks ca)) (ret v1one) vnil)) (setl (methO (ca 0) "marks" (ar1 (F_Machine_marks ca)) (ret v2other) vnil))) fun v3r => ret (.rt (.v v3r)))
def F_marks_beside (ca : Nat → Addr) (v1one : PV) (v2other : PV) : W RV := runF (B_marks_beside ca v1one v2other)

def E_shares_beside_1 (ca : Nat → Addr) (v2other : PV) (v4x : PV) : W PV :=
  (op2 addF (ret v4x) (setl (callO (ar1 (F_noughts ca)) [] (vcons (ret v2other) vnil))))
def E_shares_beside_2 (ca : Nat → Addr) (v1one : PV) (v6x : PV) : W PV :=
  (op2 addF (setl (callO (ar1 (F_noughts ca)) [] (vcons (ret v1one) vnil))) (ret v6x))
def B_shares_beside (ca : Nat → Addr) (v1one : PV) (v2other : PV) : W (Fl Unit) :=
  (bind (setl (lcO some (fun _ => ret true) (E_shares_beside_1 ca v2other) (itL (setl (methO (ca 0) "shares" (ar1 (F_Machine_shares ca)) (ret v1one) vnil))))) fun v3ones =>
  (bind (setl (lcO some (fun _ => ret true) (E_shares_beside_2 ca v1one) (itL (setl (methO (ca 0) "shares" (ar1 (F_Machine_shares ca)) (ret v2other) vnil))))) fun v5others =>
  (bind (op2 addF (ret v3ones) (ret v5others)) fun v7r => ret (.rt (.v v7r)))))
def F_shares_beside (ca : Nat → Addr) (v1one : PV) (v2other : PV) : W RV := runF (B_shares_beside ca v1one v2other)

def L_greatest_1 (ca : Nat → Addr)  (v5x : PV) (v4s : PV) : W (Fl (PV)) :=
  (bindF (bind (tst (callW (ar2 (F_under ca)) [] (vcons (ret v4s) (vcons (ret v5x) vnil)))) fun v9b => if v9b = true then ((bindF (bind (ret v5x) fun v8a => ret (.nx v8a)) fun v7s => ret (.nx v7s)) : W (Fl (PV))) else (ret (.nx v4s))) fun v6s => ret (.nx v6s))
def B_greatest (ca : Nat → Addr) (v1some : PV) : W (Fl Unit) :=
  (bind (ret (.tup [(.int 0), (.int 1)])) fun v2most =>
  (bindF (bind (itL (ret v1some)) fun as => forW some (L_greatest_1 ca) as v2most) fun v3s =>
  (bind (ret v3s) fun v10r => ret (.rt (.v v10r)))))
def F_greatest (ca : Nat → Addr) (v1some : PV) : W RV := runF (B_greatest ca v1some)

def E_all_apart_1 (ca : Nat → Addr)  (v5x : PV × PV) : W PV :=
  (callW (ar2 (F_apart ca)) [] (vcons (ret v5x.1) (vcons (ret v5x.2) vnil)))
def E_all_apart_2 (ca : Nat → Addr)  (v4x : PV × PV) : W PV :=
  (setl (lcO (tupF2 some some) (fun _ => ret true) (E_all_apart_1 ca) (itZ (vcons (ret v4x.1) (vcons (ret v4x.2) vnil)))))
def B_all_apart (ca : Nat → Addr) (v1rows : PV) (v2others : PV) : W (Fl Unit) :=
  (bind (lcO (tupF2 some some) (fun _ => ret true) (E_all_apart_2 ca) (itZ (vcons (ret v1rows) (vcons (ret v2others) vnil)))) fun v3r => ret (.rt (.o v3r)))
def F_all_apart (ca : Nat → Addr) (v1rows : PV) (v2others : PV) : W RV := runF (B_all_apart ca v1rows v2others)

def I_greatest_move_1 (ca : Nat → Addr)  (v4x : PV) : W (List PV) :=
  (itL (ret v4x))
def E_greatest_move_2 (ca : Nat → Addr)  (v4x : PV) (v5y : PV) : W PV :=
  (ret v5y)
def B_greatest_move (ca : Nat → Addr) (v1table : PV) (v2other : PV) : W (Fl Unit) :=
  (bind (callW (ar1 (F_greatest ca)) [] (vcons (setl (lcO2 some (fun _ => ret true) (I_greatest_move_1 ca) some (fun _ _ => ret true) (E_greatest_move_2 ca) (itL (setl (callO (ar2 (F_all_apart ca)) [] (vcons (ret v1table) (vcons (ret v2other) vnil))))))) vnil)) fun v3r => ret (.rt (.v v3r)))
def F_greatest_move (ca : Nat → Addr) (v1table : PV) (v2other : PV) : W RV := runF (B_greatest_move ca v1table v2other)

def B_Keeper_machine (ca : Nat → Addr) (v1self : PV) : W (Fl Unit) :=
  (bind (fldW (ca 2) "kept_machine" (ret v1self)) fun v2r => ret (.rt (.v v2r)))
def F_Keeper_machine (ca : Nat → Addr) (v1self : PV) : W RV := runF (B_Keeper_machine ca v1self)

def B_Keeper_fade (ca : Nat → Addr) (v1self : PV) : W (Fl Unit) :=
  (bind (fldW (ca 2) "kept_fade" (ret v1self)) fun v2r => ret (.rt (.v v2r)))
def F_Keeper_fade (ca : Nat → Addr) (v1self : PV) : W RV := runF (B_Keeper_fade ca v1self)

def E_Keeper_table_1 (ca : Nat → Addr)  (v3x : PV) : W PV :=
  (setl (cbO listF (vcons (ret v3x) vnil)))
def B_Keeper_table (ca : Nat → Addr) (v1self : PV) : W (Fl Unit) :=
  (bind (lcO some (fun _ => ret true) (E_Keeper_table_1 ca) (itL (fldW (ca 2) "kept_table" (ret v1self)))) fun v2r => ret (.rt (.o v2r)))
def F_Keeper_table (ca : Nat → Addr) (v1self : PV) : W RV := runF (B_Keeper_table ca v1self)

def B_Keeper_far (ca : Nat → Addr) (v1self : PV) (v2one : PV) (v3other : PV) : W (Fl Unit) :=
  (bind (callW (ar2 (F_check_room ca)) [] (vcons (fldW (ca 2) "kept_machine" (ret v1self)) (vcons (ret v2one) vnil))) fun _ =>
  (bind (callW (ar2 (F_check_room ca)) [] (vcons (fldW (ca 2) "kept_machine" (ret v1self)) (vcons (ret v3other) vnil))) fun _ =>
  (bind (op2 ixF (op2 ixF (fldW (ca 2) "kept_table" (ret v1self)) (ret v2one)) (ret v3other)) fun v4r => ret (.rt (.v v4r)))))
def F_Keeper_far (ca : Nat → Addr) (v1self : PV) (v2one : PV) (v3other : PV) : W RV := runF (B_Keeper_far ca v1self v2one v3other)

def B_Keeper_near (ca : Nat → Addr) (v1self : PV) (v2room : PV) : W (Fl Unit) :=
  (bind (callW (ar2 (F_check_room ca)) [] (vcons (fldW (ca 2) "kept_machine" (ret v1self)) (vcons (ret v2room) vnil))) fun _ =>
  (bind (callO (ar2 (F_by_distance ca)) [] (vcons (fldW (ca 2) "kept_table" (ret v1self)) (vcons (ret v2room) vnil))) fun v3r => ret (.rt (.o v3r))))
def F_Keeper_near (ca : Nat → Addr) (v1self : PV) (v2room : PV) : W RV := runF (B_Keeper_near ca v1self v2room)

def B_Keeper___eq__ (ca : Nat → Addr) (v1self : PV) (v2other : PV) : W (Fl Unit) :=
  (bind (notT (tst (op1 (isiF (fun _ => none) [(ca 2, true)]) (ret v2other)))) fun v5b => if v5b = true then bindF (S := Empty) (bind (ret (.bl false)) fun v3r => ret (.rt (.v v3r))) (fun s => s.elim) else
  (bind (andV (eqOW (ca 0) (ar2 (F_Machine___eq__ ca)) (fldW (ca 2) "kept_machine" (ret v1self)) (fldW (ca 2) "kept_machine" (ret v2other))) (op2 eqF (fldW (ca 2) "kept_fade" (ret v1self)) (fldW (ca 2) "kept_fade" (ret v2other)))) fun v4r => ret (.rt (.v v4r))))
def F_Keeper___eq__ (ca : Nat → Addr) (v1self : PV) (v2other : PV) : W RV := runF (B_Keeper___eq__ ca v1self v2other)

def B_Keeper___len__ (ca : Nat → Addr) (v1self : PV) : W (Fl Unit) :=
  (bind (cb lenF (vcons (fldW (ca 2) "kept_deeds" (ret v1self)) vnil)) fun v2r => ret (.rt (.v v2r)))
def F_Keeper___len__ (ca : Nat → Addr) (v1self : PV) : W RV := runF (B_Keeper___len__ ca v1self)

def B_room_read (ca : Nat → Addr) (v1word : PV) : W (Fl Unit) :=
  (bind (ifE (andT (tst (op2 eqF (cb lenF (vcons (ret v1word) vnil)) (ret (.int 1)))) (tst (op2 (inF false) (ret v1word) (ret (.str (PySem.Str.ofString "0123456789")))))) (cb intF (vcons (ret v1word) vnil)) (ret .non)) fun v2r => ret (.rt (.v v2r)))
def F_room_read (ca : Nat → Addr) (v1word : PV) : W RV := runF (B_room_read ca v1word)

def E_whole_read_1 (ca : Nat → Addr)  (v2x : PV) : W PV :=
  (op2 (inF false) (ret v2x) (ret (.str (PySem.Str.ofString "0123456789"))))
def B_whole_read (ca : Nat → Addr) (v1word : PV) : W (Fl Unit) :=
  (bind (orT (notT (tst (chain leU leU (ret (.int 1)) (cb lenF (vcons (ret v1word) vnil)) (ret (.int 3))))) (notT (tst (cb allF (vcons (setl (lcO some (fun _ => ret true) (E_whole_read_1 ca) (itL (ret v1word)))) vnil))))) fun v5b => if v5b = true then bindF (S := Empty) (bind (ret .non) fun v3r => ret (.rt (.v v3r))) (fun s => s.elim) else
  (bind (ifE (andT (tst (op2 eqF (op2 ixF (ret v1word) (ret (.int 0))) (ret (.str (PySem.Str.ofString "0"))))) (tst (op2 neF (ret v1word) (ret (.str (PySem.Str.ofString "0")))))) (ret .non) (cb intF (vcons (ret v1word) vnil))) fun v4r => ret (.rt (.v v4r))))
def F_whole_read (ca : Nat → Addr) (v1word : PV) : W RV := runF (B_whole_read ca v1word)

def E_name_read_1 (ca : Nat → Addr)  (v3x : PV) : W PV :=
  (chain leU leU (ret (.str (PySem.Str.ofString "a"))) (ret v3x) (ret (.str (PySem.Str.ofString "z"))))
def B_name_read (ca : Nat → Addr) (v1word : PV) : W (Fl Unit) :=
  (bind (ifE (andT (tst (chain leU leU (ret (.int 1)) (cb lenF (vcons (ret v1word) vnil)) (ret (.int 8)))) (tst (cb allF (vcons (setl (lcO some (fun _ => ret true) (E_name_read_1 ca) (itL (ret v1word)))) vnil)))) (ret v1word) (ret .non)) fun v2r => ret (.rt (.v v2r)))
def F_name_read (ca : Nat → Addr) (v1word : PV) : W RV := runF (B_name_read ca v1word)

def B_mark_read (ca : Nat → Addr) (v1word : PV) : W (Fl Unit) :=
  (bind (ifE (tst (callW (ar1 (F_is_mark ca)) [] (vcons (ret v1word) vnil))) (ret v1word) (ret .non)) fun v2r => ret (.rt (.v v2r)))
def F_mark_read (ca : Nat → Addr) (v1word : PV) : W RV := runF (B_mark_read ca v1word)

def B_marks_read (ca : Nat → Addr) (v1words : PV) : W (Fl Unit) :=
  (bind (ifE (tst (callW (ar1 (F_is_row ca)) [] (vcons (ret v1words) vnil))) (ret v1words) (ret .non)) fun v2r => ret (.rt (.v v2r)))
def F_marks_read (ca : Nat → Addr) (v1words : PV) : W RV := runF (B_marks_read ca v1words)

def B_gathered (ca : Nat → Addr) (v1kinds : PV) (v2words : PV) : W (Fl Unit) :=
  (bind (tst (op2 ltF (cb lenF (vcons (ret v2words) vnil)) (cb lenF (vcons (ret v1kinds) vnil)))) fun v8b => if v8b = true then bindF (S := Empty) (bind (ret .non) fun v3r => ret (.rt (.v v3r))) (fun s => s.elim) else
  (bind (andT (tst (op2 neF (ret v1kinds) (tupW vnil))) (tst (op2 (inF false) (op2 ixF (ret v1kinds) (op1 negF (ret (.int 1)))) (ret (.tup [(.str (PySem.Str.ofString "parts")), (.str (PySem.Str.ofString "marks"))]))))) fun v7b => if v7b = true then bindF (S := Empty) (bind (op2 subF (cb lenF (vcons (ret v1kinds) vnil)) (ret (.int 1))) fun v4singles =>
  (bind (op2 addF (setl (cutO (ret v2words) noPart (partW (ret v4singles)))) (setl (lstO (vcons (setl (cutO (ret v2words) (partW (ret v4singles)) noPart)) vnil)))) fun v5r => ret (.rt (.v v5r)))) (fun s => s.elim) else
  (bind (ifE (tst (op2 eqF (cb lenF (vcons (ret v2words) vnil)) (cb lenF (vcons (ret v1kinds) vnil)))) (ret v2words) (ret .non)) fun v6r => ret (.rt (.v v6r)))))
def F_gathered (ca : Nat → Addr) (v1kinds : PV) (v2words : PV) : W RV := runF (B_gathered ca v1kinds v2words)

def B_listed (ca : Nat → Addr) (v1words : PV) : W (Fl Unit) :=
  (bind (ifE (tst (op2 eqF (ret v1words) (setl (lstO vnil)))) (ret (.str (PySem.Str.ofString "-"))) (joinW (ret (.str (PySem.Str.ofString " "))) (ret v1words))) fun v2r => ret (.rt (.v v2r)))
def F_listed (ca : Nat → Addr) (v1words : PV) : W RV := runF (B_listed ca v1words)

def B_on_names (ca : Nat → Addr) (v1keepers : PV) : W (Fl Unit) :=
  (bind (callW (ar1 (F_listed ca)) [] (vcons (setl (cbO sortF (vcons (ret v1keepers) vnil))) vnil)) fun v2r => ret (.rt (.v v2r)))
def F_on_names (ca : Nat → Addr) (v1keepers : PV) : W RV := runF (B_on_names ca v1keepers)

def B_Desk___init__ (ca : Nat → Addr) (v1self : Addr) : W (Fl Unit) :=
  (bindF (bind (ret (.dic [] [])) fun a => bind (newFld v1self (ca 3) "keepers" a) fun _ => ret (.nx ())) fun _ => ret (.nx ()))
def F_Desk___init__ (ca : Nat → Addr) (v1s : PV) : W RV := withP v1s fun v1self => runF (B_Desk___init__ ca v1self)

def B_lacking (ca : Nat → Addr) (v1value : PV) : W (Fl Unit) :=
  (bind (op2 addF (tupW (vcons (op2 subF (op2 ixF (ret v1value) (ret (.int 1))) (op2 ixF (ret v1value) (ret (.int 0)))) vnil)) (setl (cutO (ret v1value) (partW (ret (.int 1))) noPart))) fun v2r => ret (.rt (.v v2r)))
def F_lacking (ca : Nat → Addr) (v1value : PV) : W RV := runF (B_lacking ca v1value)

def B_lesser (ca : Nat → Addr) (v1one : PV) (v2other : PV) : W (Fl Unit) :=
  (bind (ifE (tst (callW (ar2 (F_under ca)) [] (vcons (setl (cutO (ret v1one) noPart (partW (ret (.int 2))))) (vcons (setl (cutO (ret v2other) noPart (partW (ret (.int 2))))) vnil)))) (ret v1one) (ret v2other)) fun v3r => ret (.rt (.v v3r)))
def F_lesser (ca : Nat → Addr) (v1one : PV) (v2other : PV) : W RV := runF (B_lesser ca v1one v2other)

def B_greater (ca : Nat → Addr) (v1one : PV) (v2other : PV) : W (Fl Unit) :=
  (bind (ifE (tst (callW (ar2 (F_under ca)) [] (vcons (setl (cutO (ret v1one) noPart (partW (ret (.int 2))))) (vcons (setl (cutO (ret v2other) noPart (partW (ret (.int 2))))) vnil)))) (ret v2other) (ret v1one)) fun v3r => ret (.rt (.v v3r)))
def F_greater (ca : Nat → Addr) (v1one : PV) (v2other : PV) : W RV := runF (B_greater ca v1one v2other)

def B_fits (ca : Nat → Addr) (v1kind : PV) (v2number : PV) (v3thing : PV) : W (Fl Unit) :=
  (bind (tst (op2 eqF (ret v1kind) (ret (.str (PySem.Str.ofString "mark"))))) fun v8b => if v8b = true then bindF (S := Empty) (bind (callW (ar1 (F_is_mark ca)) [] (vcons (ret v3thing) vnil)) fun v4r => ret (.rt (.v v4r))) (fun s => s.elim) else
  (bind (tst (op2 eqF (ret v1kind) (ret (.str (PySem.Str.ofString "cut"))))) fun v7b => if v7b = true then bindF (S := Empty) (bind (callW (ar1 (F_is_gap ca)) [] (vcons (ret v3thing) vnil)) fun v5r => ret (.rt (.v v5r))) (fun s => s.elim) else
  (bind (callW (ar3 (F_is_whole_within ca)) [] (vcons (ret v3thing) (vcons (ret (.int 0)) (vcons (op2 subF (ret v2number) (ret (.int 1))) vnil)))) fun v6r => ret (.rt (.v v6r)))))
def F_fits (ca : Nat → Addr) (v1kind : PV) (v2number : PV) (v3thing : PV) : W RV := runF (B_fits ca v1kind v2number v3thing)

def B_Sheet_rows (ca : Nat → Addr) (v1self : PV) : W (Fl Unit) :=
  (bind (cbO listF (vcons (fldW (ca 1) "kept_rows" (ret v1self)) vnil)) fun v2r => ret (.rt (.o v2r)))
def F_Sheet_rows (ca : Nat → Addr) (v1self : PV) : W RV := runF (B_Sheet_rows ca v1self)

def B_Sheet___eq__ (ca : Nat → Addr) (v1self : PV) (v2other : PV) : W (Fl Unit) :=
  (bind (notT (tst (op1 (isiF (fun _ => none) [(ca 1, true)]) (ret v2other)))) fun v5b => if v5b = true then bindF (S := Empty) (bind (ret (.bl false)) fun v3r => ret (.rt (.v v3r))) (fun s => s.elim) else
  (bind (op2 eqF (fldW (ca 1) "kept_rows" (ret v1self)) (fldW (ca 1) "kept_rows" (ret v2other))) fun v4r => ret (.rt (.v v4r))))
def F_Sheet___eq__ (ca : Nat → Addr) (v1self : PV) (v2other : PV) : W RV := runF (B_Sheet___eq__ ca v1self v2other)

def B_Sheet___len__ (ca : Nat → Addr) (v1self : PV) : W (Fl Unit) :=
  (bind (cb lenF (vcons (fldW (ca 1) "kept_rows" (ret v1self)) vnil)) fun v2r => ret (.rt (.v v2r)))
def F_Sheet___len__ (ca : Nat → Addr) (v1self : PV) : W RV := runF (B_Sheet___len__ ca v1self)

def B_Draft___init__ (ca : Nat → Addr) (v1self : Addr) : W (Fl Unit) :=
  (bind (setl (lstO vnil)) fun a => bind (newFld v1self (ca 4) "written" a) fun _ =>
  (bindF (bind (ret (.dic [] [])) fun a => bind (newFld v1self (ca 4) "places" a) fun _ => ret (.nx ())) fun _ => ret (.nx ())))
def F_Draft___init__ (ca : Nat → Addr) (v1s : PV) : W RV := withP v1s fun v1self => runF (B_Draft___init__ ca v1self)

def I_room_pairs_1 (ca : Nat → Addr) (v2rooms : PV) (v4x : PV) : W (List PV) :=
  (itL (ret v2rooms))
def T_room_pairs_2 (ca : Nat → Addr)  (v4x : PV) (v5y : PV) : W Bool :=
  (tst (op2 ltF (ret v4x) (ret v5y)))
def E_room_pairs_3 (ca : Nat → Addr)  (v4x : PV) (v5y : PV) : W PV :=
  (tupW (vcons (ret v4x) (vcons (ret v5y) vnil)))
def B_room_pairs (ca : Nat → Addr) (v1machine : PV) : W (Fl Unit) :=
  (bind (setl (lrO (lenOW (ca 0) (ar1 (F_Machine___len__ ca)) (ret v1machine)))) fun v2rooms =>
  (bind (lcO2 some (fun _ => ret true) (I_room_pairs_1 ca v2rooms) some (T_room_pairs_2 ca) (E_room_pairs_3 ca) (itL (ret v2rooms))) fun v3r => ret (.rt (.o v3r))))
def F_room_pairs (ca : Nat → Addr) (v1machine : PV) : W RV := runF (B_room_pairs ca v1machine)

def B_set_beside (ca : Nat → Addr) (v1one : PV) (v2other : PV) : W (Fl Unit) :=
  (bind (tst (op2 gtF (op2 addF (lenOW (ca 0) (ar1 (F_Machine___len__ ca)) (ret v1one)) (lenOW (ca 0) (ar1 (F_Machine___len__ ca)) (ret v2other))) (ret (.int 6)))) fun v4b => if v4b = true then bindF (S := Empty) fail (fun s => s.elim) else
  (bind (makeW (ca 0) (ar3 (F_Machine___init__ ca)) [] (vcons (callW (ar2 (F_marks_beside ca)) [] (vcons (ret v1one) (vcons (ret v2other) vnil))) (vcons (callW (ar2 (F_shares_beside ca)) [] (vcons (ret v1one) (vcons (ret v2other) vnil))) vnil))) fun v3r => ret (.rt (.v v3r))))
def F_set_beside (ca : Nat → Addr) (v1one : PV) (v2other : PV) : W RV := runF (B_set_beside ca v1one v2other)

def B_beside (ca : Nat → Addr) (v1one : PV) (v2other : PV) : W (Fl Unit) :=
  (bind (callW (ar2 (F_check_machines ca)) [] (vcons (ret v1one) (vcons (ret v2other) vnil))) fun _ =>
  (bind (callW (ar2 (F_set_beside ca)) [] (vcons (ret v1one) (vcons (ret v2other) vnil))) fun v3r => ret (.rt (.v v3r))))
def F_beside (ca : Nat → Addr) (v1one : PV) (v2other : PV) : W RV := runF (B_beside ca v1one v2other)

def B_check_twins (ca : Nat → Addr) (v1one : PV) (v2other : PV) : W (Fl Unit) :=
  (bind (callW (ar2 (F_check_machines ca)) [] (vcons (ret v1one) (vcons (ret v2other) vnil))) fun _ =>
  (bindF (bind (tst (op2 neF (setl (methO (ca 0) "marks" (ar1 (F_Machine_marks ca)) (ret v1one) vnil)) (setl (methO (ca 0) "marks" (ar1 (F_Machine_marks ca)) (ret v2other) vnil)))) fun v4b => if v4b = true then (fail : W (Fl (Unit))) else (ret (.nx ()))) fun _ => ret (.nx ())))
def F_check_twins (ca : Nat → Addr) (v1one : PV) (v2other : PV) : W RV := runF (B_check_twins ca v1one v2other)

def E_spread_of_1 (ca : Nat → Addr)  (v4x : PV) : W PV :=
  (callW (ar2 (F_times ca)) [] (vcons (ret (.tup [(.int 1), (.int 2)])) (vcons (callW (ar2 (F_total ca)) [.non] (vcons (ret v4x) vnil)) vnil)))
def B_spread_of (ca : Nat → Addr) (v1one : PV) (v2other : PV) : W (Fl Unit) :=
  (bind (callW (ar1 (F_greatest ca)) [] (vcons (setl (lcO some (fun _ => ret true) (E_spread_of_1 ca) (itL (setl (callO (ar2 (F_all_apart ca)) [] (vcons (setl (methO (ca 0) "shares" (ar1 (F_Machine_shares ca)) (ret v1one) vnil)) (vcons (setl (methO (ca 0) "shares" (ar1 (F_Machine_shares ca)) (ret v2other) vnil)) vnil))))))) vnil)) fun v3r => ret (.rt (.v v3r)))
def F_spread_of (ca : Nat → Addr) (v1one : PV) (v2other : PV) : W RV := runF (B_spread_of ca v1one v2other)

def B_spread (ca : Nat → Addr) (v1one : PV) (v2other : PV) : W (Fl Unit) :=
  (bind (callW (ar2 (F_check_twins ca)) [] (vcons (ret v1one) (vcons (ret v2other) vnil))) fun _ =>
  (bind (callW (ar2 (F_spread_of ca)) [] (vcons (ret v1one) (vcons (ret v2other) vnil))) fun v3r => ret (.rt (.v v3r))))
def F_spread (ca : Nat → Addr) (v1one : PV) (v2other : PV) : W RV := runF (B_spread ca v1one v2other)

def B_most_moved (ca : Nat → Addr) (v1one : PV) (v2other : PV) (v3fade : PV) : W (Fl Unit) :=
  (bind (callW (ar2 (F_check_twins ca)) [] (vcons (ret v1one) (vcons (ret v2other) vnil))) fun _ =>
  (bind (callW (ar1 (F_meant_fade ca)) [] (vcons (ret v3fade) vnil)) fun v4meant =>
  (bind (callW (ar2 (F_spread_of ca)) [] (vcons (ret v1one) (vcons (ret v2other) vnil))) fun v5much =>
  (bind (callW (ar2 (F_times ca)) [] (vcons (ret v4meant) (vcons (callW (ar2 (F_minus ca)) [] (vcons (ret (.tup [(.int 1), (.int 1)])) (vcons (ret v5much) vnil))) vnil))) fun v6kept =>
  (bind (callW (ar2 (F_over ca)) [] (vcons (callW (ar2 (F_times ca)) [] (vcons (ret v4meant) (vcons (ret v5much) vnil))) (vcons (callW (ar2 (F_minus ca)) [] (vcons (ret (.tup [(.int 1), (.int 1)])) (vcons (ret v6kept) vnil))) vnil))) fun v7fromtwin =>
  (bind (callW (ar2 (F_times ca)) [] (vcons (ret (.tup [(.int 2), (.int 1)])) (vcons (ret v7fromtwin) vnil))) fun v8twice =>
  (bind (ifE (tst (callW (ar2 (F_under ca)) [] (vcons (ret (.tup [(.int 1), (.int 1)])) (vcons (ret v8twice) vnil)))) (ret (.tup [(.int 1), (.int 1)])) (ret v8twice)) fun v9r => ret (.rt (.v v9r)))))))))
def F_most_moved (ca : Nat → Addr) (v1one : PV) (v2other : PV) (v3fade : PV) : W RV := runF (B_most_moved ca v1one v2other v3fade)
end NT

namespace LW
open PySem SL
/-- k01 k05 k18 k19 k20 k21 k22 k25 k31 k37 k45 k60 -/
def B__law_whole (ca : Nat → Addr) (v1thing : PV) : W (Fl Unit) :=
  (bind (andV (op1 (isiB "int") (ret v1thing)) (notV (op1 (isiB "bool") (ret v1thing)))) fun v2r => ret (.rt (.v v2r)))
def F__law_whole (ca : Nat → Addr) (v1thing : PV) : W RV := runF (B__law_whole ca v1thing)

/-- k02 k12 k13 k14 k15 k16 k17 k26 k27 k28 k29 k30 k38 k39 k40 k41 k42 k43 k44 k53 k54 k55 k56 k57 k58 k68 k69 k70 k71 k72 k73 k83 k84 k85 k86 k87 k88 k89 k90 k92 k93 k94 -/
def W__law_low_eb1_1 (ca : Nat → Addr)  (v6s : PV × PV) : W (Fl (PV × PV)) :=
  whileW (fun v6s => (tst (op2 gtF (ret v6s.2) (ret (.int 0))))) (fun v6s =>
  (bindF (bind (vcons (ret v6s.2) (vcons (op2 modF (ret v6s.1) (ret v6s.2)) vnil)) fun as => bind (lift (two as)) fun x => ret (.nx x)) fun v7s => ret (.nx (v7s.1, v7s.2)))) v6s
def B__law_low_eb1 (ca : Nat → Addr) (v1top : PV) (v2base : PV) : W (Fl Unit) :=
  (bind (cb absF (vcons (ret v1top) vnil)) fun v3onehere =>
  (bind (ret v2base) fun v4other =>
  (bindF (LW.W__law_low_eb1_1 ca (v3onehere, v4other)) fun v5s =>
  (bind (tupW (vcons (op2 fdivF (ret v1top) (ret v5s.1)) (vcons (op2 fdivF (ret v2base) (ret v5s.1)) vnil))) fun v8r => ret (.rt (.v v8r))))))
def F__law_low_eb1 (ca : Nat → Addr) (v1top : PV) (v2base : PV) : W RV := runF (B__law_low_eb1 ca v1top v2base)

/-- k05 k06 k07 k08 k09 k10 k11 k18 k19 k20 k21 k22 k23 k24 k31 k32 k33 k34 k35 k36 k37 k45 k46 k47 k48 k50 k51 k52 k60 k61 k62 k63 k64 k65 k66 k67 k75 k76 k77 k78 k79 k80 k81 k82 k96 k97 k98 -/
def W__law_low_1 (ca : Nat → Addr)  (v6s : PV × PV) : W (Fl (PV × PV)) :=
  whileW (fun v6s => (tst (op2 neF (ret v6s.2) (ret (.int 0))))) (fun v6s =>
  (bindF (bind (vcons (ret v6s.2) (vcons (op2 modF (ret v6s.1) (ret v6s.2)) vnil)) fun as => bind (lift (two as)) fun x => ret (.nx x)) fun v7s => ret (.nx (v7s.1, v7s.2)))) v6s
def B__law_low (ca : Nat → Addr) (v1top : PV) (v2bottom : PV) : W (Fl Unit) :=
  (bind (cb absF (vcons (ret v1top) vnil)) fun v3one =>
  (bind (ret v2bottom) fun v4other =>
  (bindF (LW.W__law_low_1 ca (v3one, v4other)) fun v5s =>
  (bind (tupW (vcons (op2 fdivF (ret v1top) (ret v5s.1)) (vcons (op2 fdivF (ret v2bottom) (ret v5s.1)) vnil))) fun v8r => ret (.rt (.v v8r))))))
def F__law_low (ca : Nat → Addr) (v1top : PV) (v2bottom : PV) : W RV := runF (B__law_low ca v1top v2bottom)

/-- k05 k08 k10 k18 k19 k20 k21 k22 k23 k24 k31 k33 k35 k37 k45 k46 k47 k48 k62 k64 k66 k75 k76 k81 k82 k96 k97 -/
def B__law_add (ca : Nat → Addr) (v1one : PV) (v2other : PV) : W (Fl Unit) :=
  (bind (callW (ar2 (LW.F__law_low ca)) [] (vcons (op2 addF (op2 mulF (op2 ixF (ret v1one) (ret (.int 0))) (op2 ixF (ret v2other) (ret (.int 1)))) (op2 mulF (op2 ixF (ret v2other) (ret (.int 0))) (op2 ixF (ret v1one) (ret (.int 1))))) (vcons (op2 mulF (op2 ixF (ret v1one) (ret (.int 1))) (op2 ixF (ret v2other) (ret (.int 1)))) vnil))) fun v3r => ret (.rt (.v v3r)))
def F__law_add (ca : Nat → Addr) (v1one : PV) (v2other : PV) : W RV := runF (B__law_add ca v1one v2other)

/-- k05 k10 k18 k19 k21 k22 k31 k37 k45 k46 k47 k48 k62 k64 k96 -/
def L__law_sum_1 (ca : Nat → Addr)  (v5x : PV) (v4s : PV) : W (Fl (PV)) :=
  (bindF (bind (callW (ar2 (LW.F__law_add ca)) [] (vcons (ret v4s) (vcons (ret v5x) vnil))) fun v7a => ret (.nx v7a)) fun v6s => ret (.nx v6s))
def B__law_sum (ca : Nat → Addr) (v1some : PV) : W (Fl Unit) :=
  (bind (tupW (vcons (ret (.int 0)) (vcons (ret (.int 1)) vnil))) fun v2found =>
  (bindF (bind (itL (ret v1some)) fun as => forW some (LW.L__law_sum_1 ca) as v2found) fun v3s =>
  (bind (ret v3s) fun v8r => ret (.rt (.v v8r)))))
def F__law_sum (ca : Nat → Addr) (v1some : PV) : W RV := runF (B__law_sum ca v1some)

/-- k05 k18 k19 k20 k21 k22 k31 k37 k60 -/
def B__law_is_fraction (ca : Nat → Addr) (v1thing : PV) : W (Fl Unit) :=
  (bind (orT (notT (tst (op1 (isiB "tuple") (ret v1thing)))) (orT (tst (op2 neF (cb lenF (vcons (ret v1thing) vnil)) (ret (.int 2)))) (orT (notT (tst (callW (ar1 (LW.F__law_whole ca)) [] (vcons (op2 ixF (ret v1thing) (ret (.int 0))) vnil)))) (notT (tst (callW (ar1 (LW.F__law_whole ca)) [] (vcons (op2 ixF (ret v1thing) (ret (.int 1))) vnil))))))) fun v4b => if v4b = true then bindF (S := Empty) (bind (ret (.bl false)) fun v2r => ret (.rt (.v v2r))) (fun s => s.elim) else
  (bind (andV (op2 gtF (op2 ixF (ret v1thing) (ret (.int 1))) (ret (.int 0))) (op2 eqF (callW (ar2 (LW.F__law_low ca)) [] (vcons (op2 ixF (ret v1thing) (ret (.int 0))) (vcons (op2 ixF (ret v1thing) (ret (.int 1))) vnil))) (ret v1thing))) fun v3r => ret (.rt (.v v3r))))
def F__law_is_fraction (ca : Nat → Addr) (v1thing : PV) : W RV := runF (B__law_is_fraction ca v1thing)

/-- k05 k06 k07 k08 k09 k10 k11 k31 k32 k33 k34 k35 k36 k37 k45 k46 k47 k48 k50 k51 k52 k60 k61 k62 k63 k64 k65 k66 k67 k75 k76 k77 k78 k79 k80 k81 k82 k96 k97 k98 -/
def E__law_word_1 (ca : Nat → Addr) (v2letters : PV) (v1baghere : PV) (v4x : PV) : W PV :=
  (op2 ixF (ret v2letters) (callW (ar2 SL.outW) [] (vcons (ret v1baghere) (vcons (ret (.int 26)) vnil))))
def B__law_word (ca : Nat → Addr) (v1baghere : PV) : W (Fl Unit) :=
  (bind (ret (.str (PySem.Str.ofString "abcdefghijklmnopqrstuvwxyz"))) fun v2letters =>
  (bind (joinW (ret (.str (PySem.Str.ofString ""))) (setl (lcO some (fun _ => ret true) (LW.E__law_word_1 ca v2letters v1baghere) (itR (vcons (op2 addF (ret (.int 1)) (callW (ar2 SL.outW) [] (vcons (ret v1baghere) (vcons (ret (.int 4)) vnil)))) vnil))))) fun v3r => ret (.rt (.v v3r))))
def F__law_word (ca : Nat → Addr) (v1baghere : PV) : W RV := runF (B__law_word ca v1baghere)

/-- k05 k06 k07 k08 k09 k10 k11 k18 k19 k20 k21 k22 k23 k24 k31 k32 k33 k34 k35 k36 k37 k45 k46 k47 k48 k50 k51 k52 k62 k63 k64 k65 k66 k67 k75 k76 k77 k78 k79 k80 k81 k82 k96 k97 k98 -/
def L__law_goes_1 (ca : Nat → Addr) (v1baghere : PV) (v4bottom : PV) (v9x : PV) (v8s : PV × List PV) : W (Fl (PV × List PV)) :=
  (bind (op2 mulF (callW (ar2 SL.outW) [] (vcons (ret v1baghere) (vcons (op2 addF (ret v8s.1) (ret (.int 1))) vnil))) (cb intF (vcons (op2 gtF (callW (ar2 SL.outW) [] (vcons (ret v1baghere) (vcons (ret (.int 3)) vnil))) (ret (.int 0))) vnil))) fun v10part =>
  (bind (op2 subF (ret v8s.1) (ret v10part)) fun v11left =>
  (bindF (bind (callW (ar2 (LW.F__law_low ca)) [] (vcons (ret v10part) (vcons (ret v4bottom) vnil))) fun a => bind (lift (if (v8s.2 : List PV).length < 100000 then some (v8s.2 ++ [a]) else none)) fun bs => ret (.nx bs)) fun v12s => ret (.nx (v11left, v12s)))))
def B__law_goes (ca : Nat → Addr) (v1baghere : PV) (v2many : PV) (v3wide : PV) : W (Fl Unit) :=
  (bind (op2 ixF (setl (lstO (vcons (ret (.int 1)) (vcons (ret (.int 2)) (vcons (ret (.int 3)) (vcons (ret (.int 4)) (vcons (ret (.int 6)) (vcons (op2 addF (ret (.int 1)) (callW (ar2 SL.outW) [] (vcons (ret v1baghere) (vcons (ret v3wide) vnil)))) vnil)))))))) (callW (ar2 SL.outW) [] (vcons (ret v1baghere) (vcons (ret (.int 6)) vnil)))) fun v4bottom =>
  (bind (ret v4bottom) fun v5left =>
  (bind (lstO vnil) fun v6found =>
  (bindF (bind (itR (vcons (op2 subF (ret v2many) (ret (.int 1))) vnil)) fun as => forW some (LW.L__law_goes_1 ca v1baghere v4bottom) as (v5left, v6found)) fun v7s =>
  (bind (callW (ar2 (LW.F__law_low ca)) [] (vcons (ret v7s.1) (vcons (ret v4bottom) vnil))) fun v14a => bind (lift (if (v7s.2 : List PV).length < 100000 then some (v7s.2 ++ [v14a]) else none)) fun v13found =>
  (bind (callW (ar2 SL.outW) [] (vcons (ret v1baghere) (vcons (ret v2many) vnil))) fun v15at =>
  (bind (op2 addF (setl (cutO (ret (.lst v13found)) (partW (ret v15at)) noPart)) (setl (cutO (ret (.lst v13found)) noPart (partW (ret v15at))))) fun v16r => ret (.rt (.v v16r)))))))))
def F__law_goes (ca : Nat → Addr) (v1baghere : PV) (v2many : PV) (v3wide : PV) : W RV := runF (B__law_goes ca v1baghere v2many v3wide)

/-- k05 k06 k07 k08 k09 k10 k11 k31 k32 k33 k34 k35 k36 k37 k45 k46 k47 k48 k50 k51 k52 k62 k63 k64 k66 k67 k75 k76 k77 k78 k79 k80 k81 k82 k96 k97 k98 -/
def L__law_kit_1 (ca : Nat → Addr) (v1baghere : PV) (v6way : PV) (v5words : PV) (v4many : PV) (v3wide : PV) (v11x : PV) (v10s : List PV × List PV) : W (Fl (List PV × List PV)) :=
  (bind (callW (ar2 SL.outW) [] (vcons (ret v1baghere) (vcons (op2 addF (ret v11x) (ret (.int 1))) vnil))) fun v12at =>
  (bindF (bind (andT (tst (op2 ltF (ret v12at) (ret v11x))) (tst (op2 eqF (ret v6way) (ret (.int 0))))) fun v20b => if v20b = true then ((bind (lend (op2 ixF (ret (.lst v10s.1)) (ret v12at))) fun v15a => bind (lift (if (v10s.1 : List PV).length < 100000 then some (v10s.1 ++ [v15a]) else none)) fun v14names =>
  (bindF (bind (setl (lendO (cbO listF (vcons (op2 ixF (ret (.lst v10s.2)) (ret v12at)) vnil)))) fun a => bind (lift (if (v10s.2 : List PV).length < 100000 then some (v10s.2 ++ [a]) else none)) fun bs => ret (.nx bs)) fun v16s => ret (.nx (v14names, v16s)))) : W (Fl (List PV × List PV))) else (bind (op2 ixF (ret v5words) (callW (ar2 SL.outW) [] (vcons (ret v1baghere) (vcons (op2 ixF (setl (lstO (vcons (ret (.int 1)) (vcons (ret (.int 2)) (vcons (ret (.int 3)) (vcons (ret (.int 6)) vnil)))))) (ret v6way)) vnil)))) fun v18a => bind (lift (if (v10s.1 : List PV).length < 100000 then some (v10s.1 ++ [v18a]) else none)) fun v17names =>
  (bindF (bind (callW (ar3 (LW.F__law_goes ca)) [] (vcons (ret v1baghere) (vcons (ret v4many) (vcons (ret v3wide) vnil)))) fun a => bind (lift (if (v10s.2 : List PV).length < 100000 then some (v10s.2 ++ [a]) else none)) fun bs => ret (.nx bs)) fun v19s => ret (.nx (v17names, v19s))))) fun v13s => ret (.nx (v13s.1, v13s.2))))
def B__law_kit (ca : Nat → Addr) (v1baghere : PV) (v2most : PV) (v3wide : PV) : W (Fl Unit) :=
  (bind (op2 addF (ret (.int 1)) (callW (ar2 SL.outW) [] (vcons (ret v1baghere) (vcons (ret v2most) vnil)))) fun v4many =>
  (bind (setl (lstO (vcons (callW (ar1 (LW.F__law_word ca)) [] (vcons (ret v1baghere) vnil)) (vcons (callW (ar1 (LW.F__law_word ca)) [] (vcons (ret v1baghere) vnil)) (vcons (ret (.str (PySem.Str.ofString "a"))) (vcons (ret (.str (PySem.Str.ofString "b"))) (vcons (callW (ar1 (LW.F__law_word ca)) [] (vcons (ret v1baghere) vnil)) (vcons (ret (.str (PySem.Str.ofString "zz"))) vnil)))))))) fun v5words =>
  (bind (callW (ar2 SL.outW) [] (vcons (ret v1baghere) (vcons (ret (.int 4)) vnil))) fun v6way =>
  (bind (lstO vnil) fun v7names =>
  (bind (lstO vnil) fun v8goeshere =>
  (bindF (bind (itR (vcons (ret v4many) vnil)) fun as => forW some (LW.L__law_kit_1 ca v1baghere v6way v5words v4many v3wide) as (v7names, v8goeshere)) fun v9s =>
  (bind (tupW (vcons (ret (.lst v9s.1)) (vcons (ret (.lst v9s.2)) vnil))) fun v21r => ret (.rt (.v v21r)))))))))
def F__law_kit (ca : Nat → Addr) (v1baghere : PV) (v2most : PV) (v3wide : PV) : W RV := runF (B__law_kit ca v1baghere v2most v3wide)

/-- k06 k79 -/
def E__law_is_like_1 (ca : Nat → Addr)  (v6x : PV) : W PV :=
  (ret v6x)
def T__law_is_like_2 (ca : Nat → Addr) (v3due : PV) (v6x : PV) : W Bool :=
  (orT (notT (tst (op1 (isiB "bool") (ret v6x)))) (tst (op2 neF (ret v6x) (ret v3due))))
def B__law_is_like (ca : Nat → Addr) (v1machine : PV) (v2other : PV) (v3due : PV) : W (Fl Unit) :=
  (bind (setl (lstO (vcons (op2 eqF (ret v1machine) (ret v2other)) (vcons (op2 eqF (ret v2other) (ret v1machine)) vnil)))) fun v4found =>
  (bind (op2 eqF (setl (lcO some (LW.T__law_is_like_2 ca v3due) (LW.E__law_is_like_1 ca) (itL (ret v4found)))) (setl (lstO vnil))) fun v5r => ret (.rt (.v v5r))))
def F__law_is_like (ca : Nat → Addr) (v1machine : PV) (v2other : PV) (v3due : PV) : W RV := runF (B__law_is_like ca v1machine v2other v3due)

/-- k08 k10 k19 k20 k21 k22 k24 k31 k35 k62 k64 k82 k96 -/
def B__law_mul (ca : Nat → Addr) (v1one : PV) (v2other : PV) : W (Fl Unit) :=
  (bind (callW (ar2 (LW.F__law_low ca)) [] (vcons (op2 mulF (op2 ixF (ret v1one) (ret (.int 0))) (op2 ixF (ret v2other) (ret (.int 0)))) (vcons (op2 mulF (op2 ixF (ret v1one) (ret (.int 1))) (op2 ixF (ret v2other) (ret (.int 1)))) vnil))) fun v3r => ret (.rt (.v v3r)))
def F__law_mul (ca : Nat → Addr) (v1one : PV) (v2other : PV) : W RV := runF (B__law_mul ca v1one v2other)

/-- k09 k10 k11 k19 k20 k22 k24 k36 k48 k50 k52 k67 -/
def E__law_shuffled_1 (ca : Nat → Addr) (v3left : PV) (v1baghere : PV) (v5x : PV) : W PV :=
  (popC (ret v3left) (vcons (callW (ar2 SL.outW) [] (vcons (ret v1baghere) (vcons (lenC (ret v3left)) vnil))) vnil))
def B__law_shuffled (ca : Nat → Addr) (v1baghere : PV) (v2many : PV) : W (Fl Unit) :=
  (bind (cellW (lrO (ret v2many))) fun v3left =>
  (bind (lcO some (fun _ => ret true) (LW.E__law_shuffled_1 ca v3left v1baghere) (itR (vcons (ret v2many) vnil))) fun v4r => ret (.rt (.o v4r))))
def F__law_shuffled (ca : Nat → Addr) (v1baghere : PV) (v2many : PV) : W RV := runF (B__law_shuffled ca v1baghere v2many)

/-- k12 k13 k14 k16 k26 k28 k38 k39 k40 k42 k43 k44 k54 k55 k57 k58 k68 k69 k72 k73 k92 k94 -/
def B__law_plus (ca : Nat → Addr) (v1one : PV) (v2other : PV) : W (Fl Unit) :=
  (bind (callW (ar2 (LW.F__law_low_eb1 ca)) [] (vcons (op2 addF (op2 mulF (op2 ixF (ret v1one) (ret (.int 0))) (op2 ixF (ret v2other) (ret (.int 1)))) (op2 mulF (op2 ixF (ret v2other) (ret (.int 0))) (op2 ixF (ret v1one) (ret (.int 1))))) (vcons (op2 mulF (op2 ixF (ret v1one) (ret (.int 1))) (op2 ixF (ret v2other) (ret (.int 1)))) vnil))) fun v3r => ret (.rt (.v v3r)))
def F__law_plus (ca : Nat → Addr) (v1one : PV) (v2other : PV) : W RV := runF (B__law_plus ca v1one v2other)

/-- k12 k13 k14 k26 k38 k39 k40 k42 k43 k44 k68 k69 k73 k92 k93 -/
def B__law_times (ca : Nat → Addr) (v1one : PV) (v2other : PV) : W (Fl Unit) :=
  (bind (callW (ar2 (LW.F__law_low_eb1 ca)) [] (vcons (op2 mulF (op2 ixF (ret v1one) (ret (.int 0))) (op2 ixF (ret v2other) (ret (.int 0)))) (vcons (op2 mulF (op2 ixF (ret v1one) (ret (.int 1))) (op2 ixF (ret v2other) (ret (.int 1)))) vnil))) fun v3r => ret (.rt (.v v3r)))
def F__law_times (ca : Nat → Addr) (v1one : PV) (v2other : PV) : W RV := runF (B__law_times ca v1one v2other)

/-- k12 k13 k14 k16 k26 k38 k39 k40 k43 k44 k68 k69 k92 k94 -/
def L__law_total_1 (ca : Nat → Addr)  (v5x : PV) (v4s : PV) : W (Fl (PV)) :=
  (bindF (bind (callW (ar2 (LW.F__law_plus ca)) [] (vcons (ret v4s) (vcons (ret v5x) vnil))) fun v7a => ret (.nx v7a)) fun v6s => ret (.nx v6s))
def B__law_total (ca : Nat → Addr) (v1some : PV) : W (Fl Unit) :=
  (bind (tupW (vcons (ret (.int 0)) (vcons (ret (.int 1)) vnil))) fun v2found =>
  (bindF (bind (itL (ret v1some)) fun as => forW some (LW.L__law_total_1 ca) as v2found) fun v3s =>
  (bind (ret v3s) fun v8r => ret (.rt (.v v8r)))))
def F__law_total (ca : Nat → Addr) (v1some : PV) : W RV := runF (B__law_total ca v1some)

/-- k12 k13 k14 k26 k38 k39 k40 k43 k44 -/
def E__law_weighed_1 (ca : Nat → Addr)  (v4x : PV × PV) : W PV :=
  (callW (ar2 (LW.F__law_times ca)) [] (vcons (ret v4x.1) (vcons (ret v4x.2) vnil)))
def T__law_weighed_2 (ca : Nat → Addr)  (v4x : PV × PV) : W Bool :=
  (tst (op2 neF (op2 ixF (ret v4x.1) (ret (.int 0))) (ret (.int 0))))
def B__law_weighed (ca : Nat → Addr) (v1ones : PV) (v2others : PV) : W (Fl Unit) :=
  (bind (callW (ar1 (LW.F__law_total ca)) [] (vcons (setl (lcO (tupF2 some some) (LW.T__law_weighed_2 ca) (LW.E__law_weighed_1 ca) (itZ (vcons (ret v1ones) (vcons (ret v2others) vnil))))) vnil)) fun v3r => ret (.rt (.v v3r)))
def F__law_weighed (ca : Nat → Addr) (v1ones : PV) (v2others : PV) : W RV := runF (B__law_weighed ca v1ones v2others)

/-- k12 k13 k14 k15 k16 k26 k27 k28 k29 k38 k39 k40 k42 k43 k44 k54 k55 k57 k58 k68 k69 k70 k72 k73 k83 k92 k94 -/
def E__law_mark_1 (ca : Nat → Addr) (v1state : PV) (v3x : PV) : W PV :=
  (op2 ixF (ret (.str (PySem.Str.ofString "abcdefghijklmnopqrstuvwxyz"))) (callW (ar2 SL.takeW) [] (vcons (ret v1state) (vcons (ret (.int 26)) vnil))))
def B__law_mark (ca : Nat → Addr) (v1state : PV) : W (Fl Unit) :=
  (bind (joinW (ret (.str (PySem.Str.ofString ""))) (setl (lcO some (fun _ => ret true) (LW.E__law_mark_1 ca v1state) (itR (vcons (op2 addF (ret (.int 1)) (callW (ar2 SL.takeW) [] (vcons (ret v1state) (vcons (ret (.int 4)) vnil)))) vnil))))) fun v2r => ret (.rt (.v v2r)))
def F__law_mark (ca : Nat → Addr) (v1state : PV) : W RV := runF (B__law_mark ca v1state)

/-- k12 k13 k14 k15 k16 k26 k27 k28 k29 k38 k39 k40 k42 k43 k44 k54 k55 k57 k58 k68 k69 k70 k72 k73 k83 k92 k94 -/
def E__law_shares_1 (ca : Nat → Addr) (v1state : PV) (v3most : PV) (v5x : PV) : W PV :=
  (op2 mulF (callW (ar2 SL.takeW) [] (vcons (ret v1state) (vcons (op2 addF (ret v3most) (ret (.int 1))) vnil))) (cb intF (vcons (op2 gtF (callW (ar2 SL.takeW) [] (vcons (ret v1state) (vcons (ret (.int 3)) vnil))) (ret (.int 0))) vnil)))
def E__law_shares_2 (ca : Nat → Addr) (v6s : List PV) (v10x : PV) : W PV :=
  (callW (ar2 (LW.F__law_low_eb1 ca)) [] (vcons (ret v10x) (vcons (cb sumF1 (vcons (ret (.lst v6s)) vnil)) vnil)))
def B__law_shares (ca : Nat → Addr) (v1state : PV) (v2many : PV) (v3most : PV) : W (Fl Unit) :=
  (bind (lcO some (fun _ => ret true) (LW.E__law_shares_1 ca v1state v3most) (itR (vcons (ret v2many) vnil))) fun v4row =>
  (bindF (bind (tst (lend (op2 eqF (cb sumF1 (vcons (ret (.lst v4row)) vnil)) (ret (.int 0))))) fun v8b => if v8b = true then ((bindF (bind (ret (.int 1)) fun a => bind (callW (ar2 SL.takeW) [] (vcons (ret v1state) (vcons (ret v2many) vnil))) fun b => bind (lift (setF v4row b a)) fun bs => ret (.nx bs)) fun v7s => ret (.nx v7s)) : W (Fl (List PV))) else (ret (.nx v4row))) fun v6s =>
  (bind (lcO some (fun _ => ret true) (LW.E__law_shares_2 ca v6s) (itL (ret (.lst v6s)))) fun v9r => ret (.rt (.o v9r)))))
def F__law_shares (ca : Nat → Addr) (v1state : PV) (v2many : PV) (v3most : PV) : W RV := runF (B__law_shares ca v1state v2many v3most)

/-- k12 k13 k14 k15 k16 k26 k27 k28 k29 k38 k39 k40 k42 k43 k44 k54 k55 k57 k58 k68 k69 k70 k72 k73 k83 k92 k94 -/
def E__law_machine_1 (ca : Nat → Addr) (v1state : PV) (v6x : PV) : W PV :=
  (callW (ar1 (LW.F__law_mark ca)) [] (vcons (ret v1state) vnil))
def E__law_machine_2 (ca : Nat → Addr) (v5some : PV) (v1state : PV) (v7kinds : PV) (v9x : PV) : W PV :=
  (op2 ixF (ret v5some) (callW (ar2 SL.takeW) [] (vcons (ret v1state) (vcons (ret v7kinds) vnil))))
def L__law_machine_3 (ca : Nat → Addr) (v1state : PV) (v4many : PV) (v3great : PV) (v13x : PV) (v12s : List PV) : W (Fl (List PV)) :=
  (bind (callW (ar3 (LW.F__law_shares ca)) [] (vcons (ret v1state) (vcons (ret v4many) (vcons (ret v3great) vnil)))) fun v14row =>
  (bindF (bind (andT (tst (op2 gtF (ret v13x) (ret (.int 0)))) (tst (op2 eqF (callW (ar2 SL.takeW) [] (vcons (ret v1state) (vcons (ret (.int 3)) vnil))) (ret (.int 0))))) fun v18b => if v18b = true then ((bindF (bind (setl (lendO (cbO listF (vcons (op2 ixF (ret (.lst v12s)) (callW (ar2 SL.takeW) [] (vcons (ret v1state) (vcons (ret v13x) vnil)))) vnil)))) fun v17a => ret (.nx v17a)) fun v16s => ret (.nx v16s)) : W (Fl (PV))) else (ret (.nx v14row))) fun v15s =>
  (bindF (bind (ret v15s) fun a => bind (lift (if (v12s : List PV).length < 100000 then some (v12s ++ [a]) else none)) fun bs => ret (.nx bs)) fun v19s => ret (.nx v19s))))
def B__law_machine (ca : Nat → Addr) (v1state : PV) (v2most : PV) (v3great : PV) : W (Fl Unit) :=
  (bind (op2 addF (ret (.int 1)) (callW (ar2 SL.takeW) [] (vcons (ret v1state) (vcons (ret v2most) vnil)))) fun v4many =>
  (bind (setl (lcO some (fun _ => ret true) (LW.E__law_machine_1 ca v1state) (itR (vcons (ret (.int 6)) vnil)))) fun v5some =>
  (bind (op2 ixF (setl (lstO (vcons (ret (.int 1)) (vcons (ret (.int 2)) (vcons (ret (.int 3)) (vcons (ret (.int 6)) vnil)))))) (callW (ar2 SL.takeW) [] (vcons (ret v1state) (vcons (ret (.int 4)) vnil)))) fun v7kinds =>
  (bind (setl (lcO some (fun _ => ret true) (LW.E__law_machine_2 ca v5some v1state v7kinds) (itR (vcons (ret v4many) vnil)))) fun v8marks =>
  (bind (lstO vnil) fun v10shareshere =>
  (bindF (bind (itR (vcons (ret v4many) vnil)) fun as => forW some (LW.L__law_machine_3 ca v1state v4many v3great) as v10shareshere) fun v11s =>
  (bind (tupW (vcons (ret v8marks) (vcons (ret (.lst v11s)) vnil))) fun v20r => ret (.rt (.v v20r)))))))))
def F__law_machine (ca : Nat → Addr) (v1state : PV) (v2most : PV) (v3great : PV) : W RV := runF (B__law_machine ca v1state v2most v3great)

/-- k12 k13 k14 -/
def E__law_gone_1 (ca : Nat → Addr) (v8x : PV) (v12x : PV) : W PV :=
  (op2 ixF (ret v12x) (ret v8x))
def L__law_gone_2 (ca : Nat → Addr) (v4x : PV × PV) (v3markhere : PV) (v2chances : PV) (v8x : PV) (v7s : List PV) : W (Fl (List PV)) :=
  (bind (tupW (vcons (ret (.int 0)) (vcons (ret (.int 1)) vnil))) fun v9one =>
  (bindF (bind (tst (op2 eqF (op2 ixF (ret v4x.1) (ret v8x)) (ret v3markhere))) fun v14b => if v14b = true then ((bindF (bind (callW (ar2 (LW.F__law_weighed ca)) [] (vcons (ret v2chances) (vcons (setl (lcO some (fun _ => ret true) (LW.E__law_gone_1 ca v8x) (itL (ret v4x.2)))) vnil))) fun v13a => ret (.nx v13a)) fun v11s => ret (.nx v11s)) : W (Fl (PV))) else (ret (.nx v9one))) fun v10s =>
  (bindF (bind (ret v10s) fun a => bind (lift (if (v7s : List PV).length < 100000 then some (v7s ++ [a]) else none)) fun bs => ret (.nx bs)) fun v15s => ret (.nx v15s))))
def B__law_gone (ca : Nat → Addr) (v1plan : PV) (v2chances : PV) (v3markhere : PV) : W (Fl Unit) :=
  (bind (ret v1plan) fun v16a => bind (lift ((tupF2 some some) v16a)) fun v4x =>
  (bind (lstO vnil) fun v5found =>
  (bindF (bind (itR (vcons (cb lenF (vcons (ret v4x.1) vnil)) vnil)) fun as => forW some (LW.L__law_gone_2 ca v4x v3markhere v2chances) as v5found) fun v6s =>
  (ret (.rt (.o v6s))))))
def F__law_gone (ca : Nat → Addr) (v1plan : PV) (v2chances : PV) (v3markhere : PV) : W RV := runF (B__law_gone ca v1plan v2chances v3markhere)

/-- k14 k16 k18 k19 k20 k21 k22 k23 k24 k26 k27 k28 k31 k32 k35 k36 k37 k38 k39 k40 k42 k43 k44 k57 k62 k64 k66 k68 k69 k70 k72 k73 k75 k76 k81 k82 k92 k93 k96 k97 -/
def B__law_less (ca : Nat → Addr) (v1one : PV) (v2other : PV) : W (Fl Unit) :=
  (bind (op2 ltF (op2 mulF (op2 ixF (ret v1one) (ret (.int 0))) (op2 ixF (ret v2other) (ret (.int 1)))) (op2 mulF (op2 ixF (ret v2other) (ret (.int 0))) (op2 ixF (ret v1one) (ret (.int 1))))) fun v3r => ret (.rt (.v v3r)))
def F__law_less (ca : Nat → Addr) (v1one : PV) (v2other : PV) : W RV := runF (B__law_less ca v1one v2other)

/-- k14 k26 k39 k40 k43 k44 k68 k69 k70 k72 k92 k93 -/
def B__law_far (ca : Nat → Addr) (v1one : PV) (v2other : PV) : W (Fl Unit) :=
  (bind (callW (ar2 (LW.F__law_low_eb1 ca)) [] (vcons (op2 subF (op2 mulF (op2 ixF (ret v1one) (ret (.int 0))) (op2 ixF (ret v2other) (ret (.int 1)))) (op2 mulF (op2 ixF (ret v2other) (ret (.int 0))) (op2 ixF (ret v1one) (ret (.int 1))))) (vcons (op2 mulF (op2 ixF (ret v1one) (ret (.int 1))) (op2 ixF (ret v2other) (ret (.int 1)))) vnil))) fun v3found =>
  (bind (tupW (vcons (cb absF (vcons (op2 ixF (ret v3found) (ret (.int 0))) vnil)) (vcons (op2 ixF (ret v3found) (ret (.int 1))) vnil))) fun v4r => ret (.rt (.v v4r))))
def F__law_far (ca : Nat → Addr) (v1one : PV) (v2other : PV) : W RV := runF (B__law_far ca v1one v2other)

/-- k17 k30 -/
def E__law_line_1 (ca : Nat → Addr) (v1state : PV) (v4x : PV) : W PV :=
  (callW (ar2 SL.takeW) [] (vcons (ret v1state) (vcons (ret (.int 4)) vnil)))
def E__law_line_2 (ca : Nat → Addr) (v5s : List PV) (v9x : PV) : W PV :=
  (callW (ar2 (LW.F__law_low_eb1 ca)) [] (vcons (ret v9x) (vcons (cb sumF1 (vcons (ret (.lst v5s)) vnil)) vnil)))
def B__law_line (ca : Nat → Addr) (v1state : PV) (v2size : PV) : W (Fl Unit) :=
  (bind (lcO some (fun _ => ret true) (LW.E__law_line_1 ca v1state) (itR (vcons (ret v2size) vnil))) fun v3told =>
  (bindF (bind (tst (lend (op2 eqF (cb sumF1 (vcons (ret (.lst v3told)) vnil)) (ret (.int 0))))) fun v7b => if v7b = true then ((bindF (bind (ret (.int 1)) fun a => bind (callW (ar2 SL.takeW) [] (vcons (ret v1state) (vcons (ret v2size) vnil))) fun b => bind (lift (setF v3told b a)) fun bs => ret (.nx bs)) fun v6s => ret (.nx v6s)) : W (Fl (List PV))) else (ret (.nx v3told))) fun v5s =>
  (bind (lcO some (fun _ => ret true) (LW.E__law_line_2 ca v5s) (itL (ret (.lst v5s)))) fun v8r => ret (.rt (.o v8r)))))
def F__law_line (ca : Nat → Addr) (v1state : PV) (v2size : PV) : W RV := runF (B__law_line ca v1state v2size)

/-- k18 k31 k37 -/
def L__law_has_corners_1 (ca : Nat → Addr) (v1boardhere : PV) (v4x : PV) (v7x : PV) (v10x : PV) (v9s : Unit) : W (Fl (Unit)) :=
  (bindF (bind (tst (callW (ar2 (LW.F__law_less ca)) [] (vcons (callW (ar2 (LW.F__law_add ca)) [] (vcons (op2 ixF (op2 ixF (ret v1boardhere) (ret v4x)) (ret v10x)) (vcons (op2 ixF (op2 ixF (ret v1boardhere) (ret v10x)) (ret v7x)) vnil))) (vcons (op2 ixF (op2 ixF (ret v1boardhere) (ret v4x)) (ret v7x)) vnil)))) fun v13b => if v13b = true then ((bind (ret (.bl false)) fun v12r => ret (.rt (.v v12r))) : W (Fl (Unit))) else (ret (.nx ()))) fun _ => ret (.nx ()))
def L__law_has_corners_2 (ca : Nat → Addr) (v1boardhere : PV) (v4x : PV) (v7x : PV) (v6s : Unit) : W (Fl (Unit)) :=
  (bindF (bind (itR (vcons (cb lenF (vcons (ret v1boardhere) vnil)) vnil)) fun as => forW some (LW.L__law_has_corners_1 ca v1boardhere v4x v7x) as ()) fun _ => ret (.nx ()))
def L__law_has_corners_3 (ca : Nat → Addr) (v1boardhere : PV) (v4x : PV) (v3s : Unit) : W (Fl (Unit)) :=
  (bindF (bind (itR (vcons (cb lenF (vcons (ret v1boardhere) vnil)) vnil)) fun as => forW some (LW.L__law_has_corners_2 ca v1boardhere v4x) as ()) fun _ => ret (.nx ()))
def B__law_has_corners (ca : Nat → Addr) (v1boardhere : PV) : W (Fl Unit) :=
  (bindF (bind (itR (vcons (cb lenF (vcons (ret v1boardhere) vnil)) vnil)) fun as => forW some (LW.L__law_has_corners_3 ca v1boardhere) as ()) fun _ =>
  (bind (ret (.bl true)) fun v14r => ret (.rt (.v v14r))))
def F__law_has_corners (ca : Nat → Addr) (v1boardhere : PV) : W RV := runF (B__law_has_corners ca v1boardhere)

/-- k18 k31 k37 -/
def E__law_is_table_1b7_1 (ca : Nat → Addr)  (v9x : PV) : W PV :=
  (andV (callW (ar1 (LW.F__law_is_fraction ca)) [] (vcons (ret v9x) vnil)) (chain leU leU (ret (.int 0)) (op2 ixF (ret v9x) (ret (.int 0))) (op2 ixF (ret v9x) (ret (.int 1)))))
def L__law_is_table_1b7_2 (ca : Nat → Addr) (v1many : PV) (v6x : PV) (v5s : Unit) : W (Fl (Unit)) :=
  (bind (orT (notT (tst (op1 (isiB "list") (ret v6x)))) (tst (op2 neF (cb lenF (vcons (ret v6x) vnil)) (ret v1many)))) fun v12b => if v12b = true then bindF (S := Empty) (bind (ret (.bl false)) fun v7r => ret (.rt (.v v7r))) (fun s => s.elim) else
  (bindF (bind (notT (tst (cb allF (vcons (setl (lcO some (fun _ => ret true) (LW.E__law_is_table_1b7_1 ca) (itL (ret v6x)))) vnil)))) fun v11b => if v11b = true then ((bind (ret (.bl false)) fun v10r => ret (.rt (.v v10r))) : W (Fl (Unit))) else (ret (.nx ()))) fun _ => ret (.nx ())))
def L__law_is_table_1b7_3 (ca : Nat → Addr) (v2thing : PV) (v15x : PV) (v19x : PV) (v18s : Unit) : W (Fl (Unit)) :=
  (bindF (bind (tst (op2 neF (op2 ixF (op2 ixF (ret v2thing) (ret v15x)) (ret v19x)) (op2 ixF (op2 ixF (ret v2thing) (ret v19x)) (ret v15x)))) fun v22b => if v22b = true then ((bind (ret (.bl false)) fun v21r => ret (.rt (.v v21r))) : W (Fl (Unit))) else (ret (.nx ()))) fun _ => ret (.nx ()))
def L__law_is_table_1b7_4 (ca : Nat → Addr) (v2thing : PV) (v15x : PV) (v14s : Unit) : W (Fl (Unit)) :=
  (bind (tst (op2 neF (op2 ixF (op2 ixF (ret v2thing) (ret v15x)) (ret v15x)) (tupW (vcons (ret (.int 0)) (vcons (ret (.int 1)) vnil))))) fun v23b => if v23b = true then bindF (S := Empty) (bind (ret (.bl false)) fun v16r => ret (.rt (.v v16r))) (fun s => s.elim) else
  (bindF (bind (itR (vcons (ret v15x) vnil)) fun as => forW some (LW.L__law_is_table_1b7_3 ca v2thing v15x) as ()) fun _ => ret (.nx ())))
def B__law_is_table_1b7 (ca : Nat → Addr) (v1many : PV) (v2thing : PV) : W (Fl Unit) :=
  (bind (orT (notT (tst (op1 (isiB "list") (ret v2thing)))) (tst (op2 neF (cb lenF (vcons (ret v2thing) vnil)) (ret v1many)))) fun v25b => if v25b = true then bindF (S := Empty) (bind (ret (.bl false)) fun v3r => ret (.rt (.v v3r))) (fun s => s.elim) else
  (bindF (bind (itL (ret v2thing)) fun as => forW some (LW.L__law_is_table_1b7_2 ca v1many) as ()) fun _ =>
  (bindF (bind (itR (vcons (ret v1many) vnil)) fun as => forW some (LW.L__law_is_table_1b7_4 ca v2thing) as ()) fun _ =>
  (bind (ret (.bl true)) fun v24r => ret (.rt (.v v24r))))))
def F__law_is_table_1b7 (ca : Nat → Addr) (v1many : PV) (v2thing : PV) : W RV := runF (B__law_is_table_1b7 ca v1many v2thing)

/-- k19 k21 k22 k31 -/
def E__law_is_carrying_f14_1 (ca : Nat → Addr)  (v10x : PV) : W PV :=
  (andV (callW (ar1 (LW.F__law_is_fraction ca)) [] (vcons (ret v10x) vnil)) (op2 geF (op2 ixF (ret v10x) (ret (.int 0))) (ret (.int 0))))
def L__law_is_carrying_f14_2 (ca : Nat → Addr) (v2others : PV) (v7x : PV) (v6s : Unit) : W (Fl (Unit)) :=
  (bind (orT (notT (tst (op1 (isiB "list") (ret v7x)))) (tst (op2 neF (cb lenF (vcons (ret v7x) vnil)) (cb lenF (vcons (ret v2others) vnil))))) fun v13b => if v13b = true then bindF (S := Empty) (bind (ret (.bl false)) fun v8r => ret (.rt (.v v8r))) (fun s => s.elim) else
  (bindF (bind (notT (tst (cb allF (vcons (setl (lcO some (fun _ => ret true) (LW.E__law_is_carrying_f14_1 ca) (itL (ret v7x)))) vnil)))) fun v12b => if v12b = true then ((bind (ret (.bl false)) fun v11r => ret (.rt (.v v11r))) : W (Fl (Unit))) else (ret (.nx ()))) fun _ => ret (.nx ())))
def E__law_is_carrying_f14_3 (ca : Nat → Addr)  (v14x : PV) : W PV :=
  (callW (ar1 (LW.F__law_sum ca)) [] (vcons (ret v14x) vnil))
def E__law_is_carrying_f14_4 (ca : Nat → Addr) (v17x : PV) (v18x : PV) : W PV :=
  (op2 ixF (ret v18x) (ret v17x))
def E__law_is_carrying_f14_5 (ca : Nat → Addr) (v3thing : PV) (v17x : PV) : W PV :=
  (callW (ar1 (LW.F__law_sum ca)) [] (vcons (setl (lcO some (fun _ => ret true) (LW.E__law_is_carrying_f14_4 ca v17x) (itL (ret v3thing)))) vnil))
def B__law_is_carrying_f14 (ca : Nat → Addr) (v1ones : PV) (v2others : PV) (v3thing : PV) : W (Fl Unit) :=
  (bind (orT (notT (tst (op1 (isiB "list") (ret v3thing)))) (tst (op2 neF (cb lenF (vcons (ret v3thing) vnil)) (cb lenF (vcons (ret v1ones) vnil))))) fun v20b => if v20b = true then bindF (S := Empty) (bind (ret (.bl false)) fun v4r => ret (.rt (.v v4r))) (fun s => s.elim) else
  (bindF (bind (itL (ret v3thing)) fun as => forW some (LW.L__law_is_carrying_f14_2 ca v2others) as ()) fun _ =>
  (bind (tst (op2 neF (setl (lcO some (fun _ => ret true) (LW.E__law_is_carrying_f14_3 ca) (itL (ret v3thing)))) (ret v1ones))) fun v19b => if v19b = true then bindF (S := Empty) (bind (ret (.bl false)) fun v15r => ret (.rt (.v v15r))) (fun s => s.elim) else
  (bind (op2 eqF (setl (lcO some (fun _ => ret true) (LW.E__law_is_carrying_f14_5 ca v3thing) (itR (vcons (cb lenF (vcons (ret v2others) vnil)) vnil)))) (ret v2others)) fun v16r => ret (.rt (.v v16r))))))
def F__law_is_carrying_f14 (ca : Nat → Addr) (v1ones : PV) (v2others : PV) (v3thing : PV) : W RV := runF (B__law_is_carrying_f14 ca v1ones v2others v3thing)

/-- k20 k21 k22 k31 k64 k66 k75 k76 k81 k96 k97 -/
def B__law_far_b93 (ca : Nat → Addr) (v1one : PV) (v2other : PV) : W (Fl Unit) :=
  (bind (callW (ar2 (LW.F__law_add ca)) [] (vcons (ret v1one) (vcons (tupW (vcons (op2 subF (ret (.int 0)) (op2 ixF (ret v2other) (ret (.int 0)))) (vcons (op2 ixF (ret v2other) (ret (.int 1))) vnil))) vnil))) fun v3found =>
  (bind (tupW (vcons (cb absF (vcons (op2 ixF (ret v3found) (ret (.int 0))) vnil)) (vcons (op2 ixF (ret v3found) (ret (.int 1))) vnil))) fun v4r => ret (.rt (.v v4r))))
def F__law_far_b93 (ca : Nat → Addr) (v1one : PV) (v2other : PV) : W RV := runF (B__law_far_b93 ca v1one v2other)

/-- k20 k21 k22 k31 -/
def L__law_cost_cb7_1 (ca : Nat → Addr)  (v9x : PV × PV) (v8s : PV) : W (Fl (PV)) :=
  (bindF (bind (callW (ar2 (LW.F__law_add ca)) [] (vcons (ret v8s) (vcons (callW (ar2 (LW.F__law_mul ca)) [] (vcons (ret v9x.1) (vcons (ret v9x.2) vnil))) vnil))) fun v11a => ret (.nx v11a)) fun v10s => ret (.nx v10s))
def L__law_cost_cb7_2 (ca : Nat → Addr)  (v6x : PV × PV) (v5s : PV) : W (Fl (PV)) :=
  (bindF (bind (itZ (vcons (ret v6x.1) (vcons (ret v6x.2) vnil))) fun as => forW (tupF2 some some) (LW.L__law_cost_cb7_1 ca) as v5s) fun v7s => ret (.nx v7s))
def B__law_cost_cb7 (ca : Nat → Addr) (v1boardhere : PV) (v2carried : PV) : W (Fl Unit) :=
  (bind (tupW (vcons (ret (.int 0)) (vcons (ret (.int 1)) vnil))) fun v3found =>
  (bindF (bind (itZ (vcons (ret v1boardhere) (vcons (ret v2carried) vnil))) fun as => forW (tupF2 some some) (LW.L__law_cost_cb7_2 ca) as v3found) fun v4s =>
  (bind (ret v4s) fun v12r => ret (.rt (.v v12r)))))
def F__law_cost_cb7 (ca : Nat → Addr) (v1boardhere : PV) (v2carried : PV) : W RV := runF (B__law_cost_cb7 ca v1boardhere v2carried)

/-- k20 k21 k22 k31 -/
def E__law_is_prices_1 (ca : Nat → Addr)  (v3x : PV) : W PV :=
  (callW (ar1 (LW.F__law_is_fraction ca)) [] (vcons (ret v3x) vnil))
def L__law_is_prices_2 (ca : Nat → Addr) (v1boardhere : PV) (v7x : PV) (v2thing : PV) (v10x : PV) (v9s : Unit) : W (Fl (Unit)) :=
  (bindF (bind (tst (callW (ar2 (LW.F__law_less ca)) [] (vcons (op2 ixF (op2 ixF (ret v1boardhere) (ret v7x)) (ret v10x)) (vcons (callW (ar2 (LW.F__law_far_b93 ca)) [] (vcons (op2 ixF (ret v2thing) (ret v7x)) (vcons (op2 ixF (ret v2thing) (ret v10x)) vnil))) vnil)))) fun v13b => if v13b = true then ((bind (ret (.bl false)) fun v12r => ret (.rt (.v v12r))) : W (Fl (Unit))) else (ret (.nx ()))) fun _ => ret (.nx ()))
def L__law_is_prices_3 (ca : Nat → Addr) (v1boardhere : PV) (v2thing : PV) (v7x : PV) (v6s : Unit) : W (Fl (Unit)) :=
  (bindF (bind (itR (vcons (ret v7x) vnil)) fun as => forW some (LW.L__law_is_prices_2 ca v1boardhere v7x v2thing) as ()) fun _ => ret (.nx ()))
def B__law_is_prices (ca : Nat → Addr) (v1boardhere : PV) (v2thing : PV) : W (Fl Unit) :=
  (bind (orT (notT (tst (op1 (isiB "list") (ret v2thing)))) (orT (tst (op2 neF (cb lenF (vcons (ret v2thing) vnil)) (cb lenF (vcons (ret v1boardhere) vnil)))) (notT (tst (cb allF (vcons (setl (lcO some (fun _ => ret true) (LW.E__law_is_prices_1 ca) (itL (ret v2thing)))) vnil)))))) fun v15b => if v15b = true then bindF (S := Empty) (bind (ret (.bl false)) fun v4r => ret (.rt (.v v4r))) (fun s => s.elim) else
  (bindF (bind (itR (vcons (cb lenF (vcons (ret v1boardhere) vnil)) vnil)) fun as => forW some (LW.L__law_is_prices_3 ca v1boardhere v2thing) as ()) fun _ =>
  (bind (ret (.bl true)) fun v14r => ret (.rt (.v v14r)))))
def F__law_is_prices (ca : Nat → Addr) (v1boardhere : PV) (v2thing : PV) : W RV := runF (B__law_is_prices ca v1boardhere v2thing)

/-- k26 k28 k29 k69 k93 -/
def B__law_fade_661 (ca : Nat → Addr) (v1state : PV) : W (Fl Unit) :=
  (bind (op2 addF (ret (.int 2)) (callW (ar2 SL.takeW) [] (vcons (ret v1state) (vcons (op2 ixF (setl (lstO (vcons (ret (.int 1)) (vcons (ret (.int 4)) (vcons (ret (.int 9)) (vcons (ret (.int 998)) vnil)))))) (callW (ar2 SL.takeW) [] (vcons (ret v1state) (vcons (ret (.int 4)) vnil)))) vnil)))) fun v2base =>
  (bind (callW (ar2 (LW.F__law_low_eb1 ca)) [] (vcons (op2 addF (ret (.int 1)) (callW (ar2 SL.takeW) [] (vcons (ret v1state) (vcons (op2 subF (ret v2base) (ret (.int 1))) vnil)))) (vcons (ret v2base) vnil))) fun v3r => ret (.rt (.v v3r))))
def F__law_fade_661 (ca : Nat → Addr) (v1state : PV) : W RV := runF (B__law_fade_661 ca v1state)

/-- k26 k38 k40 k43 k44 -/
def E__law_is_carrying_1 (ca : Nat → Addr)  (v4x : PV) : W PV :=
  (callW (ar1 (LW.F__law_total ca)) [] (vcons (ret v4x) vnil))
def E__law_is_carrying_2 (ca : Nat → Addr)  (v6x : PV) : W PV :=
  (ret v6x)
def T__law_is_carrying_3 (ca : Nat → Addr)  (v6x : PV) : W Bool :=
  (tst (op2 ltF (op2 ixF (ret v6x) (ret (.int 0))) (ret (.int 0))))
def E__law_is_carrying_4 (ca : Nat → Addr) (v9x : PV) (v10x : PV) : W PV :=
  (op2 ixF (ret v10x) (ret v9x))
def E__law_is_carrying_5 (ca : Nat → Addr) (v3carrying : PV) (v9x : PV) : W PV :=
  (callW (ar1 (LW.F__law_total ca)) [] (vcons (setl (lcO some (fun _ => ret true) (LW.E__law_is_carrying_4 ca v9x) (itL (ret v3carrying)))) vnil))
def B__law_is_carrying (ca : Nat → Addr) (v1ones : PV) (v2others : PV) (v3carrying : PV) : W (Fl Unit) :=
  (bind (tst (op2 neF (setl (lcO some (fun _ => ret true) (LW.E__law_is_carrying_1 ca) (itL (ret v3carrying)))) (ret v1ones))) fun v12b => if v12b = true then bindF (S := Empty) (bind (ret (.bl false)) fun v5r => ret (.rt (.v v5r))) (fun s => s.elim) else
  (bind (tst (op2 neF (setl (lcO some (LW.T__law_is_carrying_3 ca) (LW.E__law_is_carrying_2 ca) (itL (cb sumF1 (vcons (ret v3carrying) (vcons (setl (lstO vnil)) vnil)))))) (setl (lstO vnil)))) fun v11b => if v11b = true then bindF (S := Empty) (bind (ret (.bl false)) fun v7r => ret (.rt (.v v7r))) (fun s => s.elim) else
  (bind (op2 eqF (setl (lcO some (fun _ => ret true) (LW.E__law_is_carrying_5 ca v3carrying) (itR (vcons (cb lenF (vcons (ret v2others) vnil)) vnil)))) (ret v2others)) fun v8r => ret (.rt (.v v8r)))))
def F__law_is_carrying (ca : Nat → Addr) (v1ones : PV) (v2others : PV) (v3carrying : PV) : W RV := runF (B__law_is_carrying ca v1ones v2others v3carrying)

/-- k26 k38 k40 k43 k44 -/
def E__law_cost_1 (ca : Nat → Addr)  (v4x : PV × PV) : W PV :=
  (callW (ar2 (LW.F__law_weighed ca)) [] (vcons (ret v4x.1) (vcons (ret v4x.2) vnil)))
def B__law_cost (ca : Nat → Addr) (v1tablehere : PV) (v2carrying : PV) : W (Fl Unit) :=
  (bind (callW (ar1 (LW.F__law_total ca)) [] (vcons (setl (lcO (tupF2 some some) (fun _ => ret true) (LW.E__law_cost_1 ca) (itZ (vcons (ret v2carrying) (vcons (ret v1tablehere) vnil))))) vnil)) fun v3r => ret (.rt (.v v3r)))
def F__law_cost (ca : Nat → Addr) (v1tablehere : PV) (v2carrying : PV) : W RV := runF (B__law_cost ca v1tablehere v2carrying)

/-- k26 k39 k40 k43 k44 -/
def L__law_are_prices_1 (ca : Nat → Addr) (v1tablehere : PV) (v5x : PV) (v2prices : PV) (v8x : PV) (v7s : Unit) : W (Fl (Unit)) :=
  (bindF (bind (tst (callW (ar2 (LW.F__law_less ca)) [] (vcons (op2 ixF (op2 ixF (ret v1tablehere) (ret v5x)) (ret v8x)) (vcons (callW (ar2 (LW.F__law_far ca)) [] (vcons (op2 ixF (ret v2prices) (ret v5x)) (vcons (op2 ixF (ret v2prices) (ret v8x)) vnil))) vnil)))) fun v11b => if v11b = true then ((bind (ret (.bl false)) fun v10r => ret (.rt (.v v10r))) : W (Fl (Unit))) else (ret (.nx ()))) fun _ => ret (.nx ()))
def L__law_are_prices_2 (ca : Nat → Addr) (v1tablehere : PV) (v2prices : PV) (v5x : PV) (v4s : Unit) : W (Fl (Unit)) :=
  (bindF (bind (itR (vcons (ret v5x) vnil)) fun as => forW some (LW.L__law_are_prices_1 ca v1tablehere v5x v2prices) as ()) fun _ => ret (.nx ()))
def B__law_are_prices (ca : Nat → Addr) (v1tablehere : PV) (v2prices : PV) : W (Fl Unit) :=
  (bindF (bind (itR (vcons (cb lenF (vcons (ret v1tablehere) vnil)) vnil)) fun as => forW some (LW.L__law_are_prices_2 ca v1tablehere v2prices) as ()) fun _ =>
  (bind (ret (.bl true)) fun v12r => ret (.rt (.v v12r))))
def F__law_are_prices (ca : Nat → Addr) (v1tablehere : PV) (v2prices : PV) : W RV := runF (B__law_are_prices ca v1tablehere v2prices)

/-- k26 k39 k40 k43 k44 -/
def B__law_earned (ca : Nat → Addr) (v1ones : PV) (v2others : PV) (v3prices : PV) : W (Fl Unit) :=
  (bind (callW (ar2 (LW.F__law_plus ca)) [] (vcons (callW (ar2 (LW.F__law_weighed ca)) [] (vcons (ret v1ones) (vcons (ret v3prices) vnil))) (vcons (callW (ar2 (LW.F__law_times ca)) [] (vcons (tupW (vcons (op2 subF (ret (.int 0)) (ret (.int 1))) (vcons (ret (.int 1)) vnil))) (vcons (callW (ar2 (LW.F__law_weighed ca)) [] (vcons (ret v2others) (vcons (ret v3prices) vnil))) vnil))) vnil))) fun v4r => ret (.rt (.v v4r)))
def F__law_earned (ca : Nat → Addr) (v1ones : PV) (v2others : PV) (v3prices : PV) : W RV := runF (B__law_earned ca v1ones v2others v3prices)

/-- k27 k28 k42 k44 -/
def E__law_rises_1 (ca : Nat → Addr)  (v7x : PV × PV) : W PV :=
  (ret (.int 1))
def T__law_rises_2 (ca : Nat → Addr)  (v7x : PV × PV) : W Bool :=
  (tst (callW (ar2 (LW.F__law_less ca)) [] (vcons (ret v7x.2) (vcons (ret v7x.1) vnil))))
def L__law_rises_3 (ca : Nat → Addr)  (v5x : PV × PV) (v4s : Unit) : W (Fl (Unit)) :=
  (bindF (bind (tst (op2 neF (setl (lcO (tupF2 some some) (LW.T__law_rises_2 ca) (LW.E__law_rises_1 ca) (itZ (vcons (ret v5x.1) (vcons (ret v5x.2) vnil))))) (setl (lstO vnil)))) fun v9b => if v9b = true then ((bind (ret (.bl false)) fun v8r => ret (.rt (.v v8r))) : W (Fl (Unit))) else (ret (.nx ()))) fun _ => ret (.nx ()))
def B__law_rises (ca : Nat → Addr) (v1table : PV) (v2later : PV) : W (Fl Unit) :=
  (bindF (bind (itZ (vcons (ret v1table) (vcons (ret v2later) vnil))) fun as => forW (tupF2 some some) (LW.L__law_rises_3 ca) as ()) fun _ =>
  (bind (ret (.bl true)) fun v10r => ret (.rt (.v v10r))))
def F__law_rises (ca : Nat → Addr) (v1table : PV) (v2later : PV) : W RV := runF (B__law_rises ca v1table v2later)

/-- k29 k41 k56 k71 -/
def B__law_bad_rate (ca : Nat → Addr) (v1state : PV) : W (Fl Unit) :=
  (bind (setl (lstO (vcons (tupW (vcons (ret (.int 0)) (vcons (ret (.int 1)) vnil))) (vcons (tupW (vcons (ret (.int 1)) (vcons (ret (.int 1)) vnil))) (vcons (tupW (vcons (ret (.int 3)) (vcons (ret (.int 2)) vnil))) (vcons (tupW (vcons (op1 negF (ret (.int 1))) (vcons (ret (.int 2)) vnil))) (vcons (tupW (vcons (ret (.int 2)) (vcons (ret (.int 4)) vnil))) (vcons (tupW (vcons (ret (.int 1)) (vcons (ret (.int 1000)) vnil))) (vcons (setl (lstO (vcons (ret (.int 1)) (vcons (ret (.int 2)) vnil)))) (vcons (tupW (vcons (ret (.int 1)) vnil)) (vcons (ret (.int 1)) (vcons (ret (.str (PySem.Str.ofString "1/2"))) (vcons (ret (.bl true)) (vcons (tupW (vcons (ret (.bl true)) (vcons (ret (.int 2)) vnil))) (vcons (ret (.dic [] [])) (vcons (tupW (vcons (ret (.int 1)) (vcons (ret .non) vnil))) vnil)))))))))))))))) fun v2some =>
  (bind (op2 ixF (ret v2some) (callW (ar2 SL.takeW) [] (vcons (ret v1state) (vcons (ret (.int 14)) vnil)))) fun v3r => ret (.rt (.v v3r))))
def F__law_bad_rate (ca : Nat → Addr) (v1state : PV) : W RV := runF (B__law_bad_rate ca v1state)

/-- k31 k32 k33 k34 k35 k36 k37 k51 k62 k63 k64 k66 k67 k75 k76 k77 k78 k79 k80 k81 k82 k96 k97 k98 -/
def B__law_fading (ca : Nat → Addr) (v1baghere : PV) : W (Fl Unit) :=
  (bind (op2 addF (ret (.int 2)) (callW (ar2 SL.outW) [] (vcons (ret v1baghere) (vcons (ret (.int 998)) vnil)))) fun v2bottom =>
  (bind (op2 ixF (setl (lstO (vcons (tupW (vcons (ret (.int 1)) (vcons (ret (.int 2)) vnil))) (vcons (tupW (vcons (ret (.int 1)) (vcons (ret (.int 3)) vnil))) (vcons (tupW (vcons (ret (.int 2)) (vcons (ret (.int 3)) vnil))) (vcons (tupW (vcons (ret (.int 9)) (vcons (ret (.int 10)) vnil))) (vcons (callW (ar2 (LW.F__law_low ca)) [] (vcons (op2 addF (ret (.int 1)) (callW (ar2 SL.outW) [] (vcons (ret v1baghere) (vcons (op2 subF (ret v2bottom) (ret (.int 1))) vnil)))) (vcons (ret v2bottom) vnil))) vnil))))))) (callW (ar2 SL.outW) [] (vcons (ret v1baghere) (vcons (ret (.int 5)) vnil)))) fun v3r => ret (.rt (.v v3r))))
def F__law_fading (ca : Nat → Addr) (v1baghere : PV) : W RV := runF (B__law_fading ca v1baghere)

/-- k38 k39 k40 k42 k43 k44 k54 k57 k70 k72 k73 k92 k94 -/
def B__law_fade (ca : Nat → Addr) (v1state : PV) : W (Fl Unit) :=
  (bind (op2 addF (ret (.int 2)) (callW (ar2 SL.takeW) [] (vcons (ret v1state) (vcons (op2 ixF (setl (lstO (vcons (ret (.int 1)) (vcons (ret (.int 4)) (vcons (ret (.int 8)) vnil))))) (callW (ar2 SL.takeW) [] (vcons (ret v1state) (vcons (ret (.int 3)) vnil)))) vnil)))) fun v2base =>
  (bind (callW (ar2 (LW.F__law_low_eb1 ca)) [] (vcons (op2 addF (ret (.int 1)) (callW (ar2 SL.takeW) [] (vcons (ret v1state) (vcons (op2 subF (ret v2base) (ret (.int 1))) vnil)))) (vcons (ret v2base) vnil))) fun v3r => ret (.rt (.v v3r))))
def F__law_fade (ca : Nat → Addr) (v1state : PV) : W RV := runF (B__law_fade ca v1state)

/-- k38 k39 k40 k44 -/
def E__law_is_fraction_94e_1 (ca : Nat → Addr)  (v3x : PV) : W PV :=
  (ret v3x)
def T__law_is_fraction_94e_2 (ca : Nat → Addr)  (v3x : PV) : W Bool :=
  (orT (notT (tst (op1 (isiB "int") (ret v3x)))) (tst (op1 (isiB "bool") (ret v3x))))
def B__law_is_fraction_94e (ca : Nat → Addr) (v1thing : PV) : W (Fl Unit) :=
  (bind (orT (notT (tst (op1 (isiB "tuple") (ret v1thing)))) (tst (op2 neF (cb lenF (vcons (ret v1thing) vnil)) (ret (.int 2))))) fun v9b => if v9b = true then bindF (S := Empty) (bind (ret (.bl false)) fun v2r => ret (.rt (.v v2r))) (fun s => s.elim) else
  (bind (tst (op2 neF (setl (lcO some (LW.T__law_is_fraction_94e_2 ca) (LW.E__law_is_fraction_94e_1 ca) (itL (ret v1thing)))) (setl (lstO vnil)))) fun v8b => if v8b = true then bindF (S := Empty) (bind (ret (.bl false)) fun v4r => ret (.rt (.v v4r))) (fun s => s.elim) else
  (bind (tst (op2 ltF (op2 ixF (ret v1thing) (ret (.int 1))) (ret (.int 1)))) fun v7b => if v7b = true then bindF (S := Empty) (bind (ret (.bl false)) fun v5r => ret (.rt (.v v5r))) (fun s => s.elim) else
  (bind (op2 eqF (callW (ar2 (LW.F__law_low_eb1 ca)) [] (vcons (op2 ixF (ret v1thing) (ret (.int 0))) (vcons (op2 ixF (ret v1thing) (ret (.int 1))) vnil))) (ret v1thing)) fun v6r => ret (.rt (.v v6r))))))
def F__law_is_fraction_94e (ca : Nat → Addr) (v1thing : PV) : W RV := runF (B__law_is_fraction_94e ca v1thing)

/-- k38 k39 k40 k44 -/
def E__law_are_fractions_1 (ca : Nat → Addr)  (v5x : PV) : W PV :=
  (ret v5x)
def T__law_are_fractions_2 (ca : Nat → Addr)  (v5x : PV) : W Bool :=
  (notT (tst (callW (ar1 (LW.F__law_is_fraction_94e ca)) [] (vcons (ret v5x) vnil))))
def B__law_are_fractions (ca : Nat → Addr) (v1many : PV) (v2thing : PV) : W (Fl Unit) :=
  (bind (orT (notT (tst (op1 (isiB "list") (ret v2thing)))) (tst (op2 neF (cb lenF (vcons (ret v2thing) vnil)) (ret v1many)))) fun v6b => if v6b = true then bindF (S := Empty) (bind (ret (.bl false)) fun v3r => ret (.rt (.v v3r))) (fun s => s.elim) else
  (bind (op2 eqF (setl (lcO some (LW.T__law_are_fractions_2 ca) (LW.E__law_are_fractions_1 ca) (itL (ret v2thing)))) (setl (lstO vnil))) fun v4r => ret (.rt (.v v4r))))
def F__law_are_fractions (ca : Nat → Addr) (v1many : PV) (v2thing : PV) : W RV := runF (B__law_are_fractions ca v1many v2thing)

/-- k38 k39 k40 k44 -/
def E__law_is_table_1 (ca : Nat → Addr)  (v4x : PV) : W PV :=
  (ret v4x)
def T__law_is_table_2 (ca : Nat → Addr) (v1many : PV) (v4x : PV) : W Bool :=
  (notT (tst (callW (ar2 (LW.F__law_are_fractions ca)) [] (vcons (ret v1many) (vcons (ret v4x) vnil)))))
def L__law_is_table_3 (ca : Nat → Addr) (v2thing : PV) (v8x : PV) (v11x : PV) (v10s : Unit) : W (Fl (Unit)) :=
  (bindF (bind (orT (tst (op2 neF (op2 ixF (op2 ixF (ret v2thing) (ret v8x)) (ret v11x)) (op2 ixF (op2 ixF (ret v2thing) (ret v11x)) (ret v8x)))) (notT (tst (chain leU leU (ret (.int 0)) (op2 ixF (op2 ixF (op2 ixF (ret v2thing) (ret v8x)) (ret v11x)) (ret (.int 0))) (op2 ixF (op2 ixF (op2 ixF (ret v2thing) (ret v8x)) (ret v11x)) (ret (.int 1))))))) fun v14b => if v14b = true then ((bind (ret (.bl false)) fun v13r => ret (.rt (.v v13r))) : W (Fl (Unit))) else (ret (.nx ()))) fun _ => ret (.nx ()))
def L__law_is_table_4 (ca : Nat → Addr) (v1many : PV) (v2thing : PV) (v8x : PV) (v7s : Unit) : W (Fl (Unit)) :=
  (bindF (bind (itR (vcons (ret v1many) vnil)) fun as => forW some (LW.L__law_is_table_3 ca v2thing v8x) as ()) fun _ => ret (.nx ()))
def E__law_is_table_5 (ca : Nat → Addr)  (v16x : PV) : W PV :=
  (ret v16x)
def T__law_is_table_6 (ca : Nat → Addr) (v2thing : PV) (v16x : PV) : W Bool :=
  (tst (op2 neF (op2 ixF (op2 ixF (ret v2thing) (ret v16x)) (ret v16x)) (tupW (vcons (ret (.int 0)) (vcons (ret (.int 1)) vnil)))))
def B__law_is_table (ca : Nat → Addr) (v1many : PV) (v2thing : PV) : W (Fl Unit) :=
  (bind (orT (notT (tst (op1 (isiB "list") (ret v2thing)))) (tst (op2 neF (cb lenF (vcons (ret v2thing) vnil)) (ret v1many)))) fun v18b => if v18b = true then bindF (S := Empty) (bind (ret (.bl false)) fun v3r => ret (.rt (.v v3r))) (fun s => s.elim) else
  (bind (tst (op2 neF (setl (lcO some (LW.T__law_is_table_2 ca v1many) (LW.E__law_is_table_1 ca) (itL (ret v2thing)))) (setl (lstO vnil)))) fun v17b => if v17b = true then bindF (S := Empty) (bind (ret (.bl false)) fun v5r => ret (.rt (.v v5r))) (fun s => s.elim) else
  (bindF (bind (itR (vcons (ret v1many) vnil)) fun as => forW some (LW.L__law_is_table_4 ca v1many v2thing) as ()) fun _ =>
  (bind (op2 eqF (setl (lcO some (LW.T__law_is_table_6 ca v2thing) (LW.E__law_is_table_5 ca) (itR (vcons (ret v1many) vnil)))) (setl (lstO vnil))) fun v15r => ret (.rt (.v v15r))))))
def F__law_is_table (ca : Nat → Addr) (v1many : PV) (v2thing : PV) : W RV := runF (B__law_is_table ca v1many v2thing)

/-- k38 k39 -/
def B__law_odd (ca : Nat → Addr) (v1state : PV) (v2part : PV) : W (Fl Unit) :=
  (bind (ret v2part) fun v10a => bind (lift ((tupF2 some some) v10a)) fun v3x =>
  (bind (setl (lstO (vcons (ret .non) (vcons (ret (.bl true)) (vcons (setl (lstO (vcons (ret v2part) vnil))) (vcons (tupW (vcons (ret v3x.1) (vcons (ret v3x.2) (vcons (ret (.int 1)) vnil)))) (vcons (tupW (vcons (op2 addF (ret v3x.1) (ret v3x.2)) (vcons (ret v3x.2) vnil))) (vcons (tupW (vcons (op2 subF (op2 subF (ret (.int 0)) (ret v3x.1)) (ret (.int 1))) (vcons (ret v3x.2) vnil))) (vcons (ret (.str (PySem.Str.ofString "1"))) (vcons (tupW vnil) vnil)))))))))) fun v4some =>
  (bind (op2 addF (ret v4some) (setl (lstO (vcons (tupW (vcons (op2 mulF (ret (.int 2)) (ret v3x.1)) (vcons (op2 mulF (ret (.int 2)) (ret v3x.2)) vnil))) (vcons (tupW (vcons (ret v3x.1) (vcons (op2 subF (ret (.int 0)) (ret v3x.2)) vnil))) (vcons (tupW (vcons (ret v3x.1) (vcons (ret .non) vnil))) (vcons (tupW (vcons (ret (.bl true)) (vcons (ret v3x.2) vnil))) vnil))))))) fun v5some =>
  (bind (op2 addF (ret v5some) (setl (lstO (vcons (callW (ar2 (LW.F__law_low_eb1 ca)) [] (vcons (op2 mulF (ret v3x.1) (ret (.int 7))) (vcons (op2 mulF (ret v3x.2) (ret (.int 8))) vnil))) (vcons (callW (ar2 (LW.F__law_low_eb1 ca)) [] (vcons (op2 addF (ret v3x.1) (ret (.int 1))) (vcons (op2 addF (ret v3x.2) (ret (.int 1))) vnil))) (vcons (tupW (vcons (ret (.int 0)) (vcons (ret (.int 1)) vnil))) (vcons (tupW (vcons (ret (.int 1)) (vcons (ret (.int 1)) vnil))) vnil))))))) fun v6some =>
  (bind (op2 powF (ret (.int 10)) (ret (.int 9))) fun v7hair =>
  (bind (op2 addF (ret v6some) (setl (lstO (vcons (callW (ar2 (LW.F__law_low_eb1 ca)) [] (vcons (op2 subF (op2 mulF (ret v3x.1) (ret v7hair)) (ret v3x.2)) (vcons (op2 mulF (ret v3x.2) (ret v7hair)) vnil))) (vcons (callW (ar2 (LW.F__law_low_eb1 ca)) [] (vcons (op2 addF (op2 mulF (ret v3x.1) (ret v7hair)) (ret v3x.2)) (vcons (op2 mulF (ret v3x.2) (ret v7hair)) vnil))) vnil))))) fun v8some =>
  (bind (op2 ixF (ret v8some) (callW (ar2 SL.takeW) [] (vcons (ret v1state) (vcons (ret (.int 18)) vnil)))) fun v9r => ret (.rt (.v v9r)))))))))
def F__law_odd (ca : Nat → Addr) (v1state : PV) (v2part : PV) : W RV := runF (B__law_odd ca v1state v2part)

/-- k60 k61 k62 k63 k66 k67 -/
def L__law_tests_1 (ca : Nat → Addr) (v1baghere : PV) (v2words : PV) (v7x : PV) (v6s : List PV) : W (Fl (List PV)) :=
  (bind (callW (ar2 SL.outW) [] (vcons (ret v1baghere) (vcons (cb max2F (vcons (ret (.int 1)) (vcons (ret v7x) vnil))) vnil))) fun v8at =>
  (bind (callW (ar2 SL.outW) [] (vcons (ret v1baghere) (vcons (cb max2F (vcons (ret (.int 1)) (vcons (ret v7x) vnil))) vnil))) fun v9to =>
  (bindF (bind (tst (op2 eqF (callW (ar2 SL.outW) [] (vcons (ret v1baghere) (vcons (ret (.int 2)) vnil))) (ret (.int 0)))) fun v13b => if v13b = true then ((bindF (bind (cb max2F (vcons (ret (.int 0)) (vcons (op2 subF (ret v7x) (ret (.int 1))) vnil))) fun v12a => ret (.nx v12a)) fun v11s => ret (.nx v11s)) : W (Fl (PV))) else (ret (.nx v8at))) fun v10s =>
  (bind (op2 ixF (setl (lstO (vcons (ret (.int 0)) (vcons (callW (ar2 SL.outW) [] (vcons (ret v1baghere) (vcons (ret (.int 6)) vnil))) vnil)))) (cb intF (vcons (op2 gtF (ret v7x) (ret (.int 0))) vnil))) fun v14way =>
  (bind (op2 addF (ret (.int 1)) (callW (ar2 SL.outW) [] (vcons (ret v1baghere) (vcons (ret (.int 9)) vnil)))) fun v15bottom =>
  (bind (callW (ar2 (LW.F__law_low ca)) [] (vcons (callW (ar2 SL.outW) [] (vcons (ret v1baghere) (vcons (op2 addF (ret v15bottom) (ret (.int 1))) vnil))) (vcons (ret v15bottom) vnil))) fun v16cut =>
  (bind (op2 ixF (ret v2words) (callW (ar2 SL.outW) [] (vcons (ret v1baghere) (vcons (cb lenF (vcons (ret v2words) vnil)) vnil)))) fun v17wordhere =>
  (bind (setl (lstO (vcons (tupW (vcons (ret (.str (PySem.Str.ofString "mark"))) (vcons (ret v17wordhere) vnil))) (vcons (tupW (vcons (ret (.str (PySem.Str.ofString "next"))) (vcons (ret v10s) vnil))) (vcons (tupW (vcons (ret (.str (PySem.Str.ofString "not"))) (vcons (ret v10s) vnil))) (vcons (tupW (vcons (ret (.str (PySem.Str.ofString "less"))) (vcons (ret v10s) (vcons (ret v16cut) vnil)))) (vcons (tupW (vcons (ret (.str (PySem.Str.ofString "least"))) (vcons (ret v10s) (vcons (ret v9to) vnil)))) (vcons (tupW (vcons (ret (.str (PySem.Str.ofString "most"))) (vcons (ret v10s) (vcons (ret v9to) vnil)))) vnil)))))))) fun v18some =>
  (bindF (bind (op2 ixF (ret v18some) (ret v14way)) fun a => bind (lift (if (v6s : List PV).length < 100000 then some (v6s ++ [a]) else none)) fun bs => ret (.nx bs)) fun v19s => ret (.nx v19s))))))))))
def B__law_tests (ca : Nat → Addr) (v1baghere : PV) (v2words : PV) (v3many : PV) : W (Fl Unit) :=
  (bind (lstO vnil) fun v4found =>
  (bindF (bind (itR (vcons (ret v3many) vnil)) fun as => forW some (LW.L__law_tests_1 ca v1baghere v2words) as v4found) fun v5s =>
  (ret (.rt (.o v5s)))))
def F__law_tests (ca : Nat → Addr) (v1baghere : PV) (v2words : PV) (v3many : PV) : W RV := runF (B__law_tests ca v1baghere v2words v3many)

/-- k62 k64 -/
def E__law_worths_1 (ca : Nat → Addr)  (v17x : PV × PV) : W PV :=
  (callW (ar2 (LW.F__law_mul ca)) [] (vcons (ret v17x.1) (vcons (ret v17x.2) vnil)))
def L__law_worths_2 (ca : Nat → Addr) (v8x : PV) (v1names : PV) (v3fadinghere : PV) (v2goeshere : PV) (v7s : List PV) (v12x : PV) (v11s : List PV) : W (Fl (List PV)) :=
  (bindF (bind (tst (op2 eqF (op2 ixF (ret v8x) (ret (.int 0))) (ret (.str (PySem.Str.ofString "mark"))))) fun v30b => if v30b = true then ((bindF (bind (tupW (vcons (cb intF (vcons (op2 eqF (op2 ixF (ret v1names) (ret v12x)) (op2 ixF (ret v8x) (ret (.int 1)))) vnil)) (vcons (ret (.int 1)) vnil))) fun a => bind (lift (if (v11s : List PV).length < 100000 then some (v11s ++ [a]) else none)) fun bs => ret (.nx bs)) fun v14s => ret (.nx v14s)) : W (Fl (List PV))) else (bindF (bind (tst (op2 eqF (op2 ixF (ret v8x) (ret (.int 0))) (ret (.str (PySem.Str.ofString "next"))))) fun v29b => if v29b = true then ((bindF (bind (callW (ar2 (LW.F__law_mul ca)) [] (vcons (ret v3fadinghere) (vcons (callW (ar1 (LW.F__law_sum ca)) [] (vcons (setl (lendO (lcO (tupF2 some some) (fun _ => ret true) (LW.E__law_worths_1 ca) (itZ (vcons (op2 ixF (ret v2goeshere) (ret v12x)) (vcons (op2 ixF (ret (.lst v7s)) (op2 ixF (ret v8x) (ret (.int 1)))) vnil)))))) vnil)) vnil))) fun a => bind (lift (if (v11s : List PV).length < 100000 then some (v11s ++ [a]) else none)) fun bs => ret (.nx bs)) fun v16s => ret (.nx v16s)) : W (Fl (List PV))) else (bindF (bind (tst (op2 eqF (op2 ixF (ret v8x) (ret (.int 0))) (ret (.str (PySem.Str.ofString "not"))))) fun v28b => if v28b = true then ((bind (lend (op2 ixF (op2 ixF (ret (.lst v7s)) (op2 ixF (ret v8x) (ret (.int 1)))) (ret v12x))) fun v21a => bind (lift ((tupF2 some some) v21a)) fun v19x =>
  (bindF (bind (tupW (vcons (op2 subF (ret v19x.2) (ret v19x.1)) (vcons (ret v19x.2) vnil))) fun a => bind (lift (if (v11s : List PV).length < 100000 then some (v11s ++ [a]) else none)) fun bs => ret (.nx bs)) fun v20s => ret (.nx v20s))) : W (Fl (List PV))) else (bindF (bind (tst (op2 eqF (op2 ixF (ret v8x) (ret (.int 0))) (ret (.str (PySem.Str.ofString "less"))))) fun v27b => if v27b = true then ((bind (callW (ar2 (LW.F__law_add ca)) [] (vcons (lend (op2 ixF (op2 ixF (ret (.lst v7s)) (op2 ixF (ret v8x) (ret (.int 1)))) (ret v12x))) (vcons (tupW (vcons (op2 subF (ret (.int 0)) (op2 ixF (op2 ixF (ret v8x) (ret (.int 2))) (ret (.int 0)))) (vcons (op2 ixF (op2 ixF (ret v8x) (ret (.int 2))) (ret (.int 1))) vnil))) vnil))) fun v23rest =>
  (bindF (bind (op2 ixF (setl (lstO (vcons (ret v23rest) (vcons (tupW (vcons (ret (.int 0)) (vcons (ret (.int 1)) vnil))) vnil)))) (cb intF (vcons (op2 ltF (op2 ixF (ret v23rest) (ret (.int 0))) (ret (.int 0))) vnil))) fun a => bind (lift (if (v11s : List PV).length < 100000 then some (v11s ++ [a]) else none)) fun bs => ret (.nx bs)) fun v24s => ret (.nx v24s))) : W (Fl (List PV))) else (bind (setl (lendO (lstO (vcons (op2 ixF (op2 ixF (ret (.lst v7s)) (op2 ixF (ret v8x) (ret (.int 1)))) (ret v12x)) (vcons (op2 ixF (op2 ixF (ret (.lst v7s)) (op2 ixF (ret v8x) (ret (.int 2)))) (ret v12x)) vnil))))) fun v25some =>
  (bindF (bind (op2 ixF (ret v25some) (cb intF (vcons (op2 eqF (callW (ar2 (LW.F__law_less ca)) [] (vcons (op2 ixF (ret v25some) (ret (.int 0))) (vcons (op2 ixF (ret v25some) (ret (.int 1))) vnil))) (op2 eqF (op2 ixF (ret v8x) (ret (.int 0))) (ret (.str (PySem.Str.ofString "most"))))) vnil))) fun a => bind (lift (if (v11s : List PV).length < 100000 then some (v11s ++ [a]) else none)) fun bs => ret (.nx bs)) fun v26s => ret (.nx v26s)))) fun v22s => ret (.nx v22s))) fun v18s => ret (.nx v18s))) fun v15s => ret (.nx v15s))) fun v13s => ret (.nx v13s))
def L__law_worths_3 (ca : Nat → Addr) (v1names : PV) (v3fadinghere : PV) (v2goeshere : PV) (v8x : PV) (v7s : List PV) : W (Fl (List PV)) :=
  (bind (lstO vnil) fun v9own =>
  (bindF (bind (itR (vcons (cb lenF (vcons (ret v1names) vnil)) vnil)) fun as => forW some (LW.L__law_worths_2 ca v8x v1names v3fadinghere v2goeshere v7s) as v9own) fun v10s =>
  (bindF (bind (lend (ret (.lst v10s))) fun a => bind (lift (if (v7s : List PV).length < 100000 then some (v7s ++ [a]) else none)) fun bs => ret (.nx bs)) fun v31s => ret (.nx v31s))))
def B__law_worths (ca : Nat → Addr) (v1names : PV) (v2goeshere : PV) (v3fadinghere : PV) (v4rows : PV) : W (Fl Unit) :=
  (bind (lstO vnil) fun v5found =>
  (bindF (bind (itL (ret v4rows)) fun as => forW some (LW.L__law_worths_3 ca v1names v3fadinghere v2goeshere) as v5found) fun v6s =>
  (ret (.rt (.o v6s)))))
def F__law_worths (ca : Nat → Addr) (v1names : PV) (v2goeshere : PV) (v3fadinghere : PV) (v4rows : PV) : W RV := runF (B__law_worths ca v1names v2goeshere v3fadinghere v4rows)

/-- k68 k69 k70 k72 -/
def E__law_twin_1 (ca : Nat → Addr)  (v4x : PV) : W PV :=
  (setl (cbO listF (vcons (ret v4x) vnil)))
def L__law_twin_2 (ca : Nat → Addr) (v1state : PV) (v7x : PV) (v6s : List PV) : W (Fl (List PV)) :=
  (bind (callW (ar2 SL.takeW) [] (vcons (ret v1state) (vcons (lend (cb lenF (vcons (ret (.lst v6s)) vnil))) vnil))) fun v8room =>
  (bindF (bind (callW (ar3 (LW.F__law_shares ca)) [] (vcons (ret v1state) (vcons (lend (cb lenF (vcons (ret (.lst v6s)) vnil))) (vcons (op2 ixF (setl (lstO (vcons (ret (.int 1)) (vcons (ret (.int 3)) (vcons (ret (.int 30)) vnil))))) (callW (ar2 SL.takeW) [] (vcons (ret v1state) (vcons (ret (.int 3)) vnil)))) vnil)))) fun a => bind (ret v8room) fun b => bind (lift (setF v6s b a)) fun bs => ret (.nx bs)) fun v9s => ret (.nx v9s)))
def B__law_twin (ca : Nat → Addr) (v1state : PV) (v2plan : PV) : W (Fl Unit) :=
  (bind (lcO some (fun _ => ret true) (LW.E__law_twin_1 ca) (itL (op2 ixF (ret v2plan) (ret (.int 1))))) fun v3shareshere =>
  (bindF (bind (itR (vcons (callW (ar2 SL.takeW) [] (vcons (ret v1state) (vcons (ret (.int 3)) vnil))) vnil)) fun as => forW some (LW.L__law_twin_2 ca v1state) as v3shareshere) fun v5s =>
  (bind (tupW (vcons (setl (cbO listF (vcons (op2 ixF (ret v2plan) (ret (.int 0))) vnil))) (vcons (ret (.lst v5s)) vnil))) fun v10r => ret (.rt (.v v10r)))))
def F__law_twin (ca : Nat → Addr) (v1state : PV) (v2plan : PV) : W RV := runF (B__law_twin ca v1state v2plan)

/-- k68 k69 -/
def E__law_spread_1 (ca : Nat → Addr)  (v8x : PV × PV) : W PV :=
  (callW (ar2 (LW.F__law_far ca)) [] (vcons (ret v8x.1) (vcons (ret v8x.2) vnil)))
def L__law_spread_2 (ca : Nat → Addr)  (v6x : PV × PV) (v5s : PV) : W (Fl (PV)) :=
  (bind (callW (ar2 (LW.F__law_times ca)) [] (vcons (tupW (vcons (ret (.int 1)) (vcons (ret (.int 2)) vnil))) (vcons (callW (ar1 (LW.F__law_total ca)) [] (vcons (setl (lcO (tupF2 some some) (fun _ => ret true) (LW.E__law_spread_1 ca) (itZ (vcons (ret v6x.1) (vcons (ret v6x.2) vnil))))) vnil)) vnil))) fun v7half =>
  (bindF (bind (tst (callW (ar2 (LW.F__law_less ca)) [] (vcons (ret v5s) (vcons (ret v7half) vnil)))) fun v12b => if v12b = true then ((bindF (bind (ret v7half) fun v11a => ret (.nx v11a)) fun v10s => ret (.nx v10s)) : W (Fl (PV))) else (ret (.nx v5s))) fun v9s => ret (.nx v9s)))
def B__law_spread (ca : Nat → Addr) (v1one : PV) (v2other : PV) : W (Fl Unit) :=
  (bind (tupW (vcons (ret (.int 0)) (vcons (ret (.int 1)) vnil))) fun v3most =>
  (bindF (bind (itZ (vcons (op2 ixF (ret v1one) (ret (.int 1))) (vcons (op2 ixF (ret v2other) (ret (.int 1))) vnil))) fun as => forW (tupF2 some some) (LW.L__law_spread_2 ca) as v3most) fun v4s =>
  (bind (ret v4s) fun v13r => ret (.rt (.v v13r)))))
def F__law_spread (ca : Nat → Addr) (v1one : PV) (v2other : PV) : W RV := runF (B__law_spread ca v1one v2other)

/-- k75 k76 k81 -/
def L__law_greatest_move_1 (ca : Nat → Addr)  (v9x : PV × PV) (v8s : PV) : W (Fl (PV)) :=
  (bind (callW (ar2 (LW.F__law_far_b93 ca)) [] (vcons (ret v9x.1) (vcons (ret v9x.2) vnil))) fun v10farhere =>
  (bindF (bind (tst (callW (ar2 (LW.F__law_less ca)) [] (vcons (ret v8s) (vcons (ret v10farhere) vnil)))) fun v14b => if v14b = true then ((bindF (bind (ret v10farhere) fun v13a => ret (.nx v13a)) fun v12s => ret (.nx v12s)) : W (Fl (PV))) else (ret (.nx v8s))) fun v11s => ret (.nx v11s)))
def L__law_greatest_move_2 (ca : Nat → Addr)  (v6x : PV × PV) (v5s : PV) : W (Fl (PV)) :=
  (bindF (bind (itZ (vcons (ret v6x.1) (vcons (ret v6x.2) vnil))) fun as => forW (tupF2 some some) (LW.L__law_greatest_move_1 ca) as v5s) fun v7s => ret (.nx v7s))
def B__law_greatest_move (ca : Nat → Addr) (v1board : PV) (v2other : PV) : W (Fl Unit) :=
  (bind (tupW (vcons (ret (.int 0)) (vcons (ret (.int 1)) vnil))) fun v3found =>
  (bindF (bind (itZ (vcons (ret v1board) (vcons (ret v2other) vnil))) fun as => forW (tupF2 some some) (LW.L__law_greatest_move_2 ca) as v3found) fun v4s =>
  (bind (ret v4s) fun v15r => ret (.rt (.v v15r)))))
def F__law_greatest_move (ca : Nat → Addr) (v1board : PV) (v2other : PV) : W RV := runF (B__law_greatest_move ca v1board v2other)

/-- k75 k76 k78 k79 k81 k98 -/
def E__law_deed_1 (ca : Nat → Addr)  (v9x : PV) : W PV :=
  (setl (cbO listF (vcons (ret v9x) vnil)))
def B__law_deed (ca : Nat → Addr) (v1baghere : PV) (v2names : PV) (v3goeshere : PV) (v4fadinghere : PV) : W (Fl Unit) :=
  (bind (callW (ar2 SL.outW) [] (vcons (ret v1baghere) (vcons (cb lenF (vcons (ret v2names) vnil)) vnil))) fun v5room =>
  (bind (callW (ar2 SL.outW) [] (vcons (ret v1baghere) (vcons (ret (.int 4)) vnil))) fun v6way =>
  (bind (cbO listF (vcons (ret v2names) vnil)) fun v7others =>
  (bind (lcO some (fun _ => ret true) (LW.E__law_deed_1 ca) (itL (ret v3goeshere))) fun v8ways =>
  (bind (tst (op2 eqF (ret v6way) (ret (.int 0)))) fun v16b => if v16b = true then bindF (S := Empty) (bind (op2 ixF (op2 addF (ret v2names) (setl (lstO (vcons (ret (.str (PySem.Str.ofString "a"))) (vcons (ret (.str (PySem.Str.ofString "zq"))) vnil))))) (callW (ar2 SL.outW) [] (vcons (ret v1baghere) (vcons (op2 addF (cb lenF (vcons (ret v2names) vnil)) (ret (.int 2))) vnil)))) fun a => bind (ret v5room) fun b => bind (lift (setF v7others b a)) fun v10others =>
  (bind (lend (tupW (vcons (ret (.int 0)) (vcons (ret v5room) (vcons (ret (.lst v10others)) (vcons (ret (.lst v8ways)) (vcons (ret v4fadinghere) vnil))))))) fun v11r => ret (.rt (.v v11r)))) (fun s => s.elim) else
  (bind (tst (op2 eqF (ret v6way) (ret (.int 3)))) fun v15b => if v15b = true then bindF (S := Empty) (bind (lend (tupW (vcons (ret (.int 3)) (vcons (ret v5room) (vcons (ret (.lst v7others)) (vcons (ret (.lst v8ways)) (vcons (callW (ar1 (LW.F__law_fading ca)) [] (vcons (ret v1baghere) vnil)) vnil))))))) fun v12r => ret (.rt (.v v12r))) (fun s => s.elim) else
  (bind (op2 ixF (setl (lstO (vcons (callW (ar3 (LW.F__law_goes ca)) [] (vcons (ret v1baghere) (vcons (cb lenF (vcons (ret v2names) vnil)) (vcons (ret (.int 6)) vnil)))) (vcons (setl (cbO listF (vcons (op2 ixF (ret v3goeshere) (callW (ar2 SL.outW) [] (vcons (ret v1baghere) (vcons (cb lenF (vcons (ret v2names) vnil)) vnil)))) vnil))) vnil)))) (callW (ar2 SL.outW) [] (vcons (ret v1baghere) (vcons (ret (.int 2)) vnil)))) fun a => bind (ret v5room) fun b => bind (lift (setF v8ways b a)) fun v13ways =>
  (bind (tupW (vcons (ret (.int 1)) (vcons (ret v5room) (vcons (ret (.lst v7others)) (vcons (ret (.lst v13ways)) (vcons (ret v4fadinghere) vnil)))))) fun v14r => ret (.rt (.v v14r))))))))))
def F__law_deed (ca : Nat → Addr) (v1baghere : PV) (v2names : PV) (v3goeshere : PV) (v4fadinghere : PV) : W RV := runF (B__law_deed ca v1baghere v2names v3goeshere v4fadinghere)
end LW

set_option maxHeartbeats 4000000
namespace B04
open PySem SL
def B__law_one (ca : Nat → Addr) (v1state : PV) : W (Fl Unit) :=
  (SL.bind (op2 ixF (setl (lstO (vcons (SL.ret (.int 2)) (vcons (SL.ret (.int 9)) (vcons (SL.ret (.int 1000)) (vcons (op2 powF (SL.ret (.int 10)) (SL.ret (.int 29))) vnil)))))) (callW (ar2 SL.takeW) [] (vcons (SL.ret v1state) (vcons (SL.ret (.int 4)) vnil)))) fun v2most =>
  (SL.bind (callW (ar2 (NT.F_fraction ca)) [] (vcons (op2 mulF (callW (ar2 SL.takeW) [] (vcons (SL.ret v1state) (vcons (SL.ret v2most) vnil))) (op2 ixF (setl (lstO (vcons (SL.ret (.int 1)) (vcons (SL.ret (.int 1)) (vcons (op1 negF (SL.ret (.int 1))) vnil))))) (callW (ar2 SL.takeW) [] (vcons (SL.ret v1state) (vcons (SL.ret (.int 3)) vnil))))) (vcons (op2 addF (SL.ret (.int 1)) (callW (ar2 SL.takeW) [] (vcons (SL.ret v1state) (vcons (SL.ret v2most) vnil)))) vnil))) fun v3r => SL.ret (.rt (.v v3r))))
def F__law_one (ca : Nat → Addr) (v1state : PV) : W RV := runF (B__law_one ca v1state)

def B__law_right (ca : Nat → Addr) (v1onehere : PV) (v2other : PV) (v3third : PV) : W (Fl Unit) :=
  (SL.bind (callW (ar2 (NT.F_plus ca)) [] (vcons (SL.ret v1onehere) (vcons (SL.ret v2other) vnil))) fun v4both =>
  (SL.bind (orT (tst (op2 neF (callW (ar2 (NT.F_minus ca)) [] (vcons (SL.ret v4both) (vcons (SL.ret v2other) vnil))) (SL.ret v1onehere))) (tst (op2 neF (callW (ar2 (NT.F_plus ca)) [] (vcons (SL.ret v2other) (vcons (SL.ret v1onehere) vnil))) (SL.ret v4both)))) fun v26b => if v26b = true then SL.bindF (S := Empty) (T := Unit) (SL.bind (SL.ret (.bl false)) fun v5r => SL.ret (.rt (.v v5r))) (fun s => s.elim) else (
  (SL.bind (tst (op2 neF (callW (ar2 (NT.F_total ca)) [.non] (vcons (setl (lstO (vcons (SL.ret v1onehere) (vcons (SL.ret v2other) (vcons (SL.ret v3third) vnil))))) vnil)) (callW (ar2 (NT.F_plus ca)) [] (vcons (SL.ret v4both) (vcons (SL.ret v3third) vnil))))) fun v25b => if v25b = true then SL.bindF (S := Empty) (T := Unit) (SL.bind (SL.ret (.bl false)) fun v6r => SL.ret (.rt (.v v6r))) (fun s => s.elim) else (
  (SL.bind (tst (op2 neF (callW (ar2 (NT.F_plus ca)) [] (vcons (SL.ret v1onehere) (vcons (callW (ar2 (NT.F_plus ca)) [] (vcons (SL.ret v2other) (vcons (SL.ret v3third) vnil))) vnil))) (callW (ar2 (NT.F_plus ca)) [] (vcons (SL.ret v4both) (vcons (SL.ret v3third) vnil))))) fun v24b => if v24b = true then SL.bindF (S := Empty) (T := Unit) (SL.bind (SL.ret (.bl false)) fun v7r => SL.ret (.rt (.v v7r))) (fun s => s.elim) else (
  (SL.bind (tst (op2 neF (callW (ar2 (NT.F_times ca)) [] (vcons (callW (ar2 (NT.F_times ca)) [] (vcons (SL.ret v1onehere) (vcons (SL.ret v2other) vnil))) (vcons (SL.ret v3third) vnil))) (callW (ar2 (NT.F_times ca)) [] (vcons (SL.ret v1onehere) (vcons (callW (ar2 (NT.F_times ca)) [] (vcons (SL.ret v3third) (vcons (SL.ret v2other) vnil))) vnil))))) fun v23b => if v23b = true then SL.bindF (S := Empty) (T := Unit) (SL.bind (SL.ret (.bl false)) fun v8r => SL.ret (.rt (.v v8r))) (fun s => s.elim) else (
  (SL.bind (tst (op2 neF (callW (ar2 (NT.F_times ca)) [] (vcons (SL.ret v4both) (vcons (SL.ret v3third) vnil))) (callW (ar2 (NT.F_plus ca)) [] (vcons (callW (ar2 (NT.F_times ca)) [] (vcons (SL.ret v1onehere) (vcons (SL.ret v3third) vnil))) (vcons (callW (ar2 (NT.F_times ca)) [] (vcons (SL.ret v2other) (vcons (SL.ret v3third) vnil))) vnil))))) fun v22b => if v22b = true then SL.bindF (S := Empty) (T := Unit) (SL.bind (SL.ret (.bl false)) fun v9r => SL.ret (.rt (.v v9r))) (fun s => s.elim) else (
  (SL.bind (tst (op2 neF (callW (ar2 (NT.F_times ca)) [] (vcons (SL.ret v1onehere) (vcons (SL.ret v2other) vnil))) (callW (ar2 (NT.F_times ca)) [] (vcons (SL.ret v2other) (vcons (SL.ret v1onehere) vnil))))) fun v21b => if v21b = true then SL.bindF (S := Empty) (T := Unit) (SL.bind (SL.ret (.bl false)) fun v10r => SL.ret (.rt (.v v10r))) (fun s => s.elim) else (
  (SL.bind (andT (tst (op2 neF (op2 ixF (SL.ret v3third) (SL.ret (.int 0))) (SL.ret (.int 0)))) (tst (op2 neF (callW (ar2 (NT.F_over ca)) [] (vcons (callW (ar2 (NT.F_times ca)) [] (vcons (SL.ret v1onehere) (vcons (SL.ret v3third) vnil))) (vcons (SL.ret v3third) vnil))) (SL.ret v1onehere)))) fun v20b => if v20b = true then SL.bindF (S := Empty) (T := Unit) (SL.bind (SL.ret (.bl false)) fun v11r => SL.ret (.rt (.v v11r))) (fun s => s.elim) else (
  (SL.bind (tst (op2 neF (bmW "list" cntF (setl (lstO (vcons (callW (ar2 (NT.F_under ca)) [] (vcons (SL.ret v1onehere) (vcons (SL.ret v2other) vnil))) (vcons (op2 eqF (SL.ret v1onehere) (SL.ret v2other)) (vcons (callW (ar2 (NT.F_under ca)) [] (vcons (SL.ret v2other) (vcons (SL.ret v1onehere) vnil))) vnil))))) (vcons (SL.ret (.bl true)) vnil)) (SL.ret (.int 1)))) fun v19b => if v19b = true then SL.bindF (S := Empty) (T := Unit) (SL.bind (SL.ret (.bl false)) fun v12r => SL.ret (.rt (.v v12r))) (fun s => s.elim) else (
  (SL.bind (notT (tst (callW (ar1 (NT.F_is_fraction ca)) [] (vcons (SL.ret v4both) vnil)))) fun v18b => if v18b = true then SL.bindF (S := Empty) (T := Unit) (SL.bind (SL.ret (.bl false)) fun v13r => SL.ret (.rt (.v v13r))) (fun s => s.elim) else (
  (SL.bind (callW (ar2 (NT.F_apart ca)) [] (vcons (SL.ret v1onehere) (vcons (SL.ret v2other) vnil))) fun v14far =>
  (SL.bind (orT (tst (op2 neF (SL.ret v14far) (callW (ar2 (NT.F_apart ca)) [] (vcons (SL.ret v2other) (vcons (SL.ret v1onehere) vnil))))) (tst (callW (ar2 (NT.F_under ca)) [] (vcons (callW (ar2 (NT.F_plus ca)) [] (vcons (callW (ar2 (NT.F_apart ca)) [] (vcons (SL.ret v1onehere) (vcons (SL.ret v3third) vnil))) (vcons (callW (ar2 (NT.F_apart ca)) [] (vcons (SL.ret v3third) (vcons (SL.ret v2other) vnil))) vnil))) (vcons (SL.ret v14far) vnil))))) fun v17b => if v17b = true then SL.bindF (S := Empty) (T := Unit) (SL.bind (SL.ret (.bl false)) fun v15r => SL.ret (.rt (.v v15r))) (fun s => s.elim) else (
  (SL.bind (andV (op2 eqF (op2 eqF (SL.ret v14far) (tupW (vcons (SL.ret (.int 0)) (vcons (SL.ret (.int 1)) vnil)))) (op2 eqF (SL.ret v1onehere) (SL.ret v2other))) (notV (callW (ar2 (NT.F_under ca)) [] (vcons (SL.ret v14far) (vcons (tupW (vcons (SL.ret (.int 0)) (vcons (SL.ret (.int 1)) vnil))) vnil))))) fun v16r => SL.ret (.rt (.v v16r))) : W (Fl (Unit))))) : W (Fl (Unit)))) : W (Fl (Unit)))) : W (Fl (Unit)))) : W (Fl (Unit)))) : W (Fl (Unit)))) : W (Fl (Unit)))) : W (Fl (Unit)))) : W (Fl (Unit)))) : W (Fl (Unit)))))
def F__law_right (ca : Nat → Addr) (v1onehere : PV) (v2other : PV) (v3third : PV) : W RV := runF (B__law_right ca v1onehere v2other v3third)

def E_law_1 (ca : Nat → Addr) (v5state : PV) (v7x : PV) : W PV :=
  (callW (ar1 (F__law_one ca)) [] (vcons (SL.ret v5state) vnil))
def L_law_2 (ca : Nat → Addr) (v1script : PV) (v4x : PV) (v3s : Unit) : W (Fl (Unit)) :=
  (SL.bind (bag3W (callO (ar2 SL.begunW) [] (vcons (SL.ret v1script) (vcons (SL.ret v4x) vnil)))) fun v5state =>
  (SL.bind (lcO some (fun _ => SL.ret true) (E_law_1 ca v5state) (itR (vcons (SL.ret (.int 3)) vnil))) fun v6some =>
  (SL.bindF (SL.bind (tst (op2 eqF (callW (ar2 SL.takeW) [] (vcons (SL.ret v5state) (vcons (SL.ret (.int 4)) vnil))) (SL.ret (.int 0)))) fun v10b => if v10b = true then ((SL.bindF (SL.bind (lend (op2 ixF (SL.ret (.lst v6some)) (SL.ret (.int 0)))) fun a => SL.bind (SL.ret (.int 1)) fun b => SL.bind (SL.lift (setF v6some b a)) fun bs => SL.ret (.nx bs)) fun v9s => SL.ret (.nx v9s)) : W (Fl (List PV))) else (SL.ret (.nx v6some))) fun v8s =>
  (SL.bindF (SL.bind (orT (notT (tst (callW (ar3 (F__law_right ca)) [] (vcons (lend (op2 ixF (SL.ret (.lst v8s)) (SL.ret (.int 0)))) (vcons (lend (op2 ixF (SL.ret (.lst v8s)) (SL.ret (.int 1)))) (vcons (lend (op2 ixF (SL.ret (.lst v8s)) (SL.ret (.int 2)))) vnil)))))) (notT (tst (callW (ar3 (F__law_right ca)) [] (vcons (lend (op2 ixF (SL.ret (.lst v8s)) (SL.ret (.int 2)))) (vcons (lend (op2 ixF (SL.ret (.lst v8s)) (SL.ret (.int 0)))) (vcons (lend (op2 ixF (SL.ret (.lst v8s)) (SL.ret (.int 1)))) vnil))))))) fun v13b => if v13b = true then ((SL.bind (SL.ret (.bl false)) fun v12r => SL.ret (.rt (.v v12r))) : W (Fl (Unit))) else (SL.ret (.nx ()))) fun _ => SL.ret (.nx ())))))
def B_law (ca : Nat → Addr) (v1script : PV) : W (Fl Unit) :=
  (SL.bindF (SL.bind (itR (vcons (cb max2F (vcons (SL.ret (.int 1)) (vcons (cb min2F (vcons (SL.ret (.int 40)) (vcons (cb lenF (vcons (SL.ret v1script) vnil)) vnil))) vnil))) vnil)) fun as => forW some (L_law_2 ca v1script) as ()) fun _ =>
  (SL.bind (SL.ret (.bl true)) fun v14r => SL.ret (.rt (.v v14r))))
def F_law (ca : Nat → Addr) (v1script : PV) : W RV := runF (B_law ca v1script)
end B04

namespace B04
open PySem PySem.Spec PyProof.Rows L2 Evl NF
def topS (i : Nat) : Stmt := PySem.Challenge.pw_neartwins_k04_whole_sums_there_and_back.main.body.getD i (.Pass ⟨0, 0, 0, 0⟩)
abbrev s__law_begun : Stmt := topS 19
theorem sc__law_begun : FnScope ["_law_script", "_law_k", "_law_cell", "_law_number", "_law_mixed"] ["_law_script", "_law_k"] (defScope s__law_begun) := ⟨rfl, rfl, rfl, by decide +kernel, rfl, by decide +kernel, by decide +kernel⟩
abbrev s__law_take : Stmt := topS 20
theorem sc__law_take : FnScope ["_law_state", "_law_many", "_law_digit", "_law_made", "_law_turn"] ["_law_state", "_law_many"] (defScope s__law_take) := ⟨rfl, rfl, rfl, by decide +kernel, rfl, by decide +kernel, by decide +kernel⟩
section
variable {P : Program} {w : World} {K : PySem.W.Frag} {mg : Str → Option Value} {base : Heap} {f : Addr} {fd : FuncData}
theorem cell_ok (ns : List Int) (k : Nat) : ∃ c : Int, (cutV (ns.map V.int) (some (k : Int)) (some ((k : Int) + 1)) ++ [V.int 0])[0]? = some (.int c) := by
  have h : ∀ v ∈ cutV (ns.map V.int) (some (k : Int)) (some ((k : Int) + 1)), ∃ c, v = V.int c := by
    intro v hv
    have h1 : v ∈ ns.map V.int := List.mem_of_mem_drop (List.mem_of_mem_take hv)
    obtain ⟨c, _, e⟩ := List.mem_map.mp h1
    exact ⟨c, e.symm⟩
  cases e : cutV (ns.map V.int) (some (k : Int)) (some ((k : Int) + 1)) with
  | nil => exact ⟨0, rfl⟩
  | cons v r =>
    rw [e] at h
    obtain ⟨c, hc⟩ := h v (List.mem_cons_self ..)
    exact ⟨c, by rw [hc]; rfl⟩
theorem cut_len (xs : List V) (a b : Option Int) : (cutV xs a b).length ≤ xs.length := by
  unfold cutV
  rw [List.length_take, List.length_drop]
  omega
theorem ok_begun (F : Fun K "_law_begun" "_law_begun" s__law_begun f fd) (n_max : mg "max" = none) : FnOk P w K mg base CX0 1 f fd ["_law_script", "_law_k"] (spBegun K) := by
  refine F.ok sc__law_begun (fun vs H Q E h => ?_) (fun cdv A outer s H vs Q E hr h => ?_)
  · obtain ⟨_, _, _, rfl, _⟩ := h
    rfl
  · obtain ⟨a, ns, k, rfl, ha, hl, hk, q⟩ := h
    refine ⟨_, (pss_cons (ps_set (i := 2) sc__law_begun.nd rfl (.inl rfl) (pe_ix ix_list (pe_op op_cat (pe_slice sl_list (pv 0) (po_some (pv 1)) (po_some (pe_op op_add (pv 1) pe_int))) (pe_lst (pa_cons pe_int pa_nil))) pe_int (fun _ _ => rfl)))
      (pss_cons (ps_set (i := 3) sc__law_begun.nd rfl (.inl rfl) (pe_callB (call_max2 rfl) (by rfl) n_max PyProof.Rows.boot_max (pa_cons (pv 2) (pa_cons (pe_op op_sub (pe_un un_neg pe_int) (pv 2)) pa_nil))))
      (pss_cons (ps_set (i := 4) sc__law_begun.nd rfl (.inl rfl) (pe_op op_modN (pe_op op_add (pe_op op_add (pe_op op_add (pe_op op_modN (pv 3) pe_int) (pe_op op_mul pe_int (pv 1))) (pe_op op_mul (pe_op op_mul pe_int (pv 1)) (pv 1))) pe_int) pe_int))
      (pss_one (ps_ret (pe_lst (pa_cons (pv 3) (pa_cons (pv 4) (pa_cons (pe_cmpR op_ge (pv 3) (pe_op op_pow pe_int pe_int) (nomark _)) pa_nil))))))))), ?_⟩
    obtain ⟨c, hc⟩ := cell_ok ns k
    have hlen := cut_len (ns.map V.int) (some (k : Int)) (some ((k : Int) + 1))
    rw [List.length_map] at hlen
    have e1 : Ev (tOp (rIxL K) (tOp rCat (tSl (rSlL K) (tVar 0) (tPart (tVar 1)) (tPart (tOp (rI0 fun i j => .int (i + j)) (tVar 1) (tC (.int 1))))) (tLst (tCons (tC (.int 0)) tNil))) (tC (.int 0))) (start ["_law_script", "_law_k", "_law_cell", "_law_number", "_law_mixed"] [.ref a, .int (k : Int)]) H (.int c) := by
      intro H1 x1 Q' q'
      refine el_sl (ev_var rfl) (eo_some (ev_var rfl)) (eo_some (ev_op (ev_var rfl) ev_c rv_I0)) ha H1 x1 _ fun p H2 np x2 hp => ?_
      refine el_lst (H := H2) (ea_cons ev_c ea_nil) (by show 1 ≤ 100000; decide) H2 (Ex.refl H2) _ fun r H3 nr x3 h3 => ?_
      refine ⟨p, r, _, _, rfl, rfl, x3 _ _ hp, h3, sz_of (by show (cutV (ns.map V.int) (some (k : Int)) (some ((k : Int) + 1))).length + 1 ≤ 100000; omega), fun t nt => ?_⟩
      exact ⟨t, _, 0, .int c, rfl, rfl, SqL.of upd_same, atI_nat (j := 0) hc, q' _ ((x2.trans x3).trans (Ex.new nt))⟩
    refine q_asg e1 fun H1 x1 => ?_
    refine q_asg (ev_max2 (ev_var rfl) (ev_op (ev_un ev_c ru_neg) (ev_var rfl) rv_I0)) fun H2 x2 => ?_
    refine q_asg (ev_op (ev_op (ev_op (ev_op (ev_op (ev_var rfl) ev_c (rv_I (by decide))) (ev_op ev_c (ev_var rfl) (rv_I (.inl ⟨by decide, by decide⟩))) rv_I0)
      (ev_op (ev_op ev_c (ev_var rfl) (rv_I (.inl ⟨by decide, by decide⟩))) (ev_var rfl) (rv_I (.inr ⟨by omega, by omega⟩))) rv_I0) ev_c rv_I0) ev_c (rv_I (by decide))) fun H3 x3 => ?_
    refine s_retL (el_lst (ea_cons (ev_var rfl) (ea_cons (ev_var rfl) (ea_cons (ev_op (ev_var rfl) (ev_op ev_c ev_c (rv_I ⟨by decide, by decide, by decide⟩)) rv_I0) ea_nil))) (by show 3 ≤ 100000; decide)) fun p H4 np x4 hp => ?_
    exact q p H4 (fresh_back ((x1.trans x2).trans x3) np) (((x1.trans x2).trans x3).trans x4) ⟨_, _, _, hp⟩
theorem ok_take (F : Fun K "_law_take" "_law_take" s__law_take f fd) (n_int : mg "int" = none) (n_range : mg "range" = none) : FnOk P w K mg base CX0 1 f fd ["_law_state", "_law_many"] spTake := by
  refine F.ok sc__law_take (fun vs H Q E h => ?_) (fun cdv A outer s H vs Q E hr h => ?_)
  · obtain ⟨_, _, rfl, _⟩ := h
    rfl
  · obtain ⟨st, many, rfl, ⟨n, m, c, hs⟩, h0, hm, q⟩ := h
    refine ⟨_, (pss_cons (ps_if (pt_val (pe_ix ix_list (pv 0) pe_int (fun _ _ => rfl))) (pss_cons (ps_set (i := 2) sc__law_take.nd rfl (.inl rfl) (pe_op op_modN (pe_ix ix_list (pv 0) pe_int (fun _ _ => rfl)) (pv 1)))
      (pss_cons (ps_asg (pe_op op_fdivX (pe_ix ix_list (pv 0) pe_int (fun _ _ => rfl)) (pv 1)) (pg_sub (pv 0) pe_int set_list))
      (pss_cons (ps_asg (pe_cmpR op_gt (pe_ix ix_list (pv 0) pe_int (fun _ _ => rfl)) pe_int (nomark _)) (pg_sub (pv 0) pe_int set_list))
      (pss_one (ps_ret (pv 2)))))) pss_nil)
      (pss_cons (ps_set (i := 3) sc__law_take.nd rfl (.inl rfl) pe_int)
      (pss_cons (ps_for PassesOwn.never rfl (pi_range1 (by rfl) n_range (pa_cons (pe_op op_add pe_int (pe_callTy call_int1 (by rfl) n_int PyProof.Rows.boot_int (pa_cons (pe_cmpR op_gt (pv 1) (pe_op op_pow pe_int pe_int) (nomark _)) pa_nil))) pa_nil)) (pg_name (i := 4) sc__law_take.nd rfl (.inl rfl)) (pss_cons (ps_asg (pe_op op_modN (pe_op op_add (pe_op op_mul (pe_ix ix_list (pv 0) pe_int (fun _ _ => rfl)) pe_int) pe_int) pe_int) (pg_sub (pv 0) pe_int set_list))
      (pss_one (ps_set (i := 3) sc__law_take.nd rfl (.inl rfl) (pe_op op_add (pe_op op_mul (pv 3) pe_int) (pe_op op_modN (pe_op op_mul (pe_ix ix_list (pv 0) pe_int (fun _ _ => rfl)) (pe_ix ix_list (pv 0) pe_int (fun _ _ => rfl))) pe_int))))))
      (pss_one (ps_ret (pe_op op_modN (pe_op op_fdivX (pv 3) pe_int) (pv 1))))))), ?_⟩
    have i0 : ∀ {σ : L2.St} {H : Hp} {a b c : V}, σ[0]? = some (some (.ref st)) → H st = some (.lst [a, b, c]) → Ev (tOp (rIxL K) (tVar 0) (tC (.int 0))) σ H a := fun hσ h => ev_op (ev_var hσ) ev_c (rv_ixL (SqL.of h) (atI_nat (j := 0) rfl))
    have i1 : ∀ {σ : L2.St} {H : Hp} {a b c : V}, σ[0]? = some (some (.ref st)) → H st = some (.lst [a, b, c]) → Ev (tOp (rIxL K) (tVar 0) (tC (.int 1))) σ H b := fun hσ h => ev_op (ev_var hσ) ev_c (rv_ixL (SqL.of h) (atI_nat (j := 1) rfl))
    have i2 : ∀ {σ : L2.St} {H : Hp} {a b c : V}, σ[0]? = some (some (.ref st)) → H st = some (.lst [a, b, c]) → Ev (tOp (rIxL K) (tVar 0) (tC (.int 2))) σ H c := fun hσ h => ev_op (ev_var hσ) ev_c (rv_ixL (SqL.of h) (atI_nat (j := 2) rfl))
    refine q_when (et_B (i2 rfl hs)) (fun hb H1 x1 => ?_) fun hb H1 x1 => ?_
    · refine q_asg (ev_op (i0 rfl (x1 _ _ hs)) (ev_var rfl) (rv_I (Int.ne_of_gt h0))) fun H2 x2 => ?_
      refine q_setL (j := 0) ((x1.trans x2) _ _ hs) (ev_op (i0 rfl ((x1.trans x2) _ _ hs)) (ev_var rfl) (rv_I (divX (Int.ne_of_gt h0) hm (by decide) (by decide)))) (ev_var rfl) ev_c (by show 0 < 3; decide) fun H3 x3 => ?_
      refine q_setL (j := 2) upd_same (ev_op (i0 rfl upd_same) ev_c rv_I0) (ev_var rfl) ev_c (by show 2 < 3; decide) fun H4 x4 => ?_
      have y3 : Exs st H (upd H3 st (.lst [.int (n.fdiv many), .int m, .bl c])) := (Exs.of ((x1.trans x2).trans x3)).trans Exs.upd
      exact s_ret (ev_var rfl) fun H5 x5 => q _ H5 (Int.fmod_nonneg_of_pos n h0) (Int.fmod_lt_of_pos n h0) ⟨_, _, _, x5 _ _ upd_same⟩ (((y3.trans (Exs.of x4)).trans Exs.upd).trans (Exs.of x5))
    · refine q_asg ev_c fun H2 x2 => ?_
      have en : RC (fun xs H Q => (∃ i, xs = [V.int i] ∧ Q (.int i) H) ∨ ∃ k, xs = [V.bl k] ∧ Q (.int (if k then 1 else 0)) H) [.bl (decide ((10 : Int) ^ (6 : Int).toNat < many))] H2 (.int (if decide ((10 : Int) ^ (6 : Int).toNat < many) = true then 1 else 0)) := fun H1 _ _ q => .inr ⟨_, rfl, q H1 (Ex.refl H1)⟩
      refine q_forR1 (n := 1 + (if decide ((10 : Int) ^ (6 : Int).toNat < many) = true then 1 else 0)) (ea_cons (ev_op ev_c (ev_cb (ea_cons (ev_op (ev_var rfl) (ev_op ev_c ev_c (rv_I ⟨by decide, by decide, by decide⟩)) rv_I0) ea_nil) en) rv_I0) ea_nil) (by split <;> omega)
        (fun i σ' H' => ∃ (g : Int) (y2 y4 : Option V), σ' = [some (.ref st), some (.int many), y2, some (.int g), y4] ∧ StA st H' ∧ Exs st H H') (fun H3 x3 => ⟨0, none, none, rfl, ⟨n, m, c, ((x1.trans x2).trans x3) _ _ hs⟩, Exs.of ((x1.trans x2).trans x3)⟩) ?_ ?_
      · rintro i σ' H' hi ⟨g, y2, y4, rfl, ⟨n', m', c', hs'⟩, x⟩
        have p0 : 0 ≤ (m' * 48271 + 11).fmod 2147483647 := Int.fmod_nonneg_of_pos _ (by decide)
        have p1 : (m' * 48271 + 11).fmod 2147483647 < 2147483647 := Int.fmod_lt_of_pos _ (by decide)
        refine q_setL (j := 1) hs' (ev_op (ev_op (ev_op (i1 rfl hs') ev_c (rv_I (.inr ⟨by decide, by decide⟩))) ev_c rv_I0) ev_c (rv_I (by decide))) (ev_var rfl) ev_c (by show 1 < 3; decide) fun H3 x3 => ?_
        refine s_asg (ev_op (ev_op (ev_var rfl) ev_c (rv_I (.inr ⟨by decide, by decide⟩))) (ev_op (ev_op (i1 rfl upd_same) (i1 rfl upd_same) (rv_I (.inl ⟨by omega, by omega⟩))) ev_c (rv_I (by decide))) rv_I0) fun H4 x4 => ?_
        exact ⟨_, _, _, rfl, ⟨_, _, _, x4 _ _ upd_same⟩, ((x.trans (Exs.of x3)).trans Exs.upd).trans (Exs.of x4)⟩
      · rintro σ' H' ⟨g, y2, y4, rfl, hs', x⟩
        exact s_ret (ev_op (ev_op (ev_var rfl) ev_c (rv_I (divX (b := 7) (by decide) (by decide) (by decide) (by decide)))) (ev_var rfl) (rv_I (Int.ne_of_gt h0))) fun H3 x3 => q _ H3 (Int.fmod_nonneg_of_pos _ h0) (Int.fmod_lt_of_pos _ h0) (hs'.mono x3) (x.trans (Exs.of x3))
/-- the law's bag by our promises -/
theorem ok__law_begun (F : Fun K "_law_begun" "_law_begun" s__law_begun f fd) (n_max : mg "max" = none) : FnOk P w K mg base CX0 1 f fd ["_law_script", "_law_k"] (SL.spW K (SL.ar2 SL.begunW)) := SL.FnOk.sub (ok_begun F n_max) SL.sub_begun
theorem ok__law_take (F : Fun K "_law_take" "_law_take" s__law_take f fd) (n_int : mg "int" = none) (n_range : mg "range" = none) : FnOk P w K mg base CX0 1 f fd ["_law_state", "_law_many"] (SL.spW K (SL.ar2 SL.takeW)) := SL.FnOk.sub (ok_take F n_int n_range) SL.sub_take
end
end B04

set_option maxHeartbeats 4000000
namespace B04
open PySem PySem.Spec PyProof.Rows L2 Evl NF WL SL
abbrev s_is_whole : Stmt := topS 5
theorem sc_is_whole : FnScope ["thing"] ["thing"] (defScope s_is_whole) := ⟨rfl, rfl, rfl, by decide +kernel, rfl, by decide +kernel, by decide +kernel⟩
theorem ok_is_whole {P : Program} {w : World} {K : PySem.W.Frag} {mg : Str → Option Value} {base : Heap} {f : Addr} {fd : FuncData} {ca : Nat → Addr} (Fn : Fun K "is_whole" "is_whole" s_is_whole f fd) (n_bool : mg "bool" = none) (n_int : mg "int" = none) (n_isinstance : mg "isinstance" = none) : FnOk P w K mg base CX0 1 f fd ["thing"] (spW K (ar1 (NT.F_is_whole ca))) := by
  refine foW (k := 0) Fn sc_is_whole (by decide) le_ar1 fun cdv A outer s H E hr => ⟨_, (pss_one (ps_ret (pe_and (pe_callB (call_isP (K := K) rfl) (by rfl) n_isinstance PyProof.Rows.boot_isinstance (pa_cons (pv 0) (pa_cons (c_ty (n := "int") n_int (by rfl) (by decide +kernel) (by decide)) pa_nil))) (pe_one (pe_not (pe_callB (call_isP (K := K) rfl) (by rfl) n_isinstance PyProof.Rows.boot_isinstance (pa_cons (pv 0) (pa_cons (c_ty (n := "bool") n_bool (by rfl) (by decide +kernel) (by decide)) pa_nil)))))))), fun as S Ψ Ξ h => ?_⟩
  obtain ⟨v1thing, rfl, h⟩ := ar1_inv h
  exact ⟨NT.B_is_whole ca v1thing, h,
  (gp_ret (p_and (p_isi (.ty _) tab_b (ep_var rfl)) (p_not (p_isi (.ty _) tab_b (ep_var rfl)))))⟩

abbrev s_greatest_divisor : Stmt := topS 6
theorem sc_greatest_divisor : FnScope ["one", "other"] ["one", "other"] (defScope s_greatest_divisor) := ⟨rfl, rfl, rfl, by decide +kernel, rfl, by decide +kernel, by decide +kernel⟩
theorem ok_greatest_divisor {P : Program} {w : World} {K : PySem.W.Frag} {mg : Str → Option Value} {base : Heap} {f : Addr} {fd : FuncData} {ca : Nat → Addr} (Fn : Fun K "greatest_divisor" "greatest_divisor" s_greatest_divisor f fd) (n_abs : mg "abs" = none) : FnOk P w K mg base CX0 1 f fd ["one", "other"] (spW K (ar2 (NT.F_greatest_divisor ca))) := by
  refine foW (k := 0) Fn sc_greatest_divisor (by decide) le_ar2 fun cdv A outer s H E hr => ⟨_, (pss_cons (ps_while PassesOwn.never (pt_cmpR (op_neP (K := K) rfl hr.units) (pv 1) pe_int (nomark _)) (pss_one (ps_par (i := 0) (j := 1) (by rfl) sc_greatest_divisor.nd rfl rfl (by decide) rfl rfl (pa_cons (pv 1) (pa_cons (pe_op op_modN (pv 0) (pv 1)) pa_nil)) (by rfl))))
      (pss_one (ps_ret (pe_callB call_abs (by rfl) n_abs PyProof.Rows.boot_abs (pa_cons (pv 0) pa_nil))))), fun as S Ψ Ξ h => ?_⟩
  obtain ⟨v1one, v2other, rfl, h⟩ := ar2_inv h
  exact ⟨NT.B_greatest_divisor ca v1one v2other, h,
  (gp_seq (gp_while (pat := (fun v3s => [.val v3s.1, .val v3s.2])) (s0 := (v1one, v2other)) (by exact ⟨.inr rfl, ⟨.inr rfl, trivial⟩⟩) (fun v4s => (t_tst (p_op ow_ne (ep_var rfl) ep_int))) (fun v4s =>
  (g_last (fun v5s => (v5s.1, v5s.2)) (fun v5s => (by exact ⟨.inr rfl, ⟨.inr rfl, trivial⟩⟩)) (g_par2L (pat := (fun v5s => [.val v5s.1, .val v5s.2])) (v_cons (ep_var rfl) (v_cons (p_op ow_mod (ep_var rfl) (ep_var rfl)) v_nil)) fun _ => rfl)))) fun v3s =>
  (gp_ret (p_cb cw_abs (v_cons (ep_var rfl) v_nil))))⟩

abbrev s_is_fraction : Stmt := topS 7
theorem sc_is_fraction : FnScope ["thing", "top", "bottom"] ["thing"] (defScope s_is_fraction) := ⟨rfl, rfl, rfl, by decide +kernel, rfl, by decide +kernel, by decide +kernel⟩
theorem ok_is_fraction {P : Program} {w : World} {K : PySem.W.Frag} {mg : Str → Option Value} {base : Heap} {f : Addr} {fd : FuncData} {ca : Nat → Addr} (Fn : Fun K "is_fraction" "is_fraction" s_is_fraction f fd) (n_isinstance : mg "isinstance" = none) (n_len : mg "len" = none) (n_tuple : mg "tuple" = none) (C_greatest_divisor : Cal P w K mg base 1 "greatest_divisor" ["one", "other"] [] (spW K (ar2 (NT.F_greatest_divisor ca)))) (C_is_whole : Cal P w K mg base 1 "is_whole" ["thing"] [] (spW K (ar1 (NT.F_is_whole ca)))) : FnOk P w K mg base CX0 2 f fd ["thing"] (spW K (ar1 (NT.F_is_fraction ca))) := by
  refine foW (k := 1) Fn sc_is_fraction (by decide) le_ar1 fun cdv A outer s H E hr => ⟨_, (pss_cons (ps_if (PW.pt (pw_or (pt_not (pt_val (pe_callB (call_isP (K := K) rfl) (by rfl) n_isinstance PyProof.Rows.boot_isinstance (pa_cons (pv 0) (pa_cons (c_ty (n := "tuple") n_tuple (by rfl) (by decide +kernel) (by decide)) pa_nil))))) (pw_or1 (pt_cmpR (op_neP (K := K) rfl hr.units) (pe_callB (call_lenU (K := K) rfl) (by rfl) n_len PySem.boot_len (pa_cons (pv 0) pa_nil)) pe_int (nomark _))))) (pss_one (ps_ret pe_bl)) pss_nil)
      (pss_cons (ps_asg (pv 0) (pg_tupK (K := K) (n := 2) rfl rfl (pgs_cons (pg_name (i := 1) sc_is_fraction.nd rfl (.inl rfl)) (pgs_cons (pg_name (i := 2) sc_is_fraction.nd rfl (.inl rfl)) pgs_nil))))
      (pss_cons (ps_if (PW.pt (pw_or (pt_not (pt_val (pe_cal C_is_whole hr (by decide) (by rfl) (pa_cons (pv 1) pa_nil)))) (pw_or (pt_not (pt_val (pe_cal C_is_whole hr (by decide) (by rfl) (pa_cons (pv 2) pa_nil)))) (pw_or1 (pt_cmpR op_lt (pv 2) pe_int (nomark _)))))) (pss_one (ps_ret pe_bl)) pss_nil)
      (pss_one (ps_ret (pe_cmpR (op_eqP (K := K) rfl hr.units) (pe_cal C_greatest_divisor hr (by decide) (by rfl) (pa_cons (pv 1) (pa_cons (pv 2) pa_nil))) pe_int (nomark _))))))), fun as S Ψ Ξ h => ?_⟩
  obtain ⟨v1thing, rfl, h⟩ := ar1_inv h
  exact ⟨NT.B_is_fraction ca v1thing, h,
  (gp_when (pe := fun s => s.elim) (t_orT (t_notT (t_tB (p_isi (.ty _) tab_b (ep_var rfl)))) (t_tst (p_op ow_ne (p_cb cw_len (v_cons (ep_var rfl) v_nil)) ep_int))) (gp_ret ep_bl)
  (gp_unpack (ep_var rfl) (tg_tup2 tg_name tg_name) fun v3x => ⟨rfl,
  (gp_when (pe := fun s => s.elim) (t_orT (t_notT (t_tB (p_call (fun _ => .nil) (v_cons (ep_var rfl) v_nil)))) (t_orT (t_notT (t_tB (p_call (fun _ => .nil) (v_cons (ep_var rfl) v_nil)))) (t_tst (p_op ow_lt (ep_var rfl) ep_int)))) (gp_ret ep_bl)
  (gp_ret (p_op ow_eq (p_call (fun _ => .nil) (v_cons (ep_var rfl) (v_cons (ep_var rfl) v_nil))) ep_int)))⟩))⟩

abbrev s_reduced : Stmt := topS 8
theorem sc_reduced : FnScope ["top", "bottom", "divisor"] ["top", "bottom"] (defScope s_reduced) := ⟨rfl, rfl, rfl, by decide +kernel, rfl, by decide +kernel, by decide +kernel⟩
theorem ok_reduced {P : Program} {w : World} {K : PySem.W.Frag} {mg : Str → Option Value} {base : Heap} {f : Addr} {fd : FuncData} {ca : Nat → Addr} (Fn : Fun K "reduced" "reduced" s_reduced f fd) (C_greatest_divisor : Cal P w K mg base 1 "greatest_divisor" ["one", "other"] [] (spW K (ar2 (NT.F_greatest_divisor ca)))) : FnOk P w K mg base CX0 2 f fd ["top", "bottom"] (spW K (ar2 (NT.F_reduced ca))) := by
  refine foW (k := 1) Fn sc_reduced (by decide) le_ar2 fun cdv A outer s H E hr => ⟨_, (pss_cons (ps_set (i := 2) sc_reduced.nd rfl (.inl rfl) (pe_cal C_greatest_divisor hr (by decide) (by rfl) (pa_cons (pv 0) (pa_cons (pv 1) pa_nil))))
      (pss_cons (ps_if (pt_cmpR op_lt (pv 1) pe_int (nomark _)) (pss_one (ps_set (i := 2) sc_reduced.nd rfl (.inl rfl) (pe_un un_neg (pv 2)))) pss_nil)
      (pss_one (ps_ret (pe_tup (pa_cons (pe_op op_fdivX (pv 0) (pv 2)) (pa_cons (pe_op op_fdivX (pv 1) (pv 2)) pa_nil))))))), fun as S Ψ Ξ h => ?_⟩
  obtain ⟨v1top, v2bottom, rfl, h⟩ := ar2_inv h
  exact ⟨NT.B_reduced ca v1top v2bottom, h,
  (gp_asg (p_call (fun _ => .nil) (v_cons (ep_var rfl) (v_cons (ep_var rfl) v_nil))) fun v3divisor =>
  (gp_seq (gp_if (pat := (fun v4s => [.val v1top, .val v2bottom, .val v4s])) (t_tst (p_op ow_lt (ep_var rfl) ep_int)) (g_last (fun v5s => v5s) (fun v5s => (by exact ⟨.inr rfl, ⟨.inr rfl, ⟨.inr rfl, trivial⟩⟩⟩)) (gp_asg1 (pat := (fun v5s => [.val v1top, .val v2bottom, .val v5s])) (f := fun a => a) (p_un uw_neg (ep_var rfl)) fun _ => rfl)) (gp_less (by exact ⟨.inr rfl, ⟨.inr rfl, ⟨.inr rfl, trivial⟩⟩⟩) (gp_next (s := v3divisor) rfl))) fun v4s =>
  (gp_ret (p_tup (v_cons (p_op ow_fdiv (ep_var rfl) (ep_var rfl)) (v_cons (p_op ow_fdiv (ep_var rfl) (ep_var rfl)) v_nil))))))⟩

abbrev s_fraction : Stmt := topS 9
theorem sc_fraction : FnScope ["top", "bottom"] ["top", "bottom"] (defScope s_fraction) := ⟨rfl, rfl, rfl, by decide +kernel, rfl, by decide +kernel, by decide +kernel⟩
theorem ok_fraction {P : Program} {w : World} {K : PySem.W.Frag} {mg : Str → Option Value} {base : Heap} {f : Addr} {fd : FuncData} {ca : Nat → Addr} (Fn : FunD K "fraction" "fraction" (defArgs s_fraction) (defBody s_fraction) (defScope s_fraction) [(.int 1)] [] f fd) (C_is_whole : Cal P w K mg base 1 "is_whole" ["thing"] [] (spW K (ar1 (NT.F_is_whole ca)))) (C_reduced : Cal P w K mg base 2 "reduced" ["top", "bottom"] [] (spW K (ar2 (NT.F_reduced ca)))) : FnOk P w K mg base CX0 3 f fd ["top", "bottom"] (spW K (ar2 (NT.F_fraction ca))) := by
  refine foWD (k := 2) Fn sc_fraction (by decide) le_ar2 fun cdv A outer s H E hr => ⟨_, (pss_cons (ps_if (PW.pt (pw_or (pt_not (pt_val (pe_cal C_is_whole hr (by decide) (by rfl) (pa_cons (pv 0) pa_nil)))) (pw_or (pt_not (pt_val (pe_cal C_is_whole hr (by decide) (by rfl) (pa_cons (pv 1) pa_nil)))) (pw_or1 (pt_cmpR (op_eqP (K := K) rfl hr.units) (pv 1) pe_int (nomark _)))))) (pss_one ps_any) pss_nil)
      (pss_one (ps_ret (pe_cal C_reduced hr (by decide) (by rfl) (pa_cons (pv 0) (pa_cons (pv 1) pa_nil)))))), fun as S Ψ Ξ h => ?_⟩
  obtain ⟨v1top, v2bottom, rfl, h⟩ := ar2_inv h
  exact ⟨NT.B_fraction ca v1top v2bottom, h,
  (gp_when (pe := fun s => s.elim) (t_orT (t_notT (t_tB (p_call (fun _ => .nil) (v_cons (ep_var rfl) v_nil)))) (t_orT (t_notT (t_tB (p_call (fun _ => .nil) (v_cons (ep_var rfl) v_nil)))) (t_tst (p_op ow_eq (ep_var rfl) ep_int)))) gp_no
  (gp_ret (p_call (fun _ => .nil) (v_cons (ep_var rfl) (v_cons (ep_var rfl) v_nil)))))⟩

abbrev s_plus : Stmt := topS 10
theorem sc_plus : FnScope ["one", "other"] ["one", "other"] (defScope s_plus) := ⟨rfl, rfl, rfl, by decide +kernel, rfl, by decide +kernel, by decide +kernel⟩
theorem ok_plus {P : Program} {w : World} {K : PySem.W.Frag} {mg : Str → Option Value} {base : Heap} {f : Addr} {fd : FuncData} {ca : Nat → Addr} (Fn : Fun K "plus" "plus" s_plus f fd) (C_reduced : Cal P w K mg base 2 "reduced" ["top", "bottom"] [] (spW K (ar2 (NT.F_reduced ca)))) : FnOk P w K mg base CX0 3 f fd ["one", "other"] (spW K (ar2 (NT.F_plus ca))) := by
  refine foW (k := 2) Fn sc_plus (by decide) le_ar2 fun cdv A outer s H E hr => ⟨_, (pss_one (ps_ret (pe_cal C_reduced hr (by decide) (by rfl) (pa_cons (pe_op op_addU (pe_op op_mulW (pe_ix (ix_U (K := K) rfl) (pv 0) pe_int (fun _ _ => rfl)) (pe_ix (ix_U (K := K) rfl) (pv 1) pe_int (fun _ _ => rfl))) (pe_op op_mulW (pe_ix (ix_U (K := K) rfl) (pv 1) pe_int (fun _ _ => rfl)) (pe_ix (ix_U (K := K) rfl) (pv 0) pe_int (fun _ _ => rfl)))) (pa_cons (pe_op op_mulW (pe_ix (ix_U (K := K) rfl) (pv 0) pe_int (fun _ _ => rfl)) (pe_ix (ix_U (K := K) rfl) (pv 1) pe_int (fun _ _ => rfl))) pa_nil))))), fun as S Ψ Ξ h => ?_⟩
  obtain ⟨v1one, v2other, rfl, h⟩ := ar2_inv h
  exact ⟨NT.B_plus ca v1one v2other, h,
  (gp_ret (p_call (fun _ => .nil) (v_cons (p_add (p_op ow_mul (p_op ow_ix (ep_var rfl) ep_int) (p_op ow_ix (ep_var rfl) ep_int)) (p_op ow_mul (p_op ow_ix (ep_var rfl) ep_int) (p_op ow_ix (ep_var rfl) ep_int))) (v_cons (p_op ow_mul (p_op ow_ix (ep_var rfl) ep_int) (p_op ow_ix (ep_var rfl) ep_int)) v_nil))))⟩

abbrev s_minus : Stmt := topS 11
theorem sc_minus : FnScope ["one", "other"] ["one", "other"] (defScope s_minus) := ⟨rfl, rfl, rfl, by decide +kernel, rfl, by decide +kernel, by decide +kernel⟩
theorem ok_minus {P : Program} {w : World} {K : PySem.W.Frag} {mg : Str → Option Value} {base : Heap} {f : Addr} {fd : FuncData} {ca : Nat → Addr} (Fn : Fun K "minus" "minus" s_minus f fd) (C_reduced : Cal P w K mg base 2 "reduced" ["top", "bottom"] [] (spW K (ar2 (NT.F_reduced ca)))) : FnOk P w K mg base CX0 3 f fd ["one", "other"] (spW K (ar2 (NT.F_minus ca))) := by
  refine foW (k := 2) Fn sc_minus (by decide) le_ar2 fun cdv A outer s H E hr => ⟨_, (pss_one (ps_ret (pe_cal C_reduced hr (by decide) (by rfl) (pa_cons (pe_op op_sub (pe_op op_mulW (pe_ix (ix_U (K := K) rfl) (pv 0) pe_int (fun _ _ => rfl)) (pe_ix (ix_U (K := K) rfl) (pv 1) pe_int (fun _ _ => rfl))) (pe_op op_mulW (pe_ix (ix_U (K := K) rfl) (pv 1) pe_int (fun _ _ => rfl)) (pe_ix (ix_U (K := K) rfl) (pv 0) pe_int (fun _ _ => rfl)))) (pa_cons (pe_op op_mulW (pe_ix (ix_U (K := K) rfl) (pv 0) pe_int (fun _ _ => rfl)) (pe_ix (ix_U (K := K) rfl) (pv 1) pe_int (fun _ _ => rfl))) pa_nil))))), fun as S Ψ Ξ h => ?_⟩
  obtain ⟨v1one, v2other, rfl, h⟩ := ar2_inv h
  exact ⟨NT.B_minus ca v1one v2other, h,
  (gp_ret (p_call (fun _ => .nil) (v_cons (p_op ow_sub (p_op ow_mul (p_op ow_ix (ep_var rfl) ep_int) (p_op ow_ix (ep_var rfl) ep_int)) (p_op ow_mul (p_op ow_ix (ep_var rfl) ep_int) (p_op ow_ix (ep_var rfl) ep_int))) (v_cons (p_op ow_mul (p_op ow_ix (ep_var rfl) ep_int) (p_op ow_ix (ep_var rfl) ep_int)) v_nil))))⟩

abbrev s_times : Stmt := topS 12
theorem sc_times : FnScope ["one", "other"] ["one", "other"] (defScope s_times) := ⟨rfl, rfl, rfl, by decide +kernel, rfl, by decide +kernel, by decide +kernel⟩
theorem ok_times {P : Program} {w : World} {K : PySem.W.Frag} {mg : Str → Option Value} {base : Heap} {f : Addr} {fd : FuncData} {ca : Nat → Addr} (Fn : Fun K "times" "times" s_times f fd) (C_reduced : Cal P w K mg base 2 "reduced" ["top", "bottom"] [] (spW K (ar2 (NT.F_reduced ca)))) : FnOk P w K mg base CX0 3 f fd ["one", "other"] (spW K (ar2 (NT.F_times ca))) := by
  refine foW (k := 2) Fn sc_times (by decide) le_ar2 fun cdv A outer s H E hr => ⟨_, (pss_one (ps_ret (pe_cal C_reduced hr (by decide) (by rfl) (pa_cons (pe_op op_mulW (pe_ix (ix_U (K := K) rfl) (pv 0) pe_int (fun _ _ => rfl)) (pe_ix (ix_U (K := K) rfl) (pv 1) pe_int (fun _ _ => rfl))) (pa_cons (pe_op op_mulW (pe_ix (ix_U (K := K) rfl) (pv 0) pe_int (fun _ _ => rfl)) (pe_ix (ix_U (K := K) rfl) (pv 1) pe_int (fun _ _ => rfl))) pa_nil))))), fun as S Ψ Ξ h => ?_⟩
  obtain ⟨v1one, v2other, rfl, h⟩ := ar2_inv h
  exact ⟨NT.B_times ca v1one v2other, h,
  (gp_ret (p_call (fun _ => .nil) (v_cons (p_op ow_mul (p_op ow_ix (ep_var rfl) ep_int) (p_op ow_ix (ep_var rfl) ep_int)) (v_cons (p_op ow_mul (p_op ow_ix (ep_var rfl) ep_int) (p_op ow_ix (ep_var rfl) ep_int)) v_nil))))⟩

abbrev s_over : Stmt := topS 13
theorem sc_over : FnScope ["one", "other"] ["one", "other"] (defScope s_over) := ⟨rfl, rfl, rfl, by decide +kernel, rfl, by decide +kernel, by decide +kernel⟩
theorem ok_over {P : Program} {w : World} {K : PySem.W.Frag} {mg : Str → Option Value} {base : Heap} {f : Addr} {fd : FuncData} {ca : Nat → Addr} (Fn : Fun K "over" "over" s_over f fd) (C_reduced : Cal P w K mg base 2 "reduced" ["top", "bottom"] [] (spW K (ar2 (NT.F_reduced ca)))) : FnOk P w K mg base CX0 3 f fd ["one", "other"] (spW K (ar2 (NT.F_over ca))) := by
  refine foW (k := 2) Fn sc_over (by decide) le_ar2 fun cdv A outer s H E hr => ⟨_, (pss_cons (ps_if (pt_cmpR (op_eqP (K := K) rfl hr.units) (pe_ix (ix_U (K := K) rfl) (pv 1) pe_int (fun _ _ => rfl)) pe_int (nomark _)) (pss_one ps_any) pss_nil)
      (pss_one (ps_ret (pe_cal C_reduced hr (by decide) (by rfl) (pa_cons (pe_op op_mulW (pe_ix (ix_U (K := K) rfl) (pv 0) pe_int (fun _ _ => rfl)) (pe_ix (ix_U (K := K) rfl) (pv 1) pe_int (fun _ _ => rfl))) (pa_cons (pe_op op_mulW (pe_ix (ix_U (K := K) rfl) (pv 0) pe_int (fun _ _ => rfl)) (pe_ix (ix_U (K := K) rfl) (pv 1) pe_int (fun _ _ => rfl))) pa_nil)))))), fun as S Ψ Ξ h => ?_⟩
  obtain ⟨v1one, v2other, rfl, h⟩ := ar2_inv h
  exact ⟨NT.B_over ca v1one v2other, h,
  (gp_when (pe := fun s => s.elim) (t_tst (p_op ow_eq (p_op ow_ix (ep_var rfl) ep_int) ep_int)) gp_no
  (gp_ret (p_call (fun _ => .nil) (v_cons (p_op ow_mul (p_op ow_ix (ep_var rfl) ep_int) (p_op ow_ix (ep_var rfl) ep_int)) (v_cons (p_op ow_mul (p_op ow_ix (ep_var rfl) ep_int) (p_op ow_ix (ep_var rfl) ep_int)) v_nil)))))⟩

abbrev s_under : Stmt := topS 14
theorem sc_under : FnScope ["one", "other"] ["one", "other"] (defScope s_under) := ⟨rfl, rfl, rfl, by decide +kernel, rfl, by decide +kernel, by decide +kernel⟩
theorem ok_under {P : Program} {w : World} {K : PySem.W.Frag} {mg : Str → Option Value} {base : Heap} {f : Addr} {fd : FuncData} {ca : Nat → Addr} (Fn : Fun K "under" "under" s_under f fd)  : FnOk P w K mg base CX0 1 f fd ["one", "other"] (spW K (ar2 (NT.F_under ca))) := by
  refine foW (k := 0) Fn sc_under (by decide) le_ar2 fun cdv A outer s H E hr => ⟨_, (pss_one (ps_ret (pe_cmpR op_lt (pe_op op_mulW (pe_ix (ix_U (K := K) rfl) (pv 0) pe_int (fun _ _ => rfl)) (pe_ix (ix_U (K := K) rfl) (pv 1) pe_int (fun _ _ => rfl))) (pe_op op_mulW (pe_ix (ix_U (K := K) rfl) (pv 1) pe_int (fun _ _ => rfl)) (pe_ix (ix_U (K := K) rfl) (pv 0) pe_int (fun _ _ => rfl))) (nomark _)))), fun as S Ψ Ξ h => ?_⟩
  obtain ⟨v1one, v2other, rfl, h⟩ := ar2_inv h
  exact ⟨NT.B_under ca v1one v2other, h,
  (gp_ret (p_op ow_lt (p_op ow_mul (p_op ow_ix (ep_var rfl) ep_int) (p_op ow_ix (ep_var rfl) ep_int)) (p_op ow_mul (p_op ow_ix (ep_var rfl) ep_int) (p_op ow_ix (ep_var rfl) ep_int))))⟩

abbrev s_apart : Stmt := topS 15
theorem sc_apart : FnScope ["one", "other"] ["one", "other"] (defScope s_apart) := ⟨rfl, rfl, rfl, by decide +kernel, rfl, by decide +kernel, by decide +kernel⟩
theorem ok_apart {P : Program} {w : World} {K : PySem.W.Frag} {mg : Str → Option Value} {base : Heap} {f : Addr} {fd : FuncData} {ca : Nat → Addr} (Fn : Fun K "apart" "apart" s_apart f fd) (C_minus : Cal P w K mg base 3 "minus" ["one", "other"] [] (spW K (ar2 (NT.F_minus ca)))) (C_under : Cal P w K mg base 1 "under" ["one", "other"] [] (spW K (ar2 (NT.F_under ca)))) : FnOk P w K mg base CX0 4 f fd ["one", "other"] (spW K (ar2 (NT.F_apart ca))) := by
  refine foW (k := 3) Fn sc_apart (by decide) le_ar2 fun cdv A outer s H E hr => ⟨_, (pss_cons (ps_if (pt_val (pe_cal C_under hr (by decide) (by rfl) (pa_cons (pv 0) (pa_cons (pv 1) pa_nil)))) (pss_one (ps_ret (pe_cal C_minus hr (by decide) (by rfl) (pa_cons (pv 1) (pa_cons (pv 0) pa_nil))))) pss_nil)
      (pss_one (ps_ret (pe_cal C_minus hr (by decide) (by rfl) (pa_cons (pv 0) (pa_cons (pv 1) pa_nil)))))), fun as S Ψ Ξ h => ?_⟩
  obtain ⟨v1one, v2other, rfl, h⟩ := ar2_inv h
  exact ⟨NT.B_apart ca v1one v2other, h,
  (gp_when (pe := fun s => s.elim) (t_tB (p_call (fun _ => .nil) (v_cons (ep_var rfl) (v_cons (ep_var rfl) v_nil)))) (gp_ret (p_call (fun _ => .nil) (v_cons (ep_var rfl) (v_cons (ep_var rfl) v_nil))))
  (gp_ret (p_call (fun _ => .nil) (v_cons (ep_var rfl) (v_cons (ep_var rfl) v_nil)))))⟩

abbrev s_common : Stmt := topS 16
theorem sc_common : FnScope ["some", "bottom", "each"] ["some"] (defScope s_common) := ⟨rfl, rfl, rfl, by decide +kernel, rfl, by decide +kernel, by decide +kernel⟩
theorem ok_common {P : Program} {w : World} {K : PySem.W.Frag} {mg : Str → Option Value} {base : Heap} {f : Addr} {fd : FuncData} {ca : Nat → Addr} (Fn : Fun K "common" "common" s_common f fd) (C_greatest_divisor : Cal P w K mg base 1 "greatest_divisor" ["one", "other"] [] (spW K (ar2 (NT.F_greatest_divisor ca)))) : FnOk P w K mg base CX0 2 f fd ["some"] (spW K (ar1 (NT.F_common ca))) := by
  refine foW (k := 1) Fn sc_common (by decide) le_ar1 fun cdv A outer s H E hr => ⟨_, (pss_cons (ps_set (i := 1) sc_common.nd rfl (.inr rfl) pe_int)
      (pss_cons (ps_for PassesOwn.never rfl (pi_listK (K := K) rfl (pv 0)) (pg_name (i := 2) sc_common.nd rfl (.inl rfl)) (pss_one (ps_set (i := 1) sc_common.nd rfl (.inr rfl) (pe_op op_mulW (pv 1) (pe_op op_fdivX (pe_ix (ix_U (K := K) rfl) (pv 2) pe_int (fun _ _ => rfl)) (pe_cal C_greatest_divisor hr (by decide) (by rfl) (pa_cons (pv 1) (pa_cons (pe_ix (ix_U (K := K) rfl) (pv 2) pe_int (fun _ _ => rfl)) pa_nil))))))))
      (pss_one (ps_ret (pe_tup (pa_cons (pe_lc (own := [("each", 2)]) (by rfl) sc_common.nd (pi_listK (K := K) rfl (pv 0)) (blkOk_by (own := [("each", 2)]) (N := ["some", "bottom", "each"]) (sc := defScope s_common) (by decide +kernel)) (fun _ _ _ _ _ => (pg_name (i := 2) sc_common.nd rfl (.inl rfl))) (fun _ _ _ _ _ => pts_nil) (fun _ _ _ _ _ => (pe_op op_mulW (pe_ix (ix_U (K := K) rfl) (pv 2) pe_int (fun _ _ => rfl)) (pe_op op_fdivX (pv 1) (pe_ix (ix_U (K := K) rfl) (pv 2) pe_int (fun _ _ => rfl)))))) (pa_cons (pv 1) pa_nil))))))), fun as S Ψ Ξ h => ?_⟩
  obtain ⟨v1some, rfl, h⟩ := ar1_inv h
  exact ⟨NT.B_common ca v1some, h,
  (gp_asg ep_int fun v2bottom =>
  (gp_seq (gp_for (pat := (fun v3s => [.val v1some, .val v3s, .un])) (s0 := v2bottom) (w_list (ep_var rfl)) tg_name (by exact ⟨.inr rfl, ⟨.inr rfl, ⟨.inl rfl, trivial⟩⟩⟩) (fun v5x v4s => ⟨rfl,
  (g_last (fun v6s => v6s) (fun v6s => (by exact ⟨.inr rfl, ⟨.inr rfl, ⟨.inl rfl, trivial⟩⟩⟩)) (gp_asg1 (pat := (fun v6s => [.val v1some, .val v6s, .val v5x])) (f := fun a => a) (p_op ow_mul (ep_var rfl) (p_op ow_fdiv (p_op ow_ix (ep_var rfl) ep_int) (p_call (fun _ => .nil) (v_cons (ep_var rfl) (v_cons (p_op ow_ix (ep_var rfl) ep_int) v_nil))))) fun _ => rfl))⟩)) fun v3s =>
  (gp_ret (p_tup (v_cons (p_set (o_lc (Z' := fun _ _ _ _ => False) (w_list (ep_var rfl)) tg_name (fun v9x => ⟨rfl, t_yes, (p_op ow_mul (p_op ow_ix (ep_var rfl) ep_int) (p_op ow_fdiv (ep_var rfl) (p_op ow_ix (ep_var rfl) ep_int)))⟩))) (v_cons (ep_var rfl) v_nil))))))⟩

abbrev s_total : Stmt := topS 17
theorem sc_total : FnScope ["some", "start", "tops", "bottom"] ["some", "start"] (defScope s_total) := ⟨rfl, rfl, rfl, by decide +kernel, rfl, by decide +kernel, by decide +kernel⟩
theorem ok_total {P : Program} {w : World} {K : PySem.W.Frag} {mg : Str → Option Value} {base : Heap} {f : Addr} {fd : FuncData} {ca : Nat → Addr} (Fn : FunD K "total" "total" (defArgs s_total) (defBody s_total) (defScope s_total) [.non] [] f fd) (n_list : mg "list" = none) (n_sum : mg "sum" = none) (C_common : Cal P w K mg base 2 "common" ["some"] [] (spW K (ar1 (NT.F_common ca)))) (C_reduced : Cal P w K mg base 2 "reduced" ["top", "bottom"] [] (spW K (ar2 (NT.F_reduced ca)))) : FnOk P w K mg base CX0 3 f fd ["some", "start"] (spW K (ar2 (NT.F_total ca))) := by
  refine foWD (k := 2) Fn sc_total (by decide) le_ar2 fun cdv A outer s H E hr => ⟨_, (pss_cons (ps_asg (pe_cal C_common hr (by decide) (by rfl) (pa_cons (pe_ifExp (pt_cmpR op_isN (pv 1) pe_non (nomark _)) (pe_callTy (call_listK (K := K) rfl) (by rfl) n_list PyProof.Rows.boot_list (pa_cons (pv 0) pa_nil)) (pe_op op_addU (pe_lst (pa_cons (pv 1) pa_nil)) (pe_callTy (call_listK (K := K) rfl) (by rfl) n_list PyProof.Rows.boot_list (pa_cons (pv 0) pa_nil)))) pa_nil)) (pg_tupK (K := K) (n := 2) rfl rfl (pgs_cons (pg_name (i := 2) sc_total.nd rfl (.inl rfl)) (pgs_cons (pg_name (i := 3) sc_total.nd rfl (.inl rfl)) pgs_nil))))
      (pss_one (ps_ret (pe_cal C_reduced hr (by decide) (by rfl) (pa_cons (pe_callB (cr_sumP (K := K) rfl rfl) (by rfl) n_sum PyProof.Rows.boot_sum (pa_cons (pv 2) pa_nil)) (pa_cons (pv 3) pa_nil)))))), fun as S Ψ Ξ h => ?_⟩
  obtain ⟨v1some, v2start, rfl, h⟩ := ar2_inv h
  exact ⟨NT.B_total ca v1some v2start, h,
  (gp_unpack (p_call (fun _ => .nil) (v_cons (p_if (t_tst (p_op ow_is (ep_var rfl) ep_non)) (p_set (o_cb cm_list (v_cons (ep_var rfl) v_nil))) (p_add (p_set (o_lst (v_cons (ep_var rfl) v_nil))) (p_set (o_cb cm_list (v_cons (ep_var rfl) v_nil))))) v_nil)) (tg_tup2 tg_name tg_name) fun v3x => ⟨rfl,
  (gp_ret (p_call (fun _ => .nil) (v_cons (p_cb cw_sum (v_cons (ep_var rfl) v_nil)) (v_cons (ep_var rfl) v_nil))))⟩)⟩

abbrev s__law_one : Stmt := topS 21
theorem sc__law_one : FnScope ["_law_state", "_law_most"] ["_law_state"] (defScope s__law_one) := ⟨rfl, rfl, rfl, by decide +kernel, rfl, by decide +kernel, by decide +kernel⟩
theorem ok__law_one {P : Program} {w : World} {K : PySem.W.Frag} {mg : Str → Option Value} {base : Heap} {f : Addr} {fd : FuncData} {ca : Nat → Addr} (Fn : Fun K "_law_one" "_law_one" s__law_one f fd) (C__law_take : Cal P w K mg base 1 "_law_take" ["_law_state", "_law_many"] [] (spW K (ar2 SL.takeW))) (C_fraction2 : Cal P w K mg base 3 "fraction" ["top", "bottom"] [] (spW K (ar2 (NT.F_fraction ca)))) : FnOk P w K mg base CX0 4 f fd ["_law_state"] (spW K (ar1 (F__law_one ca))) := by
  refine foW (k := 3) Fn sc__law_one (by decide) le_ar1 fun cdv A outer s H E hr => ⟨_, (pss_cons (ps_set (i := 1) sc__law_one.nd rfl (.inl rfl) (pe_ix (ix_U (K := K) rfl) (pe_lst (pa_cons pe_int (pa_cons pe_int (pa_cons pe_int (pa_cons (pe_op op_pow pe_int pe_int) pa_nil))))) (pe_cal C__law_take hr (by decide) (by rfl) (pa_cons (pv 0) (pa_cons pe_int pa_nil))) (fun _ _ => rfl)))
      (pss_one (ps_ret (pe_cal C_fraction2 hr (by decide) (by rfl) (pa_cons (pe_op op_mulW (pe_cal C__law_take hr (by decide) (by rfl) (pa_cons (pv 0) (pa_cons (pv 1) pa_nil))) (pe_ix (ix_U (K := K) rfl) (pe_lst (pa_cons pe_int (pa_cons pe_int (pa_cons (pe_un un_neg pe_int) pa_nil)))) (pe_cal C__law_take hr (by decide) (by rfl) (pa_cons (pv 0) (pa_cons pe_int pa_nil))) (fun _ _ => rfl))) (pa_cons (pe_op op_addU pe_int (pe_cal C__law_take hr (by decide) (by rfl) (pa_cons (pv 0) (pa_cons (pv 1) pa_nil)))) pa_nil)))))), fun as S Ψ Ξ h => ?_⟩
  obtain ⟨v1state, rfl, h⟩ := ar1_inv h
  exact ⟨B__law_one ca v1state, h,
  (gp_asg (p_op ow_ix (p_set (o_lst (v_cons ep_int (v_cons ep_int (v_cons ep_int (v_cons (p_op ow_pow ep_int ep_int) v_nil)))))) (p_call (fun _ => .nil) (v_cons (ep_var rfl) (v_cons ep_int v_nil)))) fun v2most =>
  (gp_ret (p_call (fun _ => .nil) (v_cons (p_op ow_mul (p_call (fun _ => .nil) (v_cons (ep_var rfl) (v_cons (ep_var rfl) v_nil))) (p_op ow_ix (p_set (o_lst (v_cons ep_int (v_cons ep_int (v_cons (p_un uw_neg ep_int) v_nil))))) (p_call (fun _ => .nil) (v_cons (ep_var rfl) (v_cons ep_int v_nil))))) (v_cons (p_add ep_int (p_call (fun _ => .nil) (v_cons (ep_var rfl) (v_cons (ep_var rfl) v_nil)))) v_nil)))))⟩

abbrev s__law_right : Stmt := topS 22
theorem sc__law_right : FnScope ["_law_one_here", "_law_other", "_law_third", "_law_both", "_law_far"] ["_law_one_here", "_law_other", "_law_third"] (defScope s__law_right) := ⟨rfl, rfl, rfl, by decide +kernel, rfl, by decide +kernel, by decide +kernel⟩
theorem ok__law_right {P : Program} {w : World} {K : PySem.W.Frag} {mg : Str → Option Value} {base : Heap} {f : Addr} {fd : FuncData} {ca : Nat → Addr} (Fn : Fun K "_law_right" "_law_right" s__law_right f fd) (C_apart : Cal P w K mg base 4 "apart" ["one", "other"] [] (spW K (ar2 (NT.F_apart ca)))) (C_is_fraction : Cal P w K mg base 2 "is_fraction" ["thing"] [] (spW K (ar1 (NT.F_is_fraction ca)))) (C_minus : Cal P w K mg base 3 "minus" ["one", "other"] [] (spW K (ar2 (NT.F_minus ca)))) (C_over : Cal P w K mg base 3 "over" ["one", "other"] [] (spW K (ar2 (NT.F_over ca)))) (C_plus : Cal P w K mg base 3 "plus" ["one", "other"] [] (spW K (ar2 (NT.F_plus ca)))) (C_times : Cal P w K mg base 3 "times" ["one", "other"] [] (spW K (ar2 (NT.F_times ca)))) (C_total1 : Cal P w K mg base 3 "total" ["some", "start"] [.non] (spW K (ar2 (NT.F_total ca)))) (C_under : Cal P w K mg base 1 "under" ["one", "other"] [] (spW K (ar2 (NT.F_under ca)))) : FnOk P w K mg base CX0 5 f fd ["_law_one_here", "_law_other", "_law_third"] (spW K (ar3 (F__law_right ca))) := by
  refine foW (k := 4) Fn sc__law_right (by decide) le_ar3 fun cdv A outer s H E hr => ⟨_, (pss_cons (ps_set (i := 3) sc__law_right.nd rfl (.inl rfl) (pe_cal C_plus hr (by decide) (by rfl) (pa_cons (pv 0) (pa_cons (pv 1) pa_nil))))
      (pss_cons (ps_if (PW.pt (pw_or (pt_cmpR (op_neP (K := K) rfl hr.units) (pe_cal C_minus hr (by decide) (by rfl) (pa_cons (pv 3) (pa_cons (pv 1) pa_nil))) (pv 0) (nomark _)) (pw_or1 (pt_cmpR (op_neP (K := K) rfl hr.units) (pe_cal C_plus hr (by decide) (by rfl) (pa_cons (pv 1) (pa_cons (pv 0) pa_nil))) (pv 3) (nomark _))))) (pss_one (ps_ret pe_bl)) pss_nil)
      (pss_cons (ps_if (pt_cmpR (op_neP (K := K) rfl hr.units) (pe_cal C_total1 hr (by decide) (by rfl) (pa_cons (pe_lst (pa_cons (pv 0) (pa_cons (pv 1) (pa_cons (pv 2) pa_nil)))) pa_nil)) (pe_cal C_plus hr (by decide) (by rfl) (pa_cons (pv 3) (pa_cons (pv 2) pa_nil))) (nomark _)) (pss_one (ps_ret pe_bl)) pss_nil)
      (pss_cons (ps_if (pt_cmpR (op_neP (K := K) rfl hr.units) (pe_cal C_plus hr (by decide) (by rfl) (pa_cons (pv 0) (pa_cons (pe_cal C_plus hr (by decide) (by rfl) (pa_cons (pv 1) (pa_cons (pv 2) pa_nil))) pa_nil))) (pe_cal C_plus hr (by decide) (by rfl) (pa_cons (pv 3) (pa_cons (pv 2) pa_nil))) (nomark _)) (pss_one (ps_ret pe_bl)) pss_nil)
      (pss_cons (ps_if (pt_cmpR (op_neP (K := K) rfl hr.units) (pe_cal C_times hr (by decide) (by rfl) (pa_cons (pe_cal C_times hr (by decide) (by rfl) (pa_cons (pv 0) (pa_cons (pv 1) pa_nil))) (pa_cons (pv 2) pa_nil))) (pe_cal C_times hr (by decide) (by rfl) (pa_cons (pv 0) (pa_cons (pe_cal C_times hr (by decide) (by rfl) (pa_cons (pv 2) (pa_cons (pv 1) pa_nil))) pa_nil))) (nomark _)) (pss_one (ps_ret pe_bl)) pss_nil)
      (pss_cons (ps_if (pt_cmpR (op_neP (K := K) rfl hr.units) (pe_cal C_times hr (by decide) (by rfl) (pa_cons (pv 3) (pa_cons (pv 2) pa_nil))) (pe_cal C_plus hr (by decide) (by rfl) (pa_cons (pe_cal C_times hr (by decide) (by rfl) (pa_cons (pv 0) (pa_cons (pv 2) pa_nil))) (pa_cons (pe_cal C_times hr (by decide) (by rfl) (pa_cons (pv 1) (pa_cons (pv 2) pa_nil))) pa_nil))) (nomark _)) (pss_one (ps_ret pe_bl)) pss_nil)
      (pss_cons (ps_if (pt_cmpR (op_neP (K := K) rfl hr.units) (pe_cal C_times hr (by decide) (by rfl) (pa_cons (pv 0) (pa_cons (pv 1) pa_nil))) (pe_cal C_times hr (by decide) (by rfl) (pa_cons (pv 1) (pa_cons (pv 0) pa_nil))) (nomark _)) (pss_one (ps_ret pe_bl)) pss_nil)
      (pss_cons (ps_if (PW.pt (pw_and (pt_cmpR (op_neP (K := K) rfl hr.units) (pe_ix (ix_U (K := K) rfl) (pv 2) pe_int (fun _ _ => rfl)) pe_int (nomark _)) (pw_and1 (pt_cmpR (op_neP (K := K) rfl hr.units) (pe_cal C_over hr (by decide) (by rfl) (pa_cons (pe_cal C_times hr (by decide) (by rfl) (pa_cons (pv 0) (pa_cons (pv 2) pa_nil))) (pa_cons (pv 2) pa_nil))) (pv 0) (nomark _))))) (pss_one (ps_ret pe_bl)) pss_nil)
      (pss_cons (ps_if (pt_cmpR (op_neP (K := K) rfl hr.units) (pe_bm PySem.F.plainAttrs_list PySem.F.slot_list_count PySem.F.type_list_count (mt_countK (K := K) rfl) (pe_lst (pa_cons (pe_cal C_under hr (by decide) (by rfl) (pa_cons (pv 0) (pa_cons (pv 1) pa_nil))) (pa_cons (pe_cmpR (op_eqP (K := K) rfl hr.units) (pv 0) (pv 1) (nomark _)) (pa_cons (pe_cal C_under hr (by decide) (by rfl) (pa_cons (pv 1) (pa_cons (pv 0) pa_nil))) pa_nil)))) (pa_cons pe_bl pa_nil)) pe_int (nomark _)) (pss_one (ps_ret pe_bl)) pss_nil)
      (pss_cons (ps_if (pt_not (pt_val (pe_cal C_is_fraction hr (by decide) (by rfl) (pa_cons (pv 3) pa_nil)))) (pss_one (ps_ret pe_bl)) pss_nil)
      (pss_cons (ps_set (i := 4) sc__law_right.nd rfl (.inl rfl) (pe_cal C_apart hr (by decide) (by rfl) (pa_cons (pv 0) (pa_cons (pv 1) pa_nil))))
      (pss_cons (ps_if (PW.pt (pw_or (pt_cmpR (op_neP (K := K) rfl hr.units) (pv 4) (pe_cal C_apart hr (by decide) (by rfl) (pa_cons (pv 1) (pa_cons (pv 0) pa_nil))) (nomark _)) (pw_or1 (pt_val (pe_cal C_under hr (by decide) (by rfl) (pa_cons (pe_cal C_plus hr (by decide) (by rfl) (pa_cons (pe_cal C_apart hr (by decide) (by rfl) (pa_cons (pv 0) (pa_cons (pv 2) pa_nil))) (pa_cons (pe_cal C_apart hr (by decide) (by rfl) (pa_cons (pv 2) (pa_cons (pv 1) pa_nil))) pa_nil))) (pa_cons (pv 4) pa_nil))))))) (pss_one (ps_ret pe_bl)) pss_nil)
      (pss_one (ps_ret (pe_and (pe_cmpR (op_eqP (K := K) rfl hr.units) (pe_cmpR (op_eqP (K := K) rfl hr.units) (pv 4) (pe_tup (pa_cons pe_int (pa_cons pe_int pa_nil))) (nomark _)) (pe_cmpR (op_eqP (K := K) rfl hr.units) (pv 0) (pv 1) (nomark _)) (nomark _)) (pe_one (pe_not (pe_cal C_under hr (by decide) (by rfl) (pa_cons (pv 4) (pa_cons (pe_tup (pa_cons pe_int (pa_cons pe_int pa_nil))) pa_nil)))))))))))))))))))), fun as S Ψ Ξ h => ?_⟩
  obtain ⟨v1onehere, v2other, v3third, rfl, h⟩ := ar3_inv h
  exact ⟨B__law_right ca v1onehere v2other v3third, h,
  (gp_asg (p_call (fun _ => .nil) (v_cons (ep_var rfl) (v_cons (ep_var rfl) v_nil))) fun v4both =>
  (gp_when (pe := fun s => s.elim) (t_orT (t_tst (p_op ow_ne (p_call (fun _ => .nil) (v_cons (ep_var rfl) (v_cons (ep_var rfl) v_nil))) (ep_var rfl))) (t_tst (p_op ow_ne (p_call (fun _ => .nil) (v_cons (ep_var rfl) (v_cons (ep_var rfl) v_nil))) (ep_var rfl)))) (gp_ret ep_bl)
  (gp_when (pe := fun s => s.elim) (t_tst (p_op ow_ne (p_call (fun _ => .cons rfl .nil) (v_cons (p_set (o_lst (v_cons (ep_var rfl) (v_cons (ep_var rfl) (v_cons (ep_var rfl) v_nil))))) v_nil)) (p_call (fun _ => .nil) (v_cons (ep_var rfl) (v_cons (ep_var rfl) v_nil))))) (gp_ret ep_bl)
  (gp_when (pe := fun s => s.elim) (t_tst (p_op ow_ne (p_call (fun _ => .nil) (v_cons (ep_var rfl) (v_cons (p_call (fun _ => .nil) (v_cons (ep_var rfl) (v_cons (ep_var rfl) v_nil))) v_nil))) (p_call (fun _ => .nil) (v_cons (ep_var rfl) (v_cons (ep_var rfl) v_nil))))) (gp_ret ep_bl)
  (gp_when (pe := fun s => s.elim) (t_tst (p_op ow_ne (p_call (fun _ => .nil) (v_cons (p_call (fun _ => .nil) (v_cons (ep_var rfl) (v_cons (ep_var rfl) v_nil))) (v_cons (ep_var rfl) v_nil))) (p_call (fun _ => .nil) (v_cons (ep_var rfl) (v_cons (p_call (fun _ => .nil) (v_cons (ep_var rfl) (v_cons (ep_var rfl) v_nil))) v_nil))))) (gp_ret ep_bl)
  (gp_when (pe := fun s => s.elim) (t_tst (p_op ow_ne (p_call (fun _ => .nil) (v_cons (ep_var rfl) (v_cons (ep_var rfl) v_nil))) (p_call (fun _ => .nil) (v_cons (p_call (fun _ => .nil) (v_cons (ep_var rfl) (v_cons (ep_var rfl) v_nil))) (v_cons (p_call (fun _ => .nil) (v_cons (ep_var rfl) (v_cons (ep_var rfl) v_nil))) v_nil))))) (gp_ret ep_bl)
  (gp_when (pe := fun s => s.elim) (t_tst (p_op ow_ne (p_call (fun _ => .nil) (v_cons (ep_var rfl) (v_cons (ep_var rfl) v_nil))) (p_call (fun _ => .nil) (v_cons (ep_var rfl) (v_cons (ep_var rfl) v_nil))))) (gp_ret ep_bl)
  (gp_when (pe := fun s => s.elim) (t_andT (t_tst (p_op ow_ne (p_op ow_ix (ep_var rfl) ep_int) ep_int)) (t_tst (p_op ow_ne (p_call (fun _ => .nil) (v_cons (p_call (fun _ => .nil) (v_cons (ep_var rfl) (v_cons (ep_var rfl) v_nil))) (v_cons (ep_var rfl) v_nil))) (ep_var rfl)))) (gp_ret ep_bl)
  (gp_when (pe := fun s => s.elim) (t_tst (p_op ow_ne (p_bm mw_count (p_set (o_lst (v_cons (p_call (fun _ => .nil) (v_cons (ep_var rfl) (v_cons (ep_var rfl) v_nil))) (v_cons (p_op ow_eq (ep_var rfl) (ep_var rfl)) (v_cons (p_call (fun _ => .nil) (v_cons (ep_var rfl) (v_cons (ep_var rfl) v_nil))) v_nil))))) (v_cons ep_bl v_nil)) ep_int)) (gp_ret ep_bl)
  (gp_when (pe := fun s => s.elim) (t_notT (t_tB (p_call (fun _ => .nil) (v_cons (ep_var rfl) v_nil)))) (gp_ret ep_bl)
  (gp_asg (p_call (fun _ => .nil) (v_cons (ep_var rfl) (v_cons (ep_var rfl) v_nil))) fun v14far =>
  (gp_when (pe := fun s => s.elim) (t_orT (t_tst (p_op ow_ne (ep_var rfl) (p_call (fun _ => .nil) (v_cons (ep_var rfl) (v_cons (ep_var rfl) v_nil))))) (t_tB (p_call (fun _ => .nil) (v_cons (p_call (fun _ => .nil) (v_cons (p_call (fun _ => .nil) (v_cons (ep_var rfl) (v_cons (ep_var rfl) v_nil))) (v_cons (p_call (fun _ => .nil) (v_cons (ep_var rfl) (v_cons (ep_var rfl) v_nil))) v_nil))) (v_cons (ep_var rfl) v_nil))))) (gp_ret ep_bl)
  (gp_ret (p_and (p_op ow_eq (p_op ow_eq (ep_var rfl) (p_tup (v_cons ep_int (v_cons ep_int v_nil)))) (p_op ow_eq (ep_var rfl) (ep_var rfl))) (p_not (p_call (fun _ => .nil) (v_cons (ep_var rfl) (v_cons (p_tup (v_cons ep_int (v_cons ep_int v_nil))) v_nil))))))))))))))))))⟩

abbrev s_law : Stmt := topS 23
theorem sc_law : FnScope ["_law_script", "_law_k", "_law_state", "_law_some", "_law_turn"] ["_law_script"] (defScope s_law) := ⟨rfl, rfl, rfl, by decide +kernel, rfl, by decide +kernel, by decide +kernel⟩
theorem ok_law {P : Program} {w : World} {K : PySem.W.Frag} {mg : Str → Option Value} {base : Heap} {f : Addr} {fd : FuncData} {ca : Nat → Addr} (Fn : Fun K "law" "law" s_law f fd) (n_len : mg "len" = none) (n_max : mg "max" = none) (n_min : mg "min" = none) (n_range : mg "range" = none) (C__law_begun : Cal P w K mg base 1 "_law_begun" ["_law_script", "_law_k"] [] (spW K (ar2 SL.begunW))) (C__law_one : Cal P w K mg base 4 "_law_one" ["_law_state"] [] (spW K (ar1 (F__law_one ca)))) (C__law_right : Cal P w K mg base 5 "_law_right" ["_law_one_here", "_law_other", "_law_third"] [] (spW K (ar3 (F__law_right ca)))) (C__law_take : Cal P w K mg base 1 "_law_take" ["_law_state", "_law_many"] [] (spW K (ar2 SL.takeW))) : FnOk P w K mg base CX0 6 f fd ["_law_script"] (spW K (ar1 (F_law ca))) := by
  refine foW (k := 5) Fn sc_law (by decide) le_ar1 fun cdv A outer s H E hr => ⟨_, (pss_cons (ps_for PassesOwn.never rfl (pi_range1 (by rfl) n_range (pa_cons (pe_callB (call_max2 rfl) (by rfl) n_max PyProof.Rows.boot_max (pa_cons pe_int (pa_cons (pe_callB (call_min2 rfl) (by rfl) n_min PyProof.Rows.boot_min (pa_cons pe_int (pa_cons (pe_callB (call_lenU (K := K) rfl) (by rfl) n_len PySem.boot_len (pa_cons (pv 0) pa_nil)) pa_nil))) pa_nil))) pa_nil)) (pg_name (i := 1) sc_law.nd rfl (.inl rfl)) (pss_cons (ps_set (i := 2) sc_law.nd rfl (.inr rfl) (pe_cal C__law_begun hr (by decide) (by rfl) (pa_cons (pv 0) (pa_cons (pv 1) pa_nil))))
      (pss_cons (ps_setLc (i := 3) (own := [("_law_turn", 4)]) (by rfl) sc_law.nd rfl rfl (sw_true rfl rfl rfl (by decide +kernel)) (pi_range1 (by rfl) n_range (pa_cons pe_int pa_nil)) (blkOk_by (own := [("_law_turn", 4)]) (N := ["_law_script", "_law_k", "_law_state", "_law_some", "_law_turn"]) (sc := defScope s_law) (by decide +kernel)) (fun _ _ _ _ _ => (pg_name (i := 4) sc_law.nd rfl (.inl rfl))) (fun _ _ _ _ _ => pts_nil) (fun _ _ _ _ _ => (pe_cal C__law_one hr (by decide) (by rfl) (pa_cons (pv 2) pa_nil))))
      (pss_cons (ps_if (pt_cmpR (op_eqP (K := K) rfl hr.units) (pe_cal C__law_take hr (by decide) (by rfl) (pa_cons (pv 2) (pa_cons pe_int pa_nil))) pe_int (nomark _)) (pss_one (ps_asg (pe_ix (ix_U (K := K) rfl) (pv 3) pe_int (fun _ _ => rfl)) (pg_sub (pv 3) pe_int set_list))) pss_nil)
      (pss_one (ps_if (PW.pt (pw_or (pt_not (pt_val (pe_cal C__law_right hr (by decide) (by rfl) (pa_cons (pe_ix (ix_U (K := K) rfl) (pv 3) pe_int (fun _ _ => rfl)) (pa_cons (pe_ix (ix_U (K := K) rfl) (pv 3) pe_int (fun _ _ => rfl)) (pa_cons (pe_ix (ix_U (K := K) rfl) (pv 3) pe_int (fun _ _ => rfl)) pa_nil)))))) (pw_or1 (pt_not (pt_val (pe_cal C__law_right hr (by decide) (by rfl) (pa_cons (pe_ix (ix_U (K := K) rfl) (pv 3) pe_int (fun _ _ => rfl)) (pa_cons (pe_ix (ix_U (K := K) rfl) (pv 3) pe_int (fun _ _ => rfl)) (pa_cons (pe_ix (ix_U (K := K) rfl) (pv 3) pe_int (fun _ _ => rfl)) pa_nil))))))))) (pss_one (ps_ret pe_bl)) pss_nil))))))
      (pss_one (ps_ret pe_bl))), fun as S Ψ Ξ h => ?_⟩
  obtain ⟨v1script, rfl, h⟩ := ar1_inv h
  exact ⟨B_law ca v1script, h,
  (gp_seq (gp_for (pat := (fun (_ : Unit) => [.val v1script, .un, .un, .un, .un])) (s0 := ()) (w_range (v_cons (p_cb cw_max2 (v_cons ep_int (v_cons (p_cb cw_min2 (v_cons ep_int (v_cons (p_cb cw_len (v_cons (ep_var rfl) v_nil)) v_nil))) v_nil))) v_nil)) tg_name (by exact ⟨.inr rfl, ⟨.inl rfl, ⟨.inl rfl, ⟨.inl rfl, ⟨.inl rfl, trivial⟩⟩⟩⟩⟩) (fun v4x v3s => ⟨rfl,
  (gp_asg (p_bag3 (o_call (fun _ => .nil) (v_cons (ep_var rfl) (v_cons (ep_var rfl) v_nil)))) fun v5state =>
  (gp_own (o_lc (Z' := fun _ _ _ _ => False) (w_range (v_cons ep_int v_nil)) tg_name (fun v7x => ⟨rfl, t_yes, (p_call (fun _ => .nil) (v_cons (ep_var rfl) v_nil))⟩)) fun v6some =>
  (gp_seq (gp_if (pat := (fun v8s => [.val v1script, .val v4x, .val v5state, .own v8s, .un])) (t_tst (p_op ow_eq (p_call (fun _ => .nil) (v_cons (ep_var rfl) (v_cons ep_int v_nil))) ep_int)) (g_last (fun v9s => v9s) (fun v9s => (by exact ⟨.inr rfl, ⟨.inr rfl, ⟨.inr rfl, ⟨.inr rfl, ⟨.inl rfl, trivial⟩⟩⟩⟩⟩)) (gp_item1 (pat := (fun v9s => [.val v1script, .val v4x, .val v5state, .own v9s, .un])) (f := fun a => a) rfl (p_lend (i := 3) rfl (p_op ow_ix (ep_var rfl) ep_int)) ep_int fun _ => rfl)) (gp_less (by exact ⟨.inr rfl, ⟨.inr rfl, ⟨.inr rfl, ⟨.inr rfl, ⟨.inl rfl, trivial⟩⟩⟩⟩⟩) (gp_next (s := v6some) rfl))) fun v8s =>
  (g_last (fun _ => ()) (fun _ => (by exact ⟨.inr rfl, ⟨.inl rfl, ⟨.inl rfl, ⟨.inl rfl, ⟨.inl rfl, trivial⟩⟩⟩⟩⟩)) (gp_if (pat := (fun (_ : Unit) => [.val v1script, .val v4x, .val v5state, .own v8s, .un])) (t_orT (t_notT (t_tB (p_call (fun _ => .nil) (v_cons (p_lend (i := 3) rfl (p_op ow_ix (ep_var rfl) ep_int)) (v_cons (p_lend (i := 3) rfl (p_op ow_ix (ep_var rfl) ep_int)) (v_cons (p_lend (i := 3) rfl (p_op ow_ix (ep_var rfl) ep_int)) v_nil)))))) (t_notT (t_tB (p_call (fun _ => .nil) (v_cons (p_lend (i := 3) rfl (p_op ow_ix (ep_var rfl) ep_int)) (v_cons (p_lend (i := 3) rfl (p_op ow_ix (ep_var rfl) ep_int)) (v_cons (p_lend (i := 3) rfl (p_op ow_ix (ep_var rfl) ep_int)) v_nil))))))) (gp_ret ep_bl) (gp_less (by exact ⟨.inr rfl, ⟨.inr rfl, ⟨.inr rfl, ⟨.inr rfl, ⟨.inl rfl, trivial⟩⟩⟩⟩⟩) (gp_next (s := ()) rfl)))))))⟩)) fun _ =>
  (gp_ret ep_bl))⟩
end B04

namespace NT
open PySem SL NF
/-! ### whole numbers, divisors, fractions: what the functions tell -/
variable {ca : Nat → Addr}
/-- a fraction as a value -/
abbrev fr (x : Rat) : PV := .tup [.int x.num, .int x.den]
def isI : PV → Bool
  | .int _ => true
  | _ => false
theorem whole_eq (a : PV) (h : tyN a ≠ none) : F_is_whole ca a = ret (.v (.bl (isI a))) := by
  unfold F_is_whole B_is_whole
  simp only [r_op1, isi_int a h, isi_bool a h, r_lift, r_notV]
  cases a <;> simp [isI]
theorem gcd_loop (n : Nat) : ∀ a b : Int, b.natAbs = n → ∃ g : Int, g.natAbs = Int.gcd a b ∧ W_greatest_divisor_1 ca (.int a, .int b) = ret (.nx (.int g, .int 0)) := by
  induction n using Nat.strongRecOn with
  | _ n ih =>
    intro a b hb
    unfold W_greatest_divisor_1
    by_cases c : b = 0
    · subst c
      exact ⟨a, by simp, while_no (by simp)⟩
    · obtain ⟨h1, h2⟩ := NF.gcd_step (a := a) (b := b) c
      obtain ⟨g, hg, e⟩ := ih _ (by omega) b (a.fmod b) rfl
      refine ⟨g, by rw [hg, h1], ?_⟩
      rw [while_go (s' := (.int b, .int (a.fmod b))) (by simp [c]) (by simp [r_modI c, two])]
      exact e
theorem gcd_eq (a b : Int) : F_greatest_divisor ca (.int a) (.int b) = ret (.v (.int (Int.gcd a b))) := by
  obtain ⟨g, hg, e⟩ := gcd_loop (ca := ca) _ a b rfl
  unfold F_greatest_divisor B_greatest_divisor
  rw [e]
  simp only [r_bindF_nx, r_vnil, r_vcons, r_cb, r_absI, r_lift, r_bind, r_runF_rt]
  congr 3
  split <;> omega
theorem fdiv_ok {a b : Int} {B : Nat} (h : b ≠ 0) (hb : b.natAbs < 2 ^ B) (h0 : 0 < B) (h9 : B ≤ 9000) : fdivF (.int a) (.int b) = some (.int (a.fdiv b)) := r_fdivI h (Nat.lt_of_lt_of_le (PySem.Flt.log2_lt_of h0 hb) h9)
theorem mul_ok {a b : Int} {A B : Nat} (ha : a.natAbs < 2 ^ A) (hb : b.natAbs < 2 ^ B) (hA : 0 < A) (hB : 0 < B) (h : A + B ≤ 1000000) : mulF (.int a) (.int b) = some (.int (a * b)) := r_mulI (by
  have h1 := PySem.Flt.log2_lt_of hA ha
  have h2 := PySem.Flt.log2_lt_of hB hb
  omega)
theorem gcd_bits {a b : Int} {B : Nat} (h : b ≠ 0) (hb : b.natAbs < 2 ^ B) : ((Int.gcd a b : Nat) : Int).natAbs < 2 ^ B := by
  have h1 : Int.gcd a b ≤ b.natAbs := Nat.le_of_dvd (by omega) (Int.gcd_dvd_natAbs_right a b)
  omega
theorem red_eq {a b : Int} {B : Nat} (h : b ≠ 0) (hb : b.natAbs < 2 ^ B) (h0 : 0 < B) (h9 : B ≤ 9000) : F_reduced ca (.int a) (.int b) = ret (.v (fr (Rat.divInt a b))) := by
  have g0 : (Int.gcd a b : Int) ≠ 0 := by
    have := Int.gcd_pos_of_ne_zero_right a h
    omega
  have gb := gcd_bits (a := a) h hb
  unfold F_reduced B_reduced
  by_cases c : b < 0
  · have e1 := fdiv_ok (a := a) (b := -(Int.gcd a b : Int)) (B := B) (by omega) (by omega) h0 h9
    have e2 := fdiv_ok (a := b) (b := -(Int.gcd a b : Int)) (B := B) (by omega) (by omega) h0 h9
    obtain ⟨n1, n2⟩ := NF.red_neg (a := a) c
    simp [gcd_eq, c, e1, e2, n1, n2]
  · have e1 := fdiv_ok (a := a) (b := (Int.gcd a b : Int)) (B := B) g0 gb h0 h9
    have e2 := fdiv_ok (a := b) (b := (Int.gcd a b : Int)) (B := B) g0 gb h0 h9
    obtain ⟨n1, n2⟩ := NF.red_pos (a := a) (b := b) (by omega)
    simp [gcd_eq, c, e1, e2, n1, n2]
theorem plus_eq {x y : Rat} {B : Nat} (hx : Sz B x) (hy : Sz B y) (h0 : 0 < B) (h4 : B ≤ 4000) : F_plus ca (fr x) (fr y) = ret (.v (fr (x + y))) := by
  have m1 := mul_ok hx.num hy.den h0 h0 (by omega)
  have m2 := mul_ok hy.num hx.den h0 h0 (by omega)
  have m3 := mul_ok hx.den hy.den h0 h0 (by omega)
  have hd := bits_mul hx.den hy.den
  unfold F_plus B_plus
  simp [m1, m2, m3, red_eq (ca := ca) (a := x.num * y.den + y.num * x.den) (den_mul0 x y) hd (by omega) (by omega)]
  rw [add_rt]
theorem minus_eq {x y : Rat} {B : Nat} (hx : Sz B x) (hy : Sz B y) (h0 : 0 < B) (h4 : B ≤ 4000) : F_minus ca (fr x) (fr y) = ret (.v (fr (x - y))) := by
  have m1 := mul_ok hx.num hy.den h0 h0 (by omega)
  have m2 := mul_ok hy.num hx.den h0 h0 (by omega)
  have m3 := mul_ok hx.den hy.den h0 h0 (by omega)
  have hd := bits_mul hx.den hy.den
  unfold F_minus B_minus
  simp [m1, m2, m3, red_eq (ca := ca) (a := x.num * y.den - y.num * x.den) (den_mul0 x y) hd (by omega) (by omega)]
  rw [sub_rt]
theorem times_eq {x y : Rat} {B : Nat} (hx : Sz B x) (hy : Sz B y) (h0 : 0 < B) (h4 : B ≤ 4000) : F_times ca (fr x) (fr y) = ret (.v (fr (x * y))) := by
  have m1 := mul_ok hx.num hy.num h0 h0 (by omega)
  have m3 := mul_ok hx.den hy.den h0 h0 (by omega)
  have hd := bits_mul hx.den hy.den
  unfold F_times B_times
  simp [m1, m3, red_eq (ca := ca) (a := x.num * y.num) (den_mul0 x y) hd (by omega) (by omega)]
  rw [mul_rt]
theorem over_eq {x y : Rat} {B : Nat} (hx : Sz B x) (hy : Sz B y) (hn : y ≠ 0) (h0 : 0 < B) (h4 : B ≤ 4000) : F_over ca (fr x) (fr y) = ret (.v (fr (x / y))) := by
  have m1 := mul_ok hx.num hy.den h0 h0 (by omega)
  have m3 := mul_ok hx.den hy.num h0 h0 (by omega)
  have hd := bits_mul hx.den hy.num
  have nz := num_nz hn
  have n0 : (x.den : Int) * y.num ≠ 0 := Int.mul_ne_zero (den0 x) nz
  unfold F_over B_over
  simp [nz, m1, m3, red_eq (ca := ca) (a := x.num * y.den) n0 hd (by omega) (by omega)]
  rw [div_rt]
theorem under_eq {x y : Rat} {B : Nat} (hx : Sz B x) (hy : Sz B y) (h0 : 0 < B) (h4 : B ≤ 400000) : F_under ca (fr x) (fr y) = ret (.v (.bl (decide (x < y)))) := by
  have m1 := mul_ok hx.num hy.den h0 h0 (by omega)
  have m2 := mul_ok hy.num hx.den h0 h0 (by omega)
  unfold F_under B_under
  simp [m1, m2]
  congr 3
  exact decide_eq_decide.mpr (lt_rt x y).symm
theorem apart_eq {x y : Rat} {B : Nat} (hx : Sz B x) (hy : Sz B y) (h0 : 0 < B) (h4 : B ≤ 4000) : F_apart ca (fr x) (fr y) = ret (.v (fr (ap x y))) := by
  unfold F_apart B_apart ap
  by_cases c : x < y
  · simp [under_eq hx hy h0 (by omega), minus_eq hy hx h0 h4, c]
  · simp [under_eq hx hy h0 (by omega), minus_eq hx hy h0 h4, c]
/-! sums of lists -/
abbrev frs (xs : List Rat) : List PV := xs.map fr
theorem lcm_step {b d : Nat} : b * (d / Int.gcd b d) = Nat.lcm b d := by
  show b * (d / Nat.gcd b d) = b * d / Nat.gcd b d
  rw [Nat.mul_div_assoc b (Nat.gcd_dvd_right b d)]
theorem common_loop {B : Nat} (h0 : 0 < B) : ∀ (xs : List Rat) (b n : Nat), (∀ x ∈ xs, Sz B x) → 0 < b → b < 2 ^ n → n + B * xs.length ≤ 8000 → 0 < n →
    ∃ c : Nat, 0 < c ∧ c < 2 ^ (n + B * xs.length) ∧ b ∣ c ∧ (∀ x ∈ xs, x.den ∣ c) ∧ forW some (L_common_1 ca) (frs xs) (.int (b : Int)) = ret (.nx (.int (c : Int)))
  | [], b, n, _, hb, hn, _, _ => ⟨b, hb, by simpa using hn, Nat.dvd_refl b, by simp, rfl⟩
  | x :: xs, b, n, hs, hb, hn, hl, n0 => by
    have sx := hs x (List.mem_cons_self ..)
    have dp : 0 < x.den := Nat.pos_of_ne_zero x.den_nz
    have gp : 0 < Nat.gcd b x.den := Nat.gcd_pos_of_pos_right _ dp
    have ll : B * (x :: xs).length = B + B * xs.length := by rw [List.length_cons, Nat.mul_add]; omega
    rw [ll] at hl
    have lb : Nat.lcm b x.den < 2 ^ (n + B) := by
      have h1 : Nat.lcm b x.den ≤ b * x.den := Nat.div_le_self _ _
      have h2 : b * x.den < 2 ^ n * 2 ^ B := Nat.mul_lt_mul_of_lt_of_lt hn sx.2
      rw [← Nat.pow_add] at h2
      omega
    obtain ⟨c, c0, cb, c1, c2, c3⟩ := common_loop h0 xs (Nat.lcm b x.den) (n + B) (fun y hy => hs y (List.mem_cons_of_mem _ hy)) (Nat.lcm_pos hb dp) lb (by omega) (by omega)
    refine ⟨c, c0, by rw [ll]; rw [show n + (B + B * xs.length) = n + B + B * xs.length by omega]; exact cb, Nat.dvd_trans (Nat.dvd_lcm_left b x.den) c1, fun y hy => ?_, ?_⟩
    · rcases List.mem_cons.mp hy with rfl | hy
      · exact Nat.dvd_trans (Nat.dvd_lcm_right b _) c1
      · exact c2 y hy
    · have f1 : fdivF (.int (x.den : Int)) (.int ((Nat.gcd b x.den : Nat) : Int)) = some (.int ((x.den / Nat.gcd b x.den : Nat) : Int)) := by
        have hg : ((Nat.gcd b x.den : Nat) : Int).natAbs < 2 ^ B := by
          rw [Int.natAbs_natCast]
          exact Nat.lt_of_le_of_lt (Nat.le_of_dvd dp (Nat.gcd_dvd_right b x.den)) sx.2
        rw [fdiv_ok (B := B) (by omega) hg h0 (by omega), Int.ofNat_fdiv]
      have f2 : mulF (.int (b : Int)) (.int ((x.den / Nat.gcd b x.den : Nat) : Int)) = some (.int ((Nat.lcm b x.den : Nat) : Int)) := by
        have hq : ((x.den / Nat.gcd b x.den : Nat) : Int).natAbs < 2 ^ B := by
          rw [Int.natAbs_natCast]
          exact Nat.lt_of_le_of_lt (Nat.div_le_self _ _) sx.2
        have hb' : (b : Int).natAbs < 2 ^ n := by
          rw [Int.natAbs_natCast]
          exact hn
        rw [mul_ok hb' hq n0 h0 (by omega), ← lcm_step (b := b) (d := x.den), Int.natCast_mul]
        rfl
      have e : L_common_1 ca (fr x) (.int (b : Int)) = ret (.nx (.int ((Nat.lcm b x.den : Nat) : Int))) := by
        unfold L_common_1
        simp [gcd_eq, f1, f2, -Int.natCast_ediv]
      show forW some (L_common_1 ca) (fr x :: frs xs) (.int (b : Int)) = _
      rw [r_for1, e, r_bindF_nx]
      exact c3
theorem asIs_map {α : Type} (g : α → Int) : ∀ xs : List α, asIs (xs.map fun x => PV.int (g x)) = some (xs.map g)
  | [] => rfl
  | x :: xs => by
    show (asIs (xs.map fun x => PV.int (g x))).map (g x :: ·) = _
    rw [asIs_map g xs]
    rfl
/-- what the sum of a list is -/
abbrev sumR (xs : List Rat) : Rat := xs.foldr (· + ·) 0
theorem sum_div {c : Nat} (c0 : 0 < c) : ∀ (xs : List Rat), (∀ x ∈ xs, x.den ∣ c) → Rat.divInt (xs.map fun x => x.num * ((c / x.den : Nat) : Int)).sum c = sumR xs
  | [], _ => by simp
  | x :: xs, h => by
    have ih := sum_div c0 xs fun y hy => h y (List.mem_cons_of_mem _ hy)
    have hd := h x (List.mem_cons_self ..)
    have cz : (c : Int) ≠ 0 := by omega
    rw [List.map_cons, List.sum_cons]
    show _ = x + sumR xs
    rw [← ih]
    have e : x = Rat.divInt (x.num * ((c / x.den : Nat) : Int)) c := by
      obtain ⟨k, rfl⟩ := hd
      have dp : 0 < x.den := Nat.pos_of_ne_zero x.den_nz
      have kp : 0 < k := Nat.pos_of_ne_zero fun z => by subst z; omega
      rw [Nat.mul_div_cancel_left _ dp, Int.natCast_mul, Rat.divInt_mul_right (by omega), Rat.num_divInt_den]
    conv => rhs; arg 1; rw [e]
    rw [Rat.divInt_add_divInt _ _ cz cz, ← Int.add_mul, Rat.divInt_mul_right cz]
theorem sz_tops {B n c : Nat} {x : Rat} (h : Sz B x) (hc : c < 2 ^ n) : (x.num * ((c / x.den : Nat) : Int)).natAbs < 2 ^ (B + n) := bits_mul h.1 (by
  rw [Int.natAbs_natCast]
  exact Nat.lt_of_le_of_lt (Nat.div_le_self _ _) hc)
theorem common_eq {xs : List Rat} {B : Nat} (hs : ∀ x ∈ xs, Sz B x) (h0 : 0 < B) (hB9 : B ≤ 9000) (hl : 1 + B * xs.length ≤ 8000) (hn : xs.length ≤ 1000) :
    ∃ c : Nat, 0 < c ∧ c < 2 ^ (1 + B * xs.length) ∧ (∀ x ∈ xs, x.den ∣ c) ∧ F_common ca (.lst (frs xs)) = ret (.v (.tup [.lst (xs.map fun x => .int (x.num * ((c / x.den : Nat) : Int))), .int (c : Int)])) := by
  obtain ⟨c, c0, cb, _, c2, c3⟩ := common_loop (ca := ca) h0 xs 1 1 hs (by decide) (by decide) hl (by decide)
  refine ⟨c, c0, cb, c2, ?_⟩
  have el : lcO some (fun _ => ret true) (E_common_2 ca (.int (c : Int))) (ret (frs xs)) = ret (xs.map fun x => .int (x.num * ((c / x.den : Nat) : Int))) := by
    refine r_lcO (by simp; omega) ?_
    have key : ∀ ys : List Rat, (∀ y ∈ ys, Sz B y) → lcF some (fun _ => ret true) (E_common_2 ca (.int (c : Int))) (frs ys) = ret (ys.map fun x => .int (x.num * ((c / x.den : Nat) : Int))) := by
      intro ys
      induction ys with
      | nil => intro _; rfl
      | cons y ys ih =>
        intro hy
        have sy := hy y (List.mem_cons_self ..)
        have f1 : fdivF (.int (c : Int)) (.int (y.den : Int)) = some (.int ((c / y.den : Nat) : Int)) := by rw [fdiv_ok (B := B) (den0 y) sy.den h0 hB9, Int.ofNat_fdiv]
        have hq : ((c / y.den : Nat) : Int).natAbs < 2 ^ (1 + B * xs.length) := by
          rw [Int.natAbs_natCast]
          exact Nat.lt_of_le_of_lt (Nat.div_le_self _ _) cb
        have f2 := mul_ok sy.num hq h0 (by omega) (by omega)
        show lcF some _ _ (fr y :: frs ys) = _
        rw [lcF, r_lift, r_bind, r_bind, if_pos rfl, ih fun z hz => hy z (List.mem_cons_of_mem _ hz)]
        unfold E_common_2
        simp [f1, f2, -Int.natCast_ediv]
    exact key xs hs
  unfold F_common B_common
  have c3' : forW some (L_common_1 ca) (frs xs) (.int 1) = ret (.nx (.int (c : Int))) := c3
  simp [c3', el]
end NT

namespace SL
open PySem
/-- a piece of code that answers a and leaves the places as they were -/
def Gives {α : Type} (m : W α) (a : α) : Prop := ∀ S Ψ Ξ, Ψ a S → m S Ψ Ξ
theorem Gives.of {α : Type} {m : W α} {a : α} (h : m = ret a) : Gives m a := fun S Ψ Ξ q => by rw [h]; exact q
theorem Gives.use {α β : Type} {m : W α} {a : α} {k : α → W β} {S : Sto} {Ψ : β → Sto → Prop} {Ξ : XV → Sto → Prop} (h : Gives m a) (q : k a S Ψ Ξ) : bind m k S Ψ Ξ := h S _ Ξ q
theorem Gives.bind {α β : Type} {m : W α} {a : α} {k : α → W β} {b : β} (h : Gives m a) (q : Gives (k a) b) : Gives (bind m k) b := fun S Ψ Ξ z => h S _ Ξ (q S Ψ Ξ z)
theorem Gives.noX {α : Type} {m : W α} {a : α} (h : Gives m a) : Gives (noX m) a := fun S Ψ Ξ z => h S Ψ _ z
theorem lc_gives {A : Type} {f : PV → Option A} {F : A → W PV} {g : PV → PV} : ∀ {as : List PV}, (∀ a ∈ as, ∃ x, f a = some x ∧ Gives (F x) (g a)) → Gives (lcF f (fun _ => ret true) F as) (as.map g)
  | [], _ => fun S Ψ Ξ z => z
  | a :: as, h => by
    obtain ⟨x, e1, e2⟩ := h a (List.mem_cons_self ..)
    intro S Ψ Ξ z
    rw [lcF, e1, r_lift, r_bind, r_bind, if_pos rfl]
    exact e2 S _ Ξ (lc_gives (fun b hb => h b (List.mem_cons_of_mem _ hb)) S _ Ξ z)
theorem lcO_gives {A : Type} {f : PV → Option A} {F : A → W PV} {g : PV → PV} {as : List PV} (hl : as.length ≤ 50000) (h : ∀ a ∈ as, ∃ x, f a = some x ∧ Gives (F x) (g a)) : Gives (lcO f (fun _ => ret true) F (ret as)) (as.map g) := fun S Ψ Ξ z => by
  unfold lcO
  simp only [r_bind]
  rw [show few 50000 as = some as by unfold few; rw [if_pos hl], r_lift, r_bind]
  exact lc_gives h S _ _ z
/-- a comprehension over what is no value yet -/
theorem lcO_map {α : Type} {e : α → PV} {g : α → PV} {F : PV → W PV} : ∀ {xs : List α}, xs.length ≤ 50000 → (∀ x ∈ xs, F (e x) = ret (g x)) → lcO some (fun _ => ret true) F (ret (xs.map e)) = ret (xs.map g) := fun {xs} hl h => by
  refine r_lcO (by simpa using hl) ?_
  clear hl
  induction xs with
  | nil => rfl
  | cons x xs ih =>
    rw [List.map_cons, lcF, r_lift, r_bind, r_bind, if_pos rfl, h x (List.mem_cons_self ..), r_bind, ih fun y hy => h y (List.mem_cons_of_mem _ hy)]
    rfl
@[simp] theorem r_methR (c : Addr) (m : Str) (F : List PV → W RV) (ns : List Str) (as vs : List PV) (h : ns.contains m = false) : methR c m F (ret (.ins c ns as)) (ret vs) = noX (F (.ins c ns as :: vs)) := by
  funext S Ψ Ξ
  show (∃ u, isObj c m S (.ins c ns as) = some u ∧ _) = _
  have e : isObj c m S (.ins c ns as) = some () := if_pos ⟨rfl, h⟩
  rw [e]
  exact propext ⟨fun ⟨u, _, z⟩ => z, fun z => ⟨(), rfl, z⟩⟩
theorem r_lenOW (c : Addr) (F : List PV → W RV) (ns : List Str) (as : List PV) (h : ns.contains "" = false) : lenOW c F (ret (.ins c ns as)) = bind (noX (F [.ins c ns as])) fun r => lift (lenOf r) := by
  funext S Ψ Ξ
  show (∃ u, isObj c "" S (.ins c ns as) = some u ∧ _) = _
  have e : isObj c "" S (.ins c ns as) = some () := if_pos ⟨rfl, h⟩
  rw [e]
  exact propext ⟨fun ⟨u, _, z⟩ => z, fun z => ⟨(), rfl, z⟩⟩
theorem r_eqOW (c : Addr) (F : List PV → W RV) (ns : List Str) (as bs : List PV) (h : ns.contains "" = false) : eqOW c F (ret (.ins c ns as)) (ret (.ins c ns bs)) = bind (noX (F [.ins c ns as, .ins c ns bs])) fun r => lift (eqOf r) := by
  funext S Ψ Ξ
  show (∃ u, isObj c "" S (.ins c ns as) = some u ∧ ∃ u, isObj c "" S (.ins c ns bs) = some u ∧ _) = _
  have e : ∀ bs, isObj c "" S (.ins c ns bs) = some () := fun bs => if_pos ⟨rfl, h⟩
  rw [e, e]
  exact propext ⟨fun ⟨u, _, w, _, z⟩ => z, fun z => ⟨(), rfl, (), rfl, z⟩⟩
/-! == of data -/
theorem eqF_data {a b : PV} {d e : PyData} (ha : toD a = some d) (hb : toD b = some e) (hs : SeqAt.shaped d = true) (hs2 : SeqAt.shaped e = true) (hn : d.hasDict = false) (hn2 : e.hasDict = false) (hne : ∀ z, a ≠ .str z) : eqF a b = some (.bl (PyData.eqv d e)) := by
  unfold eqF
  split
  · rename_i z _
    exact absurd rfl (hne z)
  · unfold eqD
    rw [ha, hb]
    simp only
    rw [if_pos ⟨hs, hs2, hn, hn2⟩]
theorem neF_data {a b : PV} {d e : PyData} (ha : toD a = some d) (hb : toD b = some e) (hs : SeqAt.shaped d = true) (hs2 : SeqAt.shaped e = true) (hn : d.hasDict = false) (hn2 : e.hasDict = false) (hne : ∀ z, a ≠ .str z) : neF a b = some (.bl (!PyData.eqv d e)) := by
  unfold neF
  split
  · rename_i z _
    exact absurd rfl (hne z)
  · unfold neD
    rw [ha, hb]
    simp only
    rw [if_pos ⟨hs, hs2, hn, hn2⟩]
end SL
namespace NT
open PySem SL NF
variable {ca : Nat → Addr}
theorem total_eq {xs : List Rat} {B : Nat} (hs : ∀ x ∈ xs, Sz B x) (h0 : 0 < B) (hB9 : B ≤ 9000) (hl : 1 + B * xs.length ≤ 8000) (hn : xs.length ≤ 1000) : F_total ca (.lst (frs xs)) .non = ret (.v (fr (sumR xs))) := by
  obtain ⟨c, c0, cb, c2, e⟩ := common_eq (ca := ca) hs h0 hB9 hl hn
  have es : sumF1 [.lst (xs.map fun x => .int (x.num * ((c / x.den : Nat) : Int)))] = some (.int (xs.map fun x => x.num * ((c / x.den : Nat) : Int)).sum) := by
    simp only [sumF1]
    rw [asIs_map]
    rfl
  have er := red_eq (ca := ca) (a := (xs.map fun x => x.num * ((c / x.den : Nat) : Int)).sum) (b := (c : Int)) (B := 1 + B * xs.length) (by omega) (by rw [Int.natAbs_natCast]; exact cb) (by omega) (by omega)
  rw [sum_div c0 xs c2] at er
  unfold F_total B_total
  simp [isF, isHole, isNone, listF, e, tupF2, es, er, -Int.natCast_ediv]
/-- whether it is a fraction -/
def isFr : PV → Bool
  | .tup [.int a, .int b] => decide (1 ≤ b) && decide (Int.gcd a b = 1)
  | _ => false
theorem fr_eq (a : PV) (h : tyN a ≠ none) (h2 : ∀ as, a = .tup as → ∀ x ∈ as, tyN x ≠ none) : F_is_fraction ca a = ret (.v (.bl (isFr a))) := by
  unfold F_is_fraction B_is_fraction
  simp only [r_op1, isi_tuple a h, r_lift, r_tst, r_notT]
  cases a with
  | tup as =>
    have h3 := h2 as rfl
    simp only [r_vnil, r_vcons, r_cb, r_lenT, r_lift, r_op2, r_neI, r_tst, Bool.not_true, r_orT0, r_bind]
    match as, h3 with
    | [], _ => simp [isFr]
    | [x], _ => simp [isFr]
    | [x, y], h3 =>
      have hx := whole_eq (ca := ca) x (h3 x (by simp))
      have hy := whole_eq (ca := ca) y (h3 y (by simp))
      simp [tupF2, hx, hy]
      cases x <;> simp [isI, isFr]
      cases y <;> simp [isI, isFr]
      rename_i m n
      by_cases c : n < 1
      · have : ¬ 1 ≤ n := by omega
        simp [c, this]
      · have : 1 ≤ n := by omega
        simp [c, this, gcd_eq]
        congr 3
        exact decide_eq_decide.mpr (by omega)
    | x :: y :: z :: l, _ =>
      have : ¬ ((l.length : Int) + 1 + 1 + 1 = 2) := by omega
      simp [this, isFr]
  | non => simp [isFr]
  | bl b => simp [isFr]
  | int i => simp [isFr]
  | str z => simp [isFr]
  | lst as => simp [isFr]
  | dic ks as => simp [isFr]
  | dit ks as => simp [isFr]
  | ins c ns as => exact absurd rfl h
  | exc c ns as => exact absurd rfl h
  | cls c => exact absurd rfl h
  | scr ns => exact absurd rfl h
  | ptr p => exact absurd rfl h
  | hole => exact absurd rfl h
theorem isFr_fr (x : Rat) : isFr (fr x) = true := by
  have := denp x
  simp [isFr, cop x]
  omega
theorem fr_ok (x : Rat) : F_is_fraction ca (fr x) = ret (.v (.bl true)) := by
  rw [fr_eq _ (by simp [tyN]) (fun as e a ha => by cases e; simp at ha; rcases ha with rfl | rfl <;> simp [tyN]), isFr_fr]
theorem share_ok {x : Rat} (h : Shr x) : F_is_share ca (fr x) = ret (.v (.bl true)) := by
  obtain ⟨h1, h2, h3⟩ := h
  have h3' : (x.den : Int) ≤ 999 := by omega
  unfold F_is_share B_is_share
  simp [fr_ok, leU, h1, h2, h3']
theorem allF_true {α : Type} {xs : List α} : allF [.lst (xs.map fun _ => .bl true)] = some (.bl true) := by
  have e : asBs (xs.map fun _ => PV.bl true) = some (xs.map fun _ => true) := by
    induction xs with
    | nil => rfl
    | cons x xs ih =>
      show (asBs (xs.map fun _ => PV.bl true)).map (true :: ·) = _
      rw [ih]
      rfl
  simp only [allF, e]
  simp
theorem eqF_fr (x y : Rat) : eqF (fr x) (fr y) = some (.bl (decide (x = y))) := by
  rw [eqF_data (d := .tuple [.int x.num, .int x.den]) (e := .tuple [.int y.num, .int y.den]) rfl rfl rfl rfl rfl rfl (fun z => by simp), eqv_rt]
/-- a machine as a value -/
def Shs (xs : List Rat) (n : Nat) : Prop := xs.length = n ∧ (∀ x ∈ xs, Shr x) ∧ sumR xs = 1
def Good (zs : List Str) (xss : List (List Rat)) : Prop := 1 ≤ zs.length ∧ zs.length ≤ 6 ∧ (∀ z ∈ zs, NF.Mk z) ∧ xss.length = zs.length ∧ ∀ xs ∈ xss, Shs xs zs.length
abbrev strs_ (zs : List Str) : PV := .lst (zs.map .str)
abbrev rows_ (xss : List (List Rat)) : PV := .lst (xss.map fun xs => .lst (frs xs))
def ma (ca : Nat → Addr) (zs : List Str) (xss : List (List Rat)) : PV := .ins (ca 0) ["kept_marks", "kept_shares"] [strs_ zs, rows_ xss]
theorem shs_ok {xs : List Rat} {n : Nat} (h : Shs xs n) (hn : n ≤ 6) : F_are_room_shares ca (.int (n : Int)) (.lst (frs xs)) = ret (.v (.bl true)) := by
  obtain ⟨h1, h2, h3⟩ := h
  have et := total_eq (ca := ca) (xs := xs) (B := 10) (fun x hx => (h2 x hx).sz) (by decide) (by decide) (by omega) (by omega)
  rw [h3] at et
  have ea : lcO some (fun _ => ret true) (E_are_room_shares_1 ca) (ret (xs.map fr)) = ret (xs.map fun _ => .bl true) := lcO_map (by omega) fun x hx => by
    unfold E_are_room_shares_1
    simp [share_ok (h2 x hx)]
  have e1 : eqF (fr 1) (.tup [.int 1, .int 1]) = some (.bl true) := by
    have h := eqF_fr 1 1
    rw [decide_eq_true rfl] at h
    exact h
  unfold F_are_room_shares B_are_room_shares
  simp [isi_list _ (show tyN (.lst (frs xs)) ≠ none by simp [tyN]), h1, ea, allF_true, et, e1]
/-! marks -/
theorem mark_sign {c : Nat} (h : 97 ≤ c ∧ c ≤ 122) : E_is_mark_1 ca (.str ⟨#[c]⟩) = ret (.bl true) := by
  have e1 : leU (.str (Str.ofString "a")) (.str ⟨#[c]⟩) = some (.bl true) := by
    simp only [leU]
    have : ¬ (⟨#[c]⟩ : Str).cps.toList < (Str.ofString "a").cps.toList := by
      show ¬ ([c] : List Nat) < [97]
      rw [List.cons_lt_cons_iff]
      rintro (h' | ⟨_, h'⟩)
      · omega
      · exact absurd h' (List.not_lt_nil _)
    simp [this]
  have e2 : leU (.str ⟨#[c]⟩) (.str (Str.ofString "z")) = some (.bl true) := by
    simp only [leU]
    have : ¬ (Str.ofString "z").cps.toList < (⟨#[c]⟩ : Str).cps.toList := by
      show ¬ ([122] : List Nat) < [c]
      rw [List.cons_lt_cons_iff]
      rintro (h' | ⟨_, h'⟩)
      · omega
      · exact absurd h' (List.not_lt_nil _)
    simp [this]
  unfold E_is_mark_1
  simp [e1, e2]
theorem mark_ok {z : Str} (h : NF.Mk z) : F_is_mark ca (.str z) = ret (.v (.bl true)) := by
  obtain ⟨h1, h2, h3⟩ := h
  have el : lenF [.str z] = some (.int (z.cps.size : Int)) := by
    show (if z.length ≤ 100000 then some (PV.int (z.length : Int)) else none) = _
    have hz : z.length ≤ 100000 := by
      show z.cps.size ≤ 100000
      omega
    rw [if_pos hz]
    rfl
  have ea : lcO some (fun _ => ret true) (E_is_mark_1 ca) (ret (z.cps.toList.map fun c => .str ⟨#[c]⟩)) = ret (z.cps.toList.map fun _ => .bl true) := lcO_map (by simp; omega) fun c hc => mark_sign (h3 c hc)
  have a1 : (1 : Int) ≤ (z.cps.size : Int) := by omega
  have a2 : (z.cps.size : Int) ≤ 4 := by omega
  unfold F_is_mark B_is_mark
  simp [isi_str _ (show tyN (.str z) ≠ none by simp [tyN]), el, leU, a1, a2, itS, strL, ea, allF_true]
theorem check_loop {F : PV → W RV} {mk : PV → Unit → W (Fl Unit)} : True := trivial
theorem marks_loop : ∀ (zs : List Str) (k : Nat), (∀ z ∈ zs, NF.Mk z) → forW (tupF2 some some) (L_check_marks_1 ca) (enumF k (zs.map .str)) () = ret (.nx ())
  | [], _, _ => rfl
  | z :: zs, k, h => by
    have e : L_check_marks_1 ca (.int (k : Int), .str z) () = ret (.nx ()) := by
      unfold L_check_marks_1
      simp [mark_ok (h z (List.mem_cons_self ..))]
    show forW (tupF2 some some) (L_check_marks_1 ca) (.tup [.int (k : Int), .str z] :: enumF (k + 1) (zs.map .str)) () = _
    rw [r_for2, e, r_bindF_nx]
    exact marks_loop zs (k + 1) fun y hy => h y (List.mem_cons_of_mem _ hy)
theorem shares_loop {n : Nat} (hn : n ≤ 6) : ∀ (xss : List (List Rat)) (k : Nat), (∀ xs ∈ xss, Shs xs n) → forW (tupF2 some some) (L_check_shares_1 ca (.int (n : Int))) (enumF k (xss.map fun xs => .lst (frs xs))) () = ret (.nx ())
  | [], _, _ => rfl
  | xs :: xss, k, h => by
    have e : L_check_shares_1 ca (.int (n : Int)) (.int (k : Int), .lst (frs xs)) () = ret (.nx ()) := by
      unfold L_check_shares_1
      simp [shs_ok (h xs (List.mem_cons_self ..)) hn]
    show forW (tupF2 some some) (L_check_shares_1 ca (.int (n : Int))) (.tup [.int (k : Int), .lst (frs xs)] :: enumF (k + 1) (xss.map fun xs => .lst (frs xs))) () = _
    rw [r_for2, e, r_bindF_nx]
    exact shares_loop hn xss (k + 1) fun y hy => h y (List.mem_cons_of_mem _ hy)
theorem cmarks_ok {zs : List Str} (h1 : 1 ≤ zs.length) (h6 : zs.length ≤ 6) (h : ∀ z ∈ zs, NF.Mk z) : F_check_marks ca (strs_ zs) = ret (.v .non) := by
  have a1 : (1 : Int) ≤ (zs.length : Int) := by omega
  have a2 : (zs.length : Int) ≤ 6 := by omega
  unfold F_check_marks B_check_marks
  simp [isi_list _ (show tyN (strs_ zs) ≠ none by simp [tyN]), leU, a1, a2, marks_loop zs 0 h]
theorem cshares_ok {xss : List (List Rat)} {n : Nat} (hn : n ≤ 6) (hl : xss.length = n) (h : ∀ xs ∈ xss, Shs xs n) : F_check_shares ca (.int (n : Int)) (rows_ xss) = ret (.v .non) := by
  unfold F_check_shares B_check_shares
  simp [isi_list _ (show tyN (rows_ xss) ≠ none by simp [tyN]), hl, shares_loop hn xss 0 h]
end NT

namespace NT
open PySem SL NF
variable {ca : Nat → Addr}
theorem rem_put {S : Sto} {x : Addr} {c : Cl} (h : S x = none) : rem (put S x c) x = S := by
  funext q
  by_cases e : q = x
  · subst e
    rw [rem_same, h]
  · rw [rem_ne e, put_ne e]
/-- a Machine is made -/
theorem make_gives {zs : List Str} {xss : List (List Rat)} (h : Good zs xss) : Gives (makeW (ca 0) (ar3 (F_Machine___init__ ca)) [] (ret [strs_ zs, rows_ xss])) (ma ca zs xss) := by
  obtain ⟨h1, h6, hz, hl, hs⟩ := h
  intro S Ψ Ξ z x dx hx hd
  have el : lcO some (fun _ => ret true) (E_Machine___init___1 ca) (ret (xss.map fun xs => .lst (frs xs))) = ret (xss.map fun xs => .lst (frs xs)) := lcO_map (by omega) fun xs _ => by
    unfold E_Machine___init___1
    simp [listF]
  have eb : F_Machine___init__ ca (.ptr x) (strs_ zs) (rows_ xss) = bind (newFld x (ca 0) "kept_marks" (strs_ zs)) fun _ => bind (newFld x (ca 0) "kept_shares" (rows_ xss)) fun _ => ret (.v .non) := by
    unfold F_Machine___init__ B_Machine___init__
    simp [withP, cmarks_ok h1 h6 hz, cshares_ok (ca := ca) h6 hl hs, listF, el]
  show F_Machine___init__ ca (.ptr x) (strs_ zs) (rows_ xss) _ _ _
  rw [eb]
  refine ⟨dx, [], [], put_same, rfl, by decide, rfl, dx, ["kept_marks"], [strs_ zs], put_same, by decide, by decide, rfl, rfl, ["kept_marks", "kept_shares"], [strs_ zs, rows_ xss], put_same, ?_⟩
  rw [put_put, put_put, rem_put hx]
  exact z
theorem lk1 (a b : PV) : List.lookup (Str.ofString "kept_marks") [(Str.ofString "kept_marks", a), (Str.ofString "kept_shares", b)] = some a := by
  rw [List.lookup_cons, beq_self_eq_true]
theorem lk2 (a b : PV) : List.lookup (Str.ofString "kept_shares") [(Str.ofString "kept_marks", a), (Str.ofString "kept_shares", b)] = some b := by
  have h : (Str.ofString "kept_shares" == Str.ofString "kept_marks") = false := by decide +kernel
  rw [List.lookup_cons, h]
  show List.lookup (Str.ofString "kept_shares") [(Str.ofString "kept_shares", b)] = some b
  rw [List.lookup_cons, beq_self_eq_true]
theorem marks_eq {zs : List Str} {xss : List (List Rat)} : methO (ca 0) "marks" (ar1 (F_Machine_marks ca)) (ret (ma ca zs xss)) (ret []) = ret (zs.map .str) := by
  unfold methO ma
  rw [r_methR _ _ _ _ _ _ (by decide)]
  unfold F_Machine_marks B_Machine_marks
  simp [lk1, listF]
theorem shares_eq {zs : List Str} {xss : List (List Rat)} (hl : xss.length ≤ 50000) : methO (ca 0) "shares" (ar1 (F_Machine_shares ca)) (ret (ma ca zs xss)) (ret []) = ret (xss.map fun xs => .lst (frs xs)) := by
  have el : lcO some (fun _ => ret true) (E_Machine_shares_1 ca) (ret (xss.map fun xs => .lst (frs xs))) = ret (xss.map fun xs => .lst (frs xs)) := lcO_map hl fun xs _ => by
    unfold E_Machine_shares_1
    simp [listF]
  unfold methO ma
  rw [r_methR _ _ _ _ _ _ (by decide)]
  unfold F_Machine_shares B_Machine_shares
  simp [lk2, el]
theorem isi_ma {zs : List Str} {xss : List (List Rat)} : isiF (fun _ => none) [(ca 0, true)] (ma ca zs xss) = some (.bl true) := by
  unfold ma isiF
  simp [List.lookup]
theorem cm_ok {zs : List Str} {xss : List (List Rat)} : F_check_machine ca (ma ca zs xss) = ret (.v .non) := by
  unfold F_check_machine B_check_machine
  simp [isi_ma]
theorem cms_ok {zs ys : List Str} {xss yss : List (List Rat)} : F_check_machines ca (ma ca zs xss) (ma ca ys yss) = ret (.v .non) := by
  unfold F_check_machines B_check_machines
  simp [cm_ok]
/-! == of lists of texts, of rows -/
theorem toDs_str : ∀ zs : List Str, toDs (zs.map PV.str) = some (zs.map PyData.str)
  | [] => rfl
  | z :: zs => by
    show (match toD (.str z), toDs (zs.map PV.str) with | some d, some ds => some (d :: ds) | _, _ => none) = _
    rw [toDs_str zs]
    rfl
theorem toDs_fr : ∀ xs : List Rat, toDs (frs xs) = some (xs.map fun x => PyData.tuple [.int x.num, .int x.den])
  | [] => rfl
  | x :: xs => by
    show (match toD (fr x), toDs (frs xs) with | some d, some ds => some (d :: ds) | _, _ => none) = _
    rw [toDs_fr xs]
    rfl
theorem toDs_rows : ∀ xss : List (List Rat), toDs (xss.map fun xs => PV.lst (frs xs)) = some (xss.map fun xs => PyData.list (xs.map fun x => PyData.tuple [.int x.num, .int x.den]))
  | [] => rfl
  | xs :: xss => by
    show (match toD (.lst (frs xs)), toDs (xss.map fun xs => PV.lst (frs xs)) with | some d, some ds => some (d :: ds) | _, _ => none) = _
    rw [toDs_rows xss]
    have : toD (.lst (frs xs)) = some (.list (xs.map fun x => PyData.tuple [.int x.num, .int x.den])) := by
      simp only [toD, toDs_fr]
    rw [this]
    rfl
end NT

namespace NT
open PySem SL NF
variable {ca : Nat → Addr}
/-! sizes of what comes of two -/
theorem szM {A B : Nat} {x y : Rat} (hx : Sz A x) (hy : Sz B y) : Sz (A + B) (x * y) := by
  rw [mul_rt]
  exact sz_div (bits_mul hx.num hy.num) (bits_mul hx.den hy.den) (den_mul0 x y)
theorem szD {A B : Nat} {x y : Rat} (hx : Sz A x) (hy : Sz B y) (h : y ≠ 0) : Sz (A + B) (x / y) := by
  rw [div_rt]
  exact sz_div (bits_mul hx.num hy.den) (bits_mul hx.den hy.num) (Int.mul_ne_zero (den0 x) (num_nz h))
theorem szS {A B : Nat} {x y : Rat} (hx : Sz A x) (hy : Sz B y) : Sz (A + B + 1) (x - y) := by
  rw [sub_rt]
  exact sz_div (bits_sub (bits_mul hx.num hy.den) (bits_up (bits_mul hy.num hx.den) (by omega))) (bits_up (bits_mul hx.den hy.den) (by omega)) (den_mul0 x y)
theorem sz_sumR {B : Nat} : ∀ {xs : List Rat}, (∀ x ∈ xs, Sz B x) → Sz ((B + 1) * xs.length + 1) (sumR xs)
  | [], _ => ⟨Nat.pow_pos (by decide), Nat.one_lt_two_pow (by omega)⟩
  | x :: xs, h => by
    have ih := sz_sumR (xs := xs) fun y hy => h y (List.mem_cons_of_mem _ hy)
    refine Sz.mono ((h x (List.mem_cons_self ..)).addAB ih) ?_
    rw [List.length_cons, Nat.mul_add]
    omega
theorem sz0 {B : Nat} (h : 0 < B) : Sz B 0 := ⟨Nat.pow_pos (by decide), Nat.one_lt_two_pow (by omega)⟩
theorem sz1 {B : Nat} (h : 0 < B) : Sz B 1 := ⟨Nat.one_lt_two_pow (by omega), Nat.one_lt_two_pow (by omega)⟩
theorem fr0 : (PV.tup [.int 0, .int 1]) = fr 0 := rfl
theorem fr1 : (PV.tup [.int 1, .int 1]) = fr 1 := rfl
theorem fr2 : (PV.tup [.int 2, .int 1]) = fr 2 := rfl
def hf : Rat := Rat.divInt 1 2
theorem frh : (PV.tup [.int 1, .int 2]) = fr hf := by
  have h1 : hf.num = 1 := by decide +kernel
  have h2 : hf.den = 2 := by decide +kernel
  rw [fr, h1, h2]
  rfl
theorem szh : Sz 2 hf := ⟨by decide +kernel, by decide +kernel⟩
theorem sz2 : Sz 2 (2 : Rat) := ⟨by decide +kernel, by decide +kernel⟩
/-! == of lists of texts and of rows -/
theorem lay_mk {z : Str} (h : NF.Mk z) : PyData.strOk z = true := by
  unfold PyData.strOk
  rw [Array.all_eq_true_iff_forall_mem]
  intro c hc
  have := h.2.2 c (by simpa using hc)
  simp
  omega
theorem lays {α : Type} {f : α → PyData} : ∀ {xs : List α}, (∀ x ∈ xs, (f x).canLay0 = true) → PyData.canLayAll0 (xs.map f) = true
  | [], _ => rfl
  | x :: xs, h => by
    rw [List.map_cons]
    simp only [PyData.canLayAll0, h x (List.mem_cons_self ..), lays fun y hy => h y (List.mem_cons_of_mem _ hy), Bool.and_true]
theorem deps {α : Type} {f : α → PyData} {k : Nat} : ∀ {xs : List α}, (∀ x ∈ xs, (f x).depth ≤ k) → PyData.depthAll (xs.map f) ≤ k
  | [], _ => Nat.zero_le _
  | x :: xs, h => by
    have h1 := h x (List.mem_cons_self ..)
    have h2 := deps fun y hy => h y (List.mem_cons_of_mem _ hy)
    rw [List.map_cons]
    simp only [PyData.depthAll]
    omega
theorem nods {α : Type} {f : α → PyData} : ∀ {xs : List α}, (∀ x ∈ xs, (f x).hasDict = false) → PyData.hasDictAll (xs.map f) = false
  | [], _ => rfl
  | x :: xs, h => by
    rw [List.map_cons]
    simp only [PyData.hasDictAll, h x (List.mem_cons_self ..), nods fun y hy => h y (List.mem_cons_of_mem _ hy), Bool.or_false]
theorem shp {α : Type} {f : α → PyData} {k : Nat} {xs : List α} (h1 : ∀ x ∈ xs, (f x).canLay0 = true) (h2 : ∀ x ∈ xs, (f x).depth ≤ k) (hk : k ≤ 60) : SeqAt.shaped (.list (xs.map f)) = true := by
  have a := lays h1
  have b := deps h2
  have c : (PyData.list (xs.map f)).canLay0 = true := by simp only [PyData.canLay0, a]
  have d : (PyData.list (xs.map f)).depth ≤ 64 := by simp only [PyData.depth]; omega
  unfold SeqAt.shaped
  simp [c, d]
theorem eqvs {α : Type} {f : α → PyData} {e : α → α → Prop} [∀ a b, Decidable (e a b)] (hr : ∀ a b, e a b ↔ a = b) (h : ∀ a b, PyData.eqv (f a) (f b) = decide (e a b)) : ∀ (xs ys : List α), PyData.eqvAll (xs.map f) (ys.map f) = true ↔ xs = ys
  | [], [] => by simp [PyData.eqvAll]
  | [], _ :: _ => by simp [PyData.eqvAll]
  | _ :: _, [] => by simp [PyData.eqvAll]
  | x :: xs, y :: ys => by
    have ih := eqvs hr h xs ys
    simp only [List.map_cons, PyData.eqvAll, Bool.and_eq_true, h, decide_eq_true_eq, hr, ih, List.cons.injEq]
theorem bool_of {b : Bool} {p : Prop} [Decidable p] (h : b = true ↔ p) : b = decide p := by
  by_cases c : p
  · rw [decide_eq_true c]; exact h.mpr c
  · rw [decide_eq_false c]
    cases b with
    | true => exact absurd (h.mp rfl) c
    | false => rfl
abbrev dS : Str → PyData := .str
abbrev dR (x : Rat) : PyData := .tuple [.int x.num, .int x.den]
abbrev dL (xs : List Rat) : PyData := .list (xs.map dR)
theorem eqv_S (xs ys : List Str) : PyData.eqv (.list (xs.map dS)) (.list (ys.map dS)) = decide (xs = ys) := by
  refine bool_of ?_
  show PyData.eqvAll _ _ = true ↔ _
  refine eqvs (e := fun a b => a = b) (fun _ _ => Iff.rfl) (fun a b => ?_) xs ys
  show (a == b) = _
  refine bool_of ?_
  simp
theorem eqv_R (xs ys : List Rat) : PyData.eqv (dL xs) (dL ys) = decide (xs = ys) := by
  refine bool_of ?_
  show PyData.eqvAll _ _ = true ↔ _
  exact eqvs (e := fun a b => a = b) (fun _ _ => Iff.rfl) (fun a b => eqv_rt (x := a) (y := b)) xs ys
theorem eqv_L (xs ys : List (List Rat)) : PyData.eqv (.list (xs.map dL)) (.list (ys.map dL)) = decide (xs = ys) := by
  refine bool_of ?_
  show PyData.eqvAll _ _ = true ↔ _
  exact eqvs (e := fun a b => a = b) (fun _ _ => Iff.rfl) (fun a b => eqv_R a b) xs ys
theorem toD_strs (zs : List Str) : toD (strs_ zs) = some (.list (zs.map dS)) := by
  simp only [toD, toDs_str]
theorem toD_rows (xss : List (List Rat)) : toD (rows_ xss) = some (.list (xss.map dL)) := by
  simp only [toD, toDs_rows]
theorem shp_S {zs : List Str} (h : ∀ z ∈ zs, NF.Mk z) : SeqAt.shaped (.list (zs.map dS)) = true := shp (k := 0) (fun z hz => lay_mk (h z hz)) (fun _ _ => Nat.le_refl 0) (by decide)
theorem shp_L (xss : List (List Rat)) : SeqAt.shaped (.list (xss.map dL)) = true := by
  refine shp (k := 2) (fun xs _ => ?_) (fun xs _ => ?_) (by decide)
  · show PyData.canLayAll0 _ = true
    exact lays fun x _ => rfl
  · simp only [PyData.depth]
    have := deps (f := dR) (k := 1) (xs := xs) fun _ _ => Nat.le_refl 1
    omega
theorem nod_S (zs : List Str) : (PyData.list (zs.map dS)).hasDict = false := nods fun _ _ => rfl
theorem nod_L (xss : List (List Rat)) : (PyData.list (xss.map dL)).hasDict = false := nods fun xs _ => nods fun _ _ => rfl
theorem eqF_strs {xs ys : List Str} (hx : ∀ z ∈ xs, NF.Mk z) (hy : ∀ z ∈ ys, NF.Mk z) : eqF (strs_ xs) (strs_ ys) = some (.bl (decide (xs = ys))) := by
  rw [eqF_data (toD_strs xs) (toD_strs ys) (shp_S hx) (shp_S hy) (nod_S _) (nod_S _) (fun z => by simp), eqv_S]
theorem neF_strs {xs ys : List Str} (hx : ∀ z ∈ xs, NF.Mk z) (hy : ∀ z ∈ ys, NF.Mk z) : neF (strs_ xs) (strs_ ys) = some (.bl (!decide (xs = ys))) := by
  rw [neF_data (toD_strs xs) (toD_strs ys) (shp_S hx) (shp_S hy) (nod_S _) (nod_S _) (fun z => by simp), eqv_S]
theorem eqF_rows (xss yss : List (List Rat)) : eqF (rows_ xss) (rows_ yss) = some (.bl (decide (xss = yss))) := by
  rw [eqF_data (toD_rows xss) (toD_rows yss) (shp_L _) (shp_L _) (nod_L _) (nod_L _) (fun z => by simp), eqv_L]
theorem twins_ok {zs : List Str} {xss yss : List (List Rat)} (hz : ∀ z ∈ zs, NF.Mk z) : F_check_twins ca (ma ca zs xss) (ma ca zs yss) = ret (.v .non) := by
  have e := neF_strs hz hz
  unfold F_check_twins B_check_twins
  simp [cms_ok, marks_eq, e]
/-- two machines of the same marks compared -/
theorem eqM {zs : List Str} {xss yss : List (List Rat)} (hz : ∀ z ∈ zs, NF.Mk z) : F_Machine___eq__ ca (ma ca zs xss) (ma ca zs yss) = ret (.v (.bl (decide (xss = yss)))) := by
  have e := eqF_strs hz hz
  have e2 := eqF_rows xss yss
  have h1 : fldW (ca 0) "kept_marks" (ret (ma ca zs xss)) = ret (strs_ zs) := by unfold ma; rw [r_fldI]; simp [lk1]
  have h2 : fldW (ca 0) "kept_marks" (ret (ma ca zs yss)) = ret (strs_ zs) := by unfold ma; rw [r_fldI]; simp [lk1]
  have h3 : fldW (ca 0) "kept_shares" (ret (ma ca zs xss)) = ret (rows_ xss) := by unfold ma; rw [r_fldI]; simp [lk2]
  have h4 : fldW (ca 0) "kept_shares" (ret (ma ca zs yss)) = ret (rows_ yss) := by unfold ma; rw [r_fldI]; simp [lk2]
  unfold F_Machine___eq__ B_Machine___eq__
  simp [isi_ma, h1, h2, h3, h4, e, e2]
theorem eqOW_M {zs : List Str} {xss yss : List (List Rat)} (hz : ∀ z ∈ zs, NF.Mk z) : eqOW (ca 0) (ar2 (F_Machine___eq__ ca)) (ret (ma ca zs xss)) (ret (ma ca zs yss)) = ret (.bl (decide (xss = yss))) := by
  have e := eqM (ca := ca) (xss := xss) (yss := yss) hz
  unfold ma at e ⊢
  rw [r_eqOW _ _ _ _ _ (by decide)]
  simp [e, eqOf]
end NT

namespace SL
open PySem
theorem lcO_mapF {α A : Type} {f : PV → Option A} {e : α → PV} {u : α → A} {g : α → PV} {F : A → W PV} : ∀ {xs : List α}, xs.length ≤ 50000 → (∀ x ∈ xs, f (e x) = some (u x)) → (∀ x ∈ xs, F (u x) = ret (g x)) → lcO f (fun _ => ret true) F (ret (xs.map e)) = ret (xs.map g) := fun {xs} hl hf h => by
  refine r_lcO (by simpa using hl) ?_
  clear hl
  induction xs with
  | nil => rfl
  | cons x xs ih =>
    rw [List.map_cons, lcF, hf x (List.mem_cons_self ..), r_lift, r_bind, r_bind, if_pos rfl, h x (List.mem_cons_self ..), r_bind, ih (fun y hy => hf y (List.mem_cons_of_mem _ hy)) fun y hy => h y (List.mem_cons_of_mem _ hy)]
    rfl
theorem zip_map {α β : Type} {f : α → PV} {g : β → PV} : ∀ (xs : List α) (ys : List β), zipF (xs.map f) (ys.map g) = (xs.zip ys).map fun p => .tup [f p.1, g p.2]
  | [], _ => by simp [zipF]
  | _ :: _, [] => by simp [zipF]
  | x :: xs, y :: ys => by
    simp only [List.map_cons, zipF, List.zip_cons_cons, zip_map xs ys]
end SL
namespace NT
open PySem SL NF
variable {ca : Nat → Addr}
/-! how far machines are apart -/
def aps (xs ys : List Rat) : List Rat := (xs.zip ys).map fun q => ap q.1 q.2
def half (p : List Rat × List Rat) : Rat := hf * sumR (aps p.1 p.2)
def mxs : List Rat → Rat → Rat
  | [], m => m
  | x :: xs, m => mxs xs (if m < x then x else m)
def far (xss yss : List (List Rat)) : Rat := mxs ((xss.zip yss).map half) 0
theorem aps_len (xs ys : List Rat) : (aps xs ys).length = min xs.length ys.length := by simp [aps]
theorem aps_sz {xs ys : List Rat} (hx : ∀ x ∈ xs, Sz 10 x) (hy : ∀ y ∈ ys, Sz 10 y) : ∀ a ∈ aps xs ys, Sz 21 a := fun a ha => by
  obtain ⟨⟨x, y⟩, hq, rfl⟩ := List.mem_map.mp ha
  have h1 := hx x (List.of_mem_zip hq).1
  have h2 := hy y (List.of_mem_zip hq).2
  exact Sz.ap h1 h2
theorem half_sz {xs ys : List Rat} (hl : xs.length ≤ 6) (hx : ∀ x ∈ xs, Sz 10 x) (hy : ∀ y ∈ ys, Sz 10 y) : Sz 135 (half (xs, ys)) := by
  have h := sz_sumR (aps_sz hx hy)
  have hn := aps_len xs ys
  refine Sz.mono (szM szh h) ?_
  have : (aps xs ys).length ≤ 6 := by omega
  omega
theorem mxs_p {P : Rat → Prop} : ∀ {xs : List Rat} {m : Rat}, P m → (∀ x ∈ xs, P x) → P (mxs xs m)
  | [], m, h, _ => h
  | x :: xs, m, h, k => by
    rw [mxs]
    refine mxs_p ?_ fun y hy => k y (List.mem_cons_of_mem _ hy)
    split
    · exact k x (List.mem_cons_self ..)
    · exact h
theorem greatest_loop {B : Nat} (h0 : 0 < B) (hB : B ≤ 400000) : ∀ {xs : List Rat} {m : Rat}, Sz B m → (∀ x ∈ xs, Sz B x) → forW some (L_greatest_1 ca) (frs xs) (fr m) = ret (.nx (fr (mxs xs m)))
  | [], m, _, _ => rfl
  | x :: xs, m, hm, hs => by
    have hx := hs x (List.mem_cons_self ..)
    have e : L_greatest_1 ca (fr x) (fr m) = ret (.nx (fr (if m < x then x else m))) := by
      unfold L_greatest_1
      by_cases c : m < x
      · simp [under_eq hm hx h0 hB, c]
      · simp [under_eq hm hx h0 hB, c]
    show forW some (L_greatest_1 ca) (fr x :: frs xs) (fr m) = _
    rw [r_for1, e, r_bindF_nx, mxs]
    refine greatest_loop h0 hB ?_ fun y hy => hs y (List.mem_cons_of_mem _ hy)
    split
    · exact hx
    · exact hm
theorem greatest_eq {B : Nat} (h0 : 0 < B) (hB : B ≤ 400000) {xs : List Rat} (hs : ∀ x ∈ xs, Sz B x) : F_greatest ca (.lst (frs xs)) = ret (.v (fr (mxs xs 0))) := by
  have e := greatest_loop (ca := ca) h0 hB (m := 0) (sz0 h0) hs
  have e' : forW some (L_greatest_1 ca) (frs xs) (.tup [.int 0, .int 1]) = ret (.nx (fr (mxs xs 0))) := e
  unfold F_greatest B_greatest
  simp [e']
/-- the rows of a machine -/
def Rws (n : Nat) (xss : List (List Rat)) : Prop := ∀ xs ∈ xss, Shs xs n
theorem apart_rows {n : Nat} {xss yss : List (List Rat)} (hn : n ≤ 6) (hx : Rws n xss) (hy : Rws n yss) (hl : xss.length ≤ 50000) : F_all_apart ca (rows_ xss) (rows_ yss) = ret (.o ((xss.zip yss).map fun p => .lst (frs (aps p.1 p.2)))) := by
  unfold F_all_apart B_all_apart
  have e : lcO (tupF2 some some) (fun _ => ret true) (E_all_apart_2 ca) (ret ((xss.zip yss).map fun p => .tup [.lst (frs p.1), .lst (frs p.2)])) = ret ((xss.zip yss).map fun p => .lst (frs (aps p.1 p.2))) := by
    refine lcO_mapF (u := fun p => (.lst (frs p.1), .lst (frs p.2))) (by simp; omega) (fun p _ => by simp [tupF2]) fun p hp => ?_
    obtain ⟨h1, h2⟩ := List.of_mem_zip hp
    have sx := hx _ h1
    have sy := hy _ h2
    unfold E_all_apart_2
    have e2 : lcO (tupF2 some some) (fun _ => ret true) (E_all_apart_1 ca) (ret ((p.1.zip p.2).map fun q => .tup [fr q.1, fr q.2])) = ret ((p.1.zip p.2).map fun q => fr (ap q.1 q.2)) := by
      refine lcO_mapF (u := fun q => (fr q.1, fr q.2)) (by have := sx.1; simp; omega) (fun q _ => by simp [tupF2]) fun q hq => ?_
      obtain ⟨k1, k2⟩ := List.of_mem_zip hq
      unfold E_all_apart_1
      simp [apart_eq (ca := ca) ((sx.2.1 _ k1).sz) ((sy.2.1 _ k2).sz) (by decide) (by decide)]
    have e3 : zipF (p.1.map fr) (p.2.map fr) = (p.1.zip p.2).map fun q => .tup [fr q.1, fr q.2] := zip_map p.1 p.2
    simp [e3, e2, aps]
    rfl
  have e1 : zipF (xss.map fun xs => PV.lst (frs xs)) (yss.map fun xs => PV.lst (frs xs)) = (xss.zip yss).map fun p => .tup [.lst (frs p.1), .lst (frs p.2)] := zip_map xss yss
  simp [e1, e]
theorem far_sz {n : Nat} {xss yss : List (List Rat)} (hn : n ≤ 6) (hx : Rws n xss) (hy : Rws n yss) : ∀ a ∈ (xss.zip yss).map half, Sz 135 a := fun a ha => by
  obtain ⟨⟨xs, ys⟩, hq, rfl⟩ := List.mem_map.mp ha
  have sx := hx xs (List.of_mem_zip hq).1
  have sy := hy ys (List.of_mem_zip hq).2
  exact half_sz (by rw [sx.1]; exact hn) (fun x hx => (sx.2.1 x hx).sz) fun y hy => (sy.2.1 y hy).sz
theorem spread_eq {zs ys : List Str} {n : Nat} {xss yss : List (List Rat)} (hn : n ≤ 6) (hx : Rws n xss) (hy : Rws n yss) (hl : xss.length ≤ 50000) (hl2 : yss.length ≤ 50000) : F_spread_of ca (ma ca zs xss) (ma ca ys yss) = ret (.v (fr (far xss yss))) := by
  have e1 := apart_rows (ca := ca) hn hx hy hl
  have e2 : lcO some (fun _ => ret true) (E_spread_of_1 ca) (ret ((xss.zip yss).map fun p => .lst (frs (aps p.1 p.2)))) = ret ((xss.zip yss).map fun p => fr (half p)) := by
    refine lcO_map (by simp; omega) fun p hp => ?_
    obtain ⟨h1, h2⟩ := List.of_mem_zip hp
    have sx := hx _ h1
    have sy := hy _ h2
    have s1 := aps_sz (fun x hx => (sx.2.1 x hx).sz) fun y hy => (sy.2.1 y hy).sz
    have l1 : (aps p.1 p.2).length ≤ 6 := by rw [aps_len, sx.1]; omega
    have et := total_eq (ca := ca) s1 (by decide) (by decide) (by omega) (by omega)
    have s2 := Sz.mono (sz_sumR s1) (show _ ≤ 140 by omega)
    have em := times_eq (ca := ca) (szh.mono (by decide)) s2 (by decide) (by decide)
    unfold E_spread_of_1
    rw [← frh] at em
    simp [et, em, half]
  have e3 := greatest_eq (ca := ca) (B := 135) (by decide) (by decide) (far_sz hn hx hy)
  have e4 : (xss.zip yss).map (fun p => fr (half p)) = frs ((xss.zip yss).map half) := by rw [frs, List.map_map]; rfl
  rw [e4] at e2
  unfold F_spread_of B_spread_of
  simp [shares_eq hl, shares_eq hl2, e1, e2, e3, far, -List.map_map]
/-! how far the answer moves at most -/
def Fd (f : Rat) : Prop := 0 < f.num ∧ f.num < f.den ∧ f.den ≤ 999
theorem Fd.sz {f : Rat} (h : Fd f) : Sz 10 f := by
  obtain ⟨h1, h2, h3⟩ := h
  exact ⟨by omega, by omega⟩
theorem fd_h : Fd hf := ⟨by decide +kernel, by decide +kernel, by decide +kernel⟩
theorem Fd.lt {f : Rat} (h : Fd f) : f < 1 := by
  rw [lt_rt]
  have := h.2.1
  show f.num * 1 < 1 * f.den
  omega
theorem Fd.pos {f : Rat} (h : Fd f) : 0 < f := by
  rw [lt_rt]
  have := h.1
  show 0 * (f.den : Int) < f.num * 1
  omega
theorem fade_ok {f : Rat} (h : Fd f) : F_is_fade ca (fr f) = ret (.v (.bl true)) := by
  obtain ⟨h1, h2, h3⟩ := h
  have h3' : (f.den : Int) ≤ 999 := by omega
  unfold F_is_fade B_is_fade
  simp [fr_ok, leU, h1, h2, h3']
theorem meant_ok {f : Rat} (h : Fd f) : F_meant_fade ca (fr f) = ret (.v (fr f)) := by
  unfold F_meant_fade B_meant_fade
  simp [isF, isHole, isNone, fade_ok h]
theorem meant_non : F_meant_fade ca .non = ret (.v (fr hf)) := by
  unfold F_meant_fade B_meant_fade
  simp [isF, isHole, isNone, frh]
def moved (f e : Rat) : Rat := 2 * (f * e / (1 - f * (1 - e)))
def cut1 (x : Rat) : Rat := if 1 < x then 1 else x
theorem far_pos {xss yss : List (List Rat)} : 0 ≤ far xss yss := by
  have key : ∀ xs (m : Rat), 0 ≤ m → 0 ≤ mxs xs m := by
    intro xs
    induction xs with
    | nil => intro m h; exact h
    | cons x xs ih =>
      intro m h
      rw [mxs]
      refine ih _ ?_
      split
      · grind
      · exact h
  exact key _ 0 (by decide)
theorem left_pos {f e : Rat} (h0 : 0 < f) (h1 : f < 1) (h : 0 ≤ e) : 0 < 1 - f * (1 - e) := by
  have : 0 ≤ f * e := Rat.mul_nonneg (by grind) h
  grind
theorem moved_sz {f e : Rat} (hf : Fd f) (he : Sz 135 e) (h : 0 ≤ e) : Sz 311 (moved f e) := by
  have a := szS (sz1 (B := 1) (by decide)) he
  have b := szM hf.sz a
  have c := szS (sz1 (B := 1) (by decide)) b
  have p := left_pos hf.pos hf.lt h
  have d := szD (szM hf.sz he) c (by grind)
  have z := szM sz2 d
  exact Sz.mono z (by omega)
theorem moved_pos {f e : Rat} (h0 : 0 < f) (h1 : f < 1) (h : 0 ≤ e) : moved f e = 0 ↔ e = 0 := by
  have p := left_pos h0 h1 h
  unfold moved
  grind
end NT

namespace NT
open PySem SL NF
variable {ca : Nat → Addr}
theorem call1 {F : PV → W RV} {a c : PV} (h : F a = ret (.v c)) : callW (ar1 F) [] (vcons (ret a) vnil) = ret c := by
  rw [r_vnil, r_vcons, r_callW, List.append_nil, r_ar1, h]
  rfl
theorem call2 {F : PV → PV → W RV} {a b c : PV} (h : F a b = ret (.v c)) : callW (ar2 F) [] (vcons (ret a) (vcons (ret b) vnil)) = ret c := by
  rw [r_vnil, r_vcons, r_vcons, r_callW, List.append_nil, r_ar2, h]
  rfl
theorem call3 {F : PV → PV → PV → W RV} {a b c d : PV} (h : F a b c = ret (.v d)) : callW (ar3 F) [] (vcons (ret a) (vcons (ret b) (vcons (ret c) vnil))) = ret d := by
  rw [r_vnil, r_vcons, r_vcons, r_vcons, r_callW, List.append_nil, r_ar3, h]
  rfl
theorem most_eq {zs : List Str} {n : Nat} {xss yss : List (List Rat)} {f : Rat} {a : PV} (hm : F_meant_fade ca a = ret (.v (fr f))) (hz : ∀ z ∈ zs, NF.Mk z) (hf : Fd f) (hn : n ≤ 6) (hx : Rws n xss) (hy : Rws n yss) (hl : xss.length ≤ 50000) (hl2 : yss.length ≤ 50000) : F_most_moved ca (ma ca zs xss) (ma ca zs yss) a = ret (.v (fr (cut1 (moved f (far xss yss))))) := by
  have e1 := twins_ok (ca := ca) (xss := xss) (yss := yss) hz
  have e2 := spread_eq (ca := ca) (zs := zs) (ys := zs) hn hx hy hl hl2
  have sf : Sz 312 f := hf.sz.mono (by decide)
  have se' : Sz 135 (far xss yss) := mxs_p (sz0 (by decide)) (far_sz hn hx hy)
  have se : Sz 312 (far xss yss) := se'.mono (by decide)
  have p0 : 0 ≤ far xss yss := far_pos
  generalize hE : far xss yss = E at *
  have s1 : Sz 312 1 := sz1 (by decide)
  have a1 := minus_eq (ca := ca) s1 se (by decide) (by decide)
  have t1 := szS (sz1 (B := 1) (by decide)) se'
  have a2 := times_eq (ca := ca) sf (t1.mono (show _ ≤ 312 by decide)) (by decide) (by decide)
  have t2 := szM hf.sz t1
  have a3 := times_eq (ca := ca) sf se (by decide) (by decide)
  have t3 := szM hf.sz se'
  have a4 := minus_eq (ca := ca) s1 (t2.mono (show _ ≤ 312 by decide)) (by decide) (by decide)
  have t4 := szS (sz1 (B := 1) (by decide)) t2
  have p := left_pos hf.pos hf.lt p0
  have nz : 1 - f * (1 - E) ≠ 0 := by grind
  have a5 := over_eq (ca := ca) (t3.mono (show _ ≤ 312 by decide)) (t4.mono (show _ ≤ 312 by decide)) nz (by decide) (by decide)
  have t5 := szD t3 t4 nz
  have a6 := times_eq (ca := ca) (sz2.mono (show _ ≤ 312 by decide)) (t5.mono (show _ ≤ 312 by decide)) (by decide) (by decide)
  have t6 : Sz 312 (moved f E) := (moved_sz hf se' p0).mono (by decide)
  have a7 := under_eq (ca := ca) s1 t6 (by decide) (by decide)
  rw [← fr1] at a1 a4 a7
  rw [← fr2] at a6
  have a6' : F_times ca (.tup [.int 2, .int 1]) (fr (f * E / (1 - f * (1 - E)))) = ret (.v (fr (moved f E))) := a6
  unfold F_most_moved B_most_moved
  rw [call2 e1, r_bind, call1 hm, r_bind, call2 e2, r_bind, call2 a1, call2 a2, r_bind, call2 a3, call2 a4, call2 a5, r_bind, call2 a6', r_bind, call2 a7, r_tst]
  unfold cut1
  by_cases c : 1 < moved f E
  · rw [if_pos c, decide_eq_true c, r_ifE1]
    rfl
  · rw [if_neg c, decide_eq_false c, r_ifE0]
    rfl
end NT

namespace SL
open PySem PySem.Spec PyProof.Rows L2 Evl NF WL
/-! ### code that answers one of some values, and leaves the places as they were -/
section
variable {α β A T : Type} {m : W α} {S : Sto} {P P2 : α → Prop} {Q : β → Prop}
def Ans (m : W α) (S : Sto) (P : α → Prop) : Prop := ∀ Ψ Ξ, (∀ a, P a → Ψ a S) → m S Ψ Ξ
theorem Ans.of {a : α} (h : m = ret a) (p : P a) : Ans m S P := fun Ψ Ξ k => by rw [h]; exact k a p
theorem Ans.ret {a : α} (p : P a) : Ans (SL.ret a) S P := fun Ψ Ξ k => k a p
theorem Ans.bind {f : α → W β} (h : Ans m S P) (k : ∀ a, P a → Ans (f a) S Q) : Ans (SL.bind m f) S Q := fun Ψ Ξ z => h _ Ξ fun a pa => k a pa Ψ Ξ z
theorem Ans.mono (h : Ans m S P) (k : ∀ a, P a → P2 a) : Ans m S P2 := fun Ψ Ξ z => h Ψ Ξ fun a pa => z a (k a pa)
theorem Ans.lift {o : Option α} {a : α} (h : o = some a) (p : P a) : Ans (SL.lift o) S P := by
  rw [h, r_lift]
  exact Ans.ret p
theorem Ans.noX (h : Ans m S P) : Ans (SL.noX m) S P := fun Ψ Ξ z => h Ψ _ z
theorem Ans.given {a : α} (h : Gives m a) (p : P a) : Ans m S P := fun Ψ Ξ z => h S Ψ Ξ (z a p)
theorem Ans.bindF {m : W (Fl A)} {k : A → W (Fl T)} {I : A → Prop} {P : Fl T → Prop} (h : Ans m S fun fl => ∃ s, fl = .nx s ∧ I s) (hk : ∀ s, I s → Ans (k s) S P) : Ans (SL.bindF m k) S P := fun Ψ Ξ z => by
  refine use_bindF (h _ Ξ ?_)
  rintro _ ⟨s, rfl, hs⟩
  exact hk s hs Ψ Ξ z
theorem Ans.runF {m : W (Fl Unit)} {P : RV → Prop} (h : Ans m S fun fl => ∃ r, fl = .rt r ∧ P r) : Ans (SL.runF m) S P := fun Ψ Ξ z => by
  refine use_runF (h _ Ξ ?_)
  rintro _ ⟨r, rfl, hr⟩
  exact z r hr
theorem ans_take {p : Addr} {n : Int} (hs : S p = some .bag3) (h0 : 0 < n) (h9 : n < 2 ^ 20) : Ans (SL.noX (takeW (.ptr p) (.int n))) S fun r => ∃ d : Int, r = .v (.int d) ∧ 0 ≤ d ∧ d < n := fun Ψ Ξ z => ⟨p, n, rfl, hs, rfl, h0, by
  have : n.natAbs < 2 ^ 20 := by omega
  exact Nat.lt_of_lt_of_le this (Nat.pow_le_pow_right (by decide) (by decide)), fun d h1 h2 => z _ ⟨d, rfl, h1, h2⟩⟩
theorem ans_lend {m : W PV} {P : PV → Prop} (hS : LightS S) (h : Ans m S P) (hl : ∀ a, P a → light a = true) : Ans (lend m) S P := fun Ψ Ξ z => ⟨hS, h _ _ fun a pa => ⟨hl a pa, hS, z a pa⟩⟩
theorem ans_lendO {m : W (List PV)} {P : List PV → Prop} (hS : LightS S) (h : Ans m S P) (hl : ∀ a, P a → lights a = true) : Ans (lendO m) S P := fun Ψ Ξ z => ⟨hS, h _ _ fun a pa => ⟨hl a pa, hS, z a pa⟩⟩
theorem ans_lcF {F : PV → W PV} {P : PV → Prop} : ∀ {as : List PV}, (∀ a ∈ as, Ans (F a) S P) → Ans (lcF some (fun _ => SL.ret true) F as) S fun bs => bs.length = as.length ∧ ∀ b ∈ bs, P b
  | [], _ => Ans.ret ⟨rfl, fun b hb => absurd hb (List.not_mem_nil)⟩
  | a :: as, h => by
    rw [lcF, r_lift, r_bind, r_bind, if_pos rfl]
    refine Ans.bind (h a (List.mem_cons_self ..)) fun b hb => ?_
    refine Ans.bind (ans_lcF fun c hc => h c (List.mem_cons_of_mem _ hc)) fun bs hbs => Ans.ret ?_
    refine ⟨by rw [List.length_cons, List.length_cons, hbs.1], fun x hx => ?_⟩
    rcases List.mem_cons.mp hx with rfl | hx
    · exact hb
    · exact hbs.2 x hx
theorem ans_lc {F : PV → W PV} {P : PV → Prop} {as : List PV} (hl : as.length ≤ 50000) (h : ∀ a ∈ as, Ans (F a) S P) : Ans (lcO some (fun _ => SL.ret true) F (SL.ret as)) S fun bs => bs.length = as.length ∧ ∀ b ∈ bs, P b := by
  unfold lcO
  simp only [r_bind]
  rw [show few 50000 as = some as by unfold few; rw [if_pos hl], r_lift, r_bind]
  exact (ans_lcF h).noX
theorem ans_for' {F : PV → T → W (Fl T)} (I : Nat → T → Prop) {n : Nat} (h : ∀ i s, i < n → I i s → Ans (F (.int (i : Int)) s) S fun fl => ∃ s', fl = .nx s' ∧ I (i + 1) s') : ∀ (m k : Nat) (s : T), k + m = n → I k s → Ans (forW some F ((List.range' k m).map fun i : Nat => .int (i : Int)) s) S fun fl => ∃ s', fl = .nx s' ∧ I n s'
  | 0, k, s, e, i => Ans.ret ⟨s, rfl, by rw [← e]; exact i⟩
  | m + 1, k, s, e, i => by
    rw [List.range'_succ, List.map_cons, r_for1]
    refine Ans.bindF (h k s (by omega) i) fun s' i' => ?_
    exact ans_for' I h m (k + 1) s' (by omega) i'
theorem ans_for {F : PV → T → W (Fl T)} (I : Nat → T → Prop) {n : Nat} {s : T} (i : I 0 s) (h : ∀ i s, i < n → I i s → Ans (F (.int (i : Int)) s) S fun fl => ∃ s', fl = .nx s' ∧ I (i + 1) s') : Ans (forW some F ((List.range n).map fun i : Nat => .int (i : Int)) s) S fun fl => ∃ s', fl = .nx s' ∧ I n s' := by
  rw [List.range_eq_range']
  exact ans_for' I h n 0 s (by omega) i
theorem ex_map {α : Type} {e : α → PV} {P : α → Prop} : ∀ {bs : List PV}, (∀ b ∈ bs, ∃ x, b = e x ∧ P x) → ∃ xs : List α, bs = xs.map e ∧ ∀ x ∈ xs, P x
  | [], _ => ⟨[], rfl, fun _ h => absurd h (List.not_mem_nil)⟩
  | b :: bs, h => by
    obtain ⟨x, rfl, hx⟩ := h b (List.mem_cons_self ..)
    obtain ⟨xs, rfl, hs⟩ := ex_map fun c hc => h c (List.mem_cons_of_mem _ hc)
    refine ⟨x :: xs, rfl, fun y hy => ?_⟩
    rcases List.mem_cons.mp hy with rfl | hy
    · exact hx
    · exact hs y hy
end
theorem atI_ok {as : List PV} {d : Int} (h0 : 0 ≤ d) (h1 : d < as.length) : ∃ a ∈ as, atI as d = some a := by
  have h : d.toNat < as.length := by omega
  refine ⟨as[d.toNat], List.getElem_mem h, ?_⟩
  have e : d = ((d.toNat : Nat) : Int) := by omega
  unfold atI
  rw [show ixN as.length d = some d.toNat by rw [e]; exact ixN_nat (by omega)]
  simp [h]
theorem light_fr (x : Rat) : light (.tup [.int x.num, .int x.den]) = true := rfl
theorem lights_frs : ∀ xs : List Rat, lights (xs.map fun x => PV.tup [.int x.num, .int x.den]) = true
  | [] => rfl
  | x :: xs => by
    rw [List.map_cons, lights, light_fr, lights_frs xs]
    rfl
/-! what is fine to show -/
theorem rep_fr {x : Rat} {B : Nat} (h : Sz B x) (h0 : 0 < B) (hB : B ≤ 1900) : ∃ z, repF [.tup [.int x.num, .int x.den]] = some (.str z) := by
  have f1 := fineI (bits_up h.num hB)
  have f2 := fineI (bits_up h.den hB)
  have w1 := weightI h.num h0
  have w2 := weightI h.den h0
  refine ⟨(PyData.tuple [.int x.num, .int x.den]).shown, ?_⟩
  show (if FineP _ _ then some (PV.str (PyData.tuple [.int x.num, .int x.den]).shown) else none) = _
  rw [if_pos]
  refine ⟨?_, .inl rfl, by show 1 ≤ 20; decide, ?_⟩
  · have a1 := f1.1
    have a2 := f2.1
    simp only [PyData.showable, PyData.showableAll] at *
    simp_all
  · have h5 := PyData.shown_le 2000 (by decide) (PyData.tuple [.int x.num, .int x.den]) (by
      have a1 := f1.2.2.1
      have a2 := f2.2.2.1
      simp only [PyData.leavesShort, PyData.leavesShortAll] at *
      simp_all)
    have h6 : (PyData.tuple [.int x.num, .int x.den]).weight ≤ 4000 := by
      simp only [PyData.weight, PyData.weightAll] at *
      omega
    have h8 : (2000 + 2) * (PyData.tuple [.int x.num, .int x.den]).weight ≤ 2002 * 4000 := Nat.mul_le_mul_left _ h6
    have h7 : 2002 * 4000 + 2000 ≤ sizeLine := by decide
    omega
end SL

namespace LW
open PySem SL NF NT
variable {ca : Nat → Addr}
theorem lowT_loop (n : Nat) : ∀ a b : Int, 0 ≤ a → 0 ≤ b → b.natAbs = n → W__law_low_eb1_1 ca (.int a, .int b) = ret (.nx (.int (Int.gcd a b), .int 0)) := by
  induction n using Nat.strongRecOn with
  | _ n ih =>
    intro a b ha hb hn
    unfold W__law_low_eb1_1
    by_cases c : b = 0
    · subst c
      rw [while_no (by simp)]
      congr 3
      simp
      omega
    · obtain ⟨h1, h2⟩ := NF.gcd_step (a := a) (b := b) c
      have h3 : 0 ≤ a.fmod b := Int.fmod_nonneg_of_pos a (by omega)
      have e := ih _ (by omega) b (a.fmod b) hb h3 rfl
      have c' : 0 < b := by omega
      rw [while_go (s' := (.int b, .int (a.fmod b))) (by simp [c']) (by simp [r_modI c, two]), ← h1]
      exact e
theorem lowT_eq {a b : Int} {B : Nat} (h : 0 < b) (hb : b.natAbs < 2 ^ B) (h0 : 0 < B) (h9 : B ≤ 9000) : F__law_low_eb1 ca (.int a) (.int b) = ret (.v (fr (Rat.divInt a b))) := by
  have e := lowT_loop (ca := ca) _ (if a < 0 then -a else a) b (by split <;> omega) (by omega) rfl
  have eg : Int.gcd (if a < 0 then -a else a) b = Int.gcd a b := by
    split
    · rw [Int.neg_gcd]
    · rfl
  rw [eg] at e
  have g0 : (Int.gcd a b : Int) ≠ 0 := by
    have := Int.gcd_pos_of_ne_zero_right a (show b ≠ 0 by omega)
    omega
  have gb := gcd_bits (a := a) (show b ≠ 0 by omega) hb
  have e1 := fdiv_ok (a := a) (b := (Int.gcd a b : Int)) (B := B) g0 gb h0 h9
  have e2 := fdiv_ok (a := b) (b := (Int.gcd a b : Int)) (B := B) g0 gb h0 h9
  obtain ⟨n1, n2⟩ := NF.red_pos (a := a) (b := b) (by omega)
  unfold F__law_low_eb1 B__law_low_eb1
  simp [e, e1, e2, n1, n2]
theorem lplus_eq {x y : Rat} {B : Nat} (hx : Sz B x) (hy : Sz B y) (h0 : 0 < B) (h4 : B ≤ 4500) : F__law_plus ca (fr x) (fr y) = ret (.v (fr (x + y))) := by
  have m1 := mul_ok hx.num hy.den h0 h0 (by omega)
  have m2 := mul_ok hy.num hx.den h0 h0 (by omega)
  have m3 := mul_ok hx.den hy.den h0 h0 (by omega)
  have hd := bits_mul hx.den hy.den
  have p : 0 < (x.den : Int) * y.den := Int.mul_pos (denp x) (denp y)
  unfold F__law_plus B__law_plus
  simp [m1, m2, m3, lowT_eq (ca := ca) (a := x.num * y.den + y.num * x.den) p hd (by omega) (by omega)]
  rw [add_rt]
theorem ltimes_eq {x y : Rat} {B : Nat} (hx : Sz B x) (hy : Sz B y) (h0 : 0 < B) (h4 : B ≤ 4500) : F__law_times ca (fr x) (fr y) = ret (.v (fr (x * y))) := by
  have m1 := mul_ok hx.num hy.num h0 h0 (by omega)
  have m3 := mul_ok hx.den hy.den h0 h0 (by omega)
  have hd := bits_mul hx.den hy.den
  have p : 0 < (x.den : Int) * y.den := Int.mul_pos (denp x) (denp y)
  unfold F__law_times B__law_times
  simp [m1, m3, lowT_eq (ca := ca) (a := x.num * y.num) p hd (by omega) (by omega)]
  rw [mul_rt]
theorem lless_eq {x y : Rat} {B : Nat} (hx : Sz B x) (hy : Sz B y) (h0 : 0 < B) (h4 : B ≤ 4500) : F__law_less ca (fr x) (fr y) = ret (.v (.bl (decide (x < y)))) := by
  have m1 := mul_ok hx.num hy.den h0 h0 (by omega)
  have m2 := mul_ok hy.num hx.den h0 h0 (by omega)
  unfold F__law_less B__law_less
  simp [m1, m2]
  congr 3
  exact decide_eq_decide.mpr (lt_rt x y).symm
theorem abs_rt (x : Rat) : ((if x.num < 0 then -x.num else x.num) = (if x < 0 then -x else x).num) ∧ (x.den = (if x < 0 then -x else x).den) := by
  have h : x < 0 ↔ x.num < 0 := by
    rw [lt_rt]
    show x.num * 1 < 0 * _ ↔ _
    omega
  by_cases c : x < 0
  · rw [if_pos c, if_pos (h.mp c)]
    exact ⟨rfl, rfl⟩
  · rw [if_neg c, if_neg (fun z => c (h.mpr z))]
    exact ⟨rfl, rfl⟩
theorem ap_abs (x y : Rat) : (if x - y < 0 then -(x - y) else x - y) = ap x y := by
  unfold NF.ap
  grind
theorem lfar_eq {x y : Rat} {B : Nat} (hx : Sz B x) (hy : Sz B y) (h0 : 0 < B) (h4 : B ≤ 4500) : F__law_far ca (fr x) (fr y) = ret (.v (fr (ap x y))) := by
  have m1 := mul_ok hx.num hy.den h0 h0 (by omega)
  have m2 := mul_ok hy.num hx.den h0 h0 (by omega)
  have m3 := mul_ok hx.den hy.den h0 h0 (by omega)
  have hd := bits_mul hx.den hy.den
  have p : 0 < (x.den : Int) * y.den := Int.mul_pos (denp x) (denp y)
  have el := lowT_eq (ca := ca) (a := x.num * y.den - y.num * x.den) p hd (by omega) (by omega)
  rw [← sub_rt] at el
  obtain ⟨a1, a2⟩ := abs_rt (x - y)
  rw [ap_abs] at a1 a2
  unfold F__law_far B__law_far
  simp [m1, m2, m3, el, a1, a2]
theorem total_loop {B : Nat} (hb : 0 < B) : ∀ (xs : List Rat) (m : Rat) (k : Nat), Sz k m → 0 < k → (∀ x ∈ xs, Sz B x) → k + (B + 1) * xs.length ≤ 4000 → B ≤ 4000 → forW some (L__law_total_1 ca) (frs xs) (fr m) = ret (.nx (fr (m + sumR xs)))
  | [], m, k, hm, _, _, _, _ => by
    show SL.ret _ = SL.ret (Fl.nx (fr (m + 0)))
    rw [Rat.add_zero]
  | x :: xs, m, k, hm, k0, hs, hl, hB => by
    have hx := hs x (List.mem_cons_self ..)
    rw [List.length_cons, Nat.mul_add] at hl
    have e : L__law_total_1 ca (fr x) (fr m) = ret (.nx (fr (m + x))) := by
      unfold L__law_total_1
      simp [lplus_eq (ca := ca) (B := k + B) (hm.mono (by omega)) (hx.mono (by omega)) (by omega) (by omega)]
    show forW some (L__law_total_1 ca) (fr x :: frs xs) (fr m) = _
    rw [r_for1, e, r_bindF_nx, total_loop hb xs (m + x) (k + B + 1) (hm.addAB hx) (by omega) (fun y hy => hs y (List.mem_cons_of_mem _ hy)) (by omega) hB]
    show _ = SL.ret (Fl.nx (fr (m + (x + sumR xs))))
    rw [Rat.add_assoc]
theorem ltotal_eq {B : Nat} {xs : List Rat} (hb : 0 < B) (hs : ∀ x ∈ xs, Sz B x) (hl : 1 + (B + 1) * xs.length ≤ 4000) (hB : B ≤ 4000) : F__law_total ca (.lst (frs xs)) = ret (.v (fr (sumR xs))) := by
  have e := total_loop (ca := ca) hb xs 0 1 (sz0 (by decide)) (by decide) hs hl hB
  rw [Rat.zero_add] at e
  have e' : forW some (L__law_total_1 ca) (frs xs) (.tup [.int 0, .int 1]) = ret (.nx (fr (sumR xs))) := e
  unfold F__law_total B__law_total
  simp [e']
theorem lowB_loop (n : Nat) : ∀ a b : Int, 0 ≤ a → 0 ≤ b → b.natAbs = n → W__law_low_1 ca (.int a, .int b) = ret (.nx (.int (Int.gcd a b), .int 0)) := by
  induction n using Nat.strongRecOn with
  | _ n ih =>
    intro a b ha hb hn
    unfold W__law_low_1
    by_cases c : b = 0
    · subst c
      rw [while_no (by simp)]
      congr 3
      simp
      omega
    · obtain ⟨h1, h2⟩ := NF.gcd_step (a := a) (b := b) c
      have h3 : 0 ≤ a.fmod b := Int.fmod_nonneg_of_pos a (by omega)
      have e := ih _ (by omega) b (a.fmod b) hb h3 rfl
      have hg : Int.gcd a b = Int.gcd b (a.fmod b) := h1.symm
      rw [while_go (s' := (.int b, .int (a.fmod b))) (by simp [c]) (by simp [r_modI c, two]), hg]
      exact e
theorem lowB_eq {a b : Int} {B : Nat} (h : 0 < b) (hb : b.natAbs < 2 ^ B) (h0 : 0 < B) (h9 : B ≤ 9000) : F__law_low ca (.int a) (.int b) = ret (.v (fr (Rat.divInt a b))) := by
  have e := lowB_loop (ca := ca) _ (if a < 0 then -a else a) b (by split <;> omega) (by omega) rfl
  have eg : Int.gcd (if a < 0 then -a else a) b = Int.gcd a b := by
    split
    · rw [Int.neg_gcd]
    · rfl
  rw [eg] at e
  have g0 : (Int.gcd a b : Int) ≠ 0 := by
    have := Int.gcd_pos_of_ne_zero_right a (show b ≠ 0 by omega)
    omega
  have gb := gcd_bits (a := a) (show b ≠ 0 by omega) hb
  have e1 := fdiv_ok (a := a) (b := (Int.gcd a b : Int)) (B := B) g0 gb h0 h9
  have e2 := fdiv_ok (a := b) (b := (Int.gcd a b : Int)) (B := B) g0 gb h0 h9
  obtain ⟨n1, n2⟩ := NF.red_pos (a := a) (b := b) (by omega)
  unfold F__law_low B__law_low
  simp [e, e1, e2, n1, n2]
theorem ladd_eq {x y : Rat} {B : Nat} (hx : Sz B x) (hy : Sz B y) (h0 : 0 < B) (h4 : B ≤ 4500) : F__law_add ca (fr x) (fr y) = ret (.v (fr (x + y))) := by
  have m1 := mul_ok hx.num hy.den h0 h0 (by omega)
  have m2 := mul_ok hy.num hx.den h0 h0 (by omega)
  have m3 := mul_ok hx.den hy.den h0 h0 (by omega)
  have hd := bits_mul hx.den hy.den
  have p : 0 < (x.den : Int) * y.den := Int.mul_pos (denp x) (denp y)
  unfold F__law_add B__law_add
  simp [m1, m2, m3, lowB_eq (ca := ca) (a := x.num * y.den + y.num * x.den) p hd (by omega) (by omega)]
  rw [add_rt]
theorem lmul_eq {x y : Rat} {B : Nat} (hx : Sz B x) (hy : Sz B y) (h0 : 0 < B) (h4 : B ≤ 4500) : F__law_mul ca (fr x) (fr y) = ret (.v (fr (x * y))) := by
  have m1 := mul_ok hx.num hy.num h0 h0 (by omega)
  have m3 := mul_ok hx.den hy.den h0 h0 (by omega)
  have hd := bits_mul hx.den hy.den
  have p : 0 < (x.den : Int) * y.den := Int.mul_pos (denp x) (denp y)
  unfold F__law_mul B__law_mul
  simp [m1, m3, lowB_eq (ca := ca) (a := x.num * y.num) p hd (by omega) (by omega)]
  rw [mul_rt]
theorem sum_loop {B : Nat} (hb : 0 < B) : ∀ (xs : List Rat) (m : Rat) (k : Nat), Sz k m → 0 < k → (∀ x ∈ xs, Sz B x) → k + (B + 1) * xs.length ≤ 4000 → B ≤ 4000 → forW some (L__law_sum_1 ca) (frs xs) (fr m) = ret (.nx (fr (m + sumR xs)))
  | [], m, k, hm, _, _, _, _ => by
    show SL.ret _ = SL.ret (Fl.nx (fr (m + 0)))
    rw [Rat.add_zero]
  | x :: xs, m, k, hm, k0, hs, hl, hB => by
    have hx := hs x (List.mem_cons_self ..)
    rw [List.length_cons, Nat.mul_add] at hl
    have e : L__law_sum_1 ca (fr x) (fr m) = ret (.nx (fr (m + x))) := by
      unfold L__law_sum_1
      simp [ladd_eq (ca := ca) (B := k + B) (hm.mono (by omega)) (hx.mono (by omega)) (by omega) (by omega)]
    show forW some (L__law_sum_1 ca) (fr x :: frs xs) (fr m) = _
    rw [r_for1, e, r_bindF_nx, sum_loop hb xs (m + x) (k + B + 1) (hm.addAB hx) (by omega) (fun y hy => hs y (List.mem_cons_of_mem _ hy)) (by omega) hB]
    show _ = SL.ret (Fl.nx (fr (m + (x + sumR xs))))
    rw [Rat.add_assoc]
theorem lsum_eq {B : Nat} {xs : List Rat} (hb : 0 < B) (hs : ∀ x ∈ xs, Sz B x) (hl : 1 + (B + 1) * xs.length ≤ 4000) (hB : B ≤ 4000) : F__law_sum ca (.lst (frs xs)) = ret (.v (fr (sumR xs))) := by
  have e := sum_loop (ca := ca) hb xs 0 1 (sz0 (by decide)) (by decide) hs hl hB
  rw [Rat.zero_add] at e
  have e' : forW some (L__law_sum_1 ca) (frs xs) (.tup [.int 0, .int 1]) = ret (.nx (fr (sumR xs))) := e
  unfold F__law_sum B__law_sum
  simp [e']
theorem lfarB_eq {x y : Rat} {B : Nat} (hx : Sz B x) (hy : Sz B y) (h0 : 0 < B) (h4 : B ≤ 4500) : F__law_far_b93 ca (fr x) (fr y) = ret (.v (fr (ap x y))) := by
  have hy' : Sz B (-y) := ⟨by rw [Rat.neg_num, Int.natAbs_neg]; exact hy.num, by rw [Rat.neg_den]; exact hy.2⟩
  have el := ladd_eq (ca := ca) hx hy' h0 h4
  have e2 : fr (-y) = .tup [.int (0 - y.num), .int y.den] := by
    show PV.tup [.int (-y).num, .int ((-y).den : Int)] = _
    rw [Rat.neg_num, Rat.neg_den, Int.zero_sub]
  rw [e2, ← Rat.sub_eq_add_neg, Int.zero_sub] at el
  obtain ⟨a1, a2⟩ := abs_rt (x - y)
  rw [ap_abs] at a1 a2
  unfold F__law_far_b93 B__law_far_b93
  simp [el, a1, a2]
end LW

namespace SL
open PySem PySem.Spec PyProof.Rows L2 Evl NF WL
/-! ### answers of one of some values, construct by construct -/
section
variable {α β A T : Type} {m : W α} {S : Sto} {P P2 : α → Prop} {Q : β → Prop} {ma mb : W PV} {ms : W (List PV)} {Pa Pb R : PV → Prop} {Ps Rs : List PV → Prop}
theorem Ans.eq {a : α} : Ans (SL.ret a) S (· = a) := Ans.ret rfl
theorem ans_op2 {f : PV → PV → Option PV} (ha : Ans ma S Pa) (hb : Ans mb S Pb) (h : ∀ a b, Pa a → Pb b → ∃ c, f a b = some c ∧ R c) : Ans (op2 f ma mb) S R := Ans.bind ha fun a pa => Ans.bind hb fun b pb => by
  obtain ⟨c, e, r⟩ := h a b pa pb
  exact Ans.lift e r
theorem ans_op1 {f : PV → Option PV} (ha : Ans ma S Pa) (h : ∀ a, Pa a → ∃ c, f a = some c ∧ R c) : Ans (op1 f ma) S R := Ans.bind ha fun a pa => by
  obtain ⟨c, e, r⟩ := h a pa
  exact Ans.lift e r
theorem ans_cb {f : List PV → Option PV} (ha : Ans ms S Ps) (h : ∀ as, Ps as → ∃ c, f as = some c ∧ R c) : Ans (cb f ms) S R := Ans.bind ha fun a pa => by
  obtain ⟨c, e, r⟩ := h a pa
  exact Ans.lift e r
theorem ans_cbO {f : List PV → Option (List PV)} (ha : Ans ms S Ps) (h : ∀ as, Ps as → ∃ c, f as = some c ∧ Rs c) : Ans (cbO f ms) S Rs := Ans.bind ha fun a pa => by
  obtain ⟨c, e, r⟩ := h a pa
  exact Ans.lift e r
theorem ans_nil : Ans vnil S (· = []) := Ans.ret rfl
theorem ans_cons (ha : Ans ma S Pa) (hs : Ans ms S Ps) (h : ∀ a as, Pa a → Ps as → Rs (a :: as)) : Ans (vcons ma ms) S Rs := Ans.bind ha fun a pa => Ans.bind hs fun as ps => Ans.ret (h a as pa ps)
theorem ans_one (ha : Ans ma S Pa) : Ans (vcons ma vnil) S fun as => ∃ a, as = [a] ∧ Pa a := ans_cons ha ans_nil fun a as pa e => ⟨a, by rw [e], pa⟩
theorem ans_two (ha : Ans ma S Pa) (hb : Ans mb S Pb) : Ans (vcons ma (vcons mb vnil)) S fun as => ∃ a b, as = [a, b] ∧ Pa a ∧ Pb b := ans_cons ha (ans_one hb) fun a as pa h => by
  obtain ⟨b, rfl, pb⟩ := h
  exact ⟨a, b, rfl, pa, pb⟩
theorem ans_call {F : List PV → W RV} {ds : List PV} (hs : Ans ms S Ps) (h : ∀ as, Ps as → Ans (F (as ++ ds)) S fun r => R r.pv) : Ans (callW F ds ms) S R := Ans.bind hs fun as ps => Ans.bind (h as ps).noX fun r pr => Ans.ret pr
theorem ans_callO {F : List PV → W RV} {ds : List PV} (hs : Ans ms S Ps) (h : ∀ as, Ps as → Ans (F (as ++ ds)) S fun r => ∃ bs, r = .o bs ∧ Rs bs) : Ans (callO F ds ms) S Rs := Ans.bind hs fun as ps => Ans.bind (h as ps).noX fun r pr => by
  obtain ⟨bs, rfl, q⟩ := pr
  exact Ans.lift rfl q
theorem ans_tst (ha : Ans ma S fun a => ∃ b, a = .bl b ∧ P2' b) : Ans (tst ma) S P2' := Ans.bind ha fun a pa => by
  obtain ⟨b, rfl, q⟩ := pa
  exact Ans.lift rfl q
theorem ans_setl (hs : Ans ms S Ps) (h : ∀ as, Ps as → R (.lst as)) : Ans (setl ms) S R := Ans.bind hs fun as ps => Ans.ret (h as ps)
theorem ans_tup (hs : Ans ms S Ps) (h : ∀ as, Ps as → as.length ≤ 100000 ∧ R (.tup as)) : Ans (tupW ms) S R := Ans.bind hs fun as ps => Ans.lift (if_pos (h as ps).1) (h as ps).2
theorem ans_lst (hs : Ans ms S Ps) (h : ∀ as, Ps as → as.length ≤ 100000 ∧ Rs as) : Ans (lstO ms) S Rs := Ans.bind hs fun as ps => Ans.lift (if_pos (h as ps).1) (h as ps).2
theorem ans_itR {n : Int} (hs : Ans ms S (· = [.int n])) (h1 : -(2 ^ 60) < n) (h2 : n < 2 ^ 60) : Ans (itR ms) S (· = (List.range n.toNat).map fun i : Nat => .int (i : Int)) := Ans.bind hs fun as e => by
  subst e
  refine Ans.lift (a := (List.range n.toNat).map fun i : Nat => .int (i : Int)) ?_ rfl
  show (if -(2 ^ 60) < n ∧ n < 2 ^ 60 then _ else none) = _
  rw [if_pos ⟨h1, h2⟩]
theorem ans_if {x y : W α} {c : W Bool} (hc : Ans c S Q') (h1 : Q' true → Ans x S P) (h0 : Q' false → Ans y S P) : Ans (ifE c x y) S P := Ans.bind hc fun b q => by
  cases b with
  | true => exact h1 q
  | false => exact h0 q
theorem ans_and {x y : W Bool} {P : Bool → Prop} (hx : Ans x S Q') (h1 : Q' true → Ans y S P) (h0 : Q' false → P false) : Ans (andT x y) S P := Ans.bind hx fun b q => by
  cases b with
  | true => exact h1 q
  | false => exact Ans.ret (h0 q)
theorem Ans.conj {P P2 : α → Prop} (h : ∃ a, Ans m S (· = a) ∧ P a) : Ans m S P := by
  obtain ⟨a, h1, h2⟩ := h
  exact h1.mono fun b e => by rw [e]; exact h2
/-! drawn numbers -/
variable {p : Addr} {n : Int}
theorem ans_takeC (hs : S p = some .bag3) (hn : Ans mb S (· = .int n)) (h0 : 0 < n) (h9 : n < 2 ^ 20) : Ans (callW (ar2 takeW) [] (vcons (ret (.ptr p)) (vcons mb vnil))) S fun a => ∃ d : Int, a = .int d ∧ 0 ≤ d ∧ d < n :=
  ans_call (ans_two Ans.eq hn) fun as h => by
    obtain ⟨a, b, rfl, rfl, rfl⟩ := h
    intro Ψ Ξ z
    exact ⟨p, n, rfl, hs, rfl, h0, Nat.lt_of_lt_of_le (show n.natAbs < 2 ^ 20 by omega) (Nat.pow_le_pow_right (by decide) (by decide)), fun d h1 h2 => z _ ⟨d, rfl, h1, h2⟩⟩
theorem ans_takeH (hs : S p = some .bag3) (hn : Ans mb S (· = .int n)) (h0 : 0 < n) (h9 : n.natAbs < 2 ^ 8000) : Ans (callW (ar2 takeW) [] (vcons (ret (.ptr p)) (vcons mb vnil))) S fun a => ∃ d : Int, a = .int d ∧ 0 ≤ d ∧ d < n :=
  ans_call (ans_two Ans.eq hn) fun as h => by
    obtain ⟨a, b, rfl, rfl, rfl⟩ := h
    intro Ψ Ξ z
    exact ⟨p, n, rfl, hs, rfl, h0, h9, fun d h1 h2 => z _ ⟨d, rfl, h1, h2⟩⟩
theorem ans_outC (hs : S p = some .bag2) (hn : Ans mb S (· = .int n)) (h0 : 0 < n) (h9 : n < 2 ^ 60) : Ans (callW (ar2 outW) [] (vcons (ret (.ptr p)) (vcons mb vnil))) S fun a => ∃ d : Int, a = .int d ∧ 0 ≤ d ∧ d < n :=
  ans_call (ans_two Ans.eq hn) fun as h => by
    obtain ⟨a, b, rfl, rfl, rfl⟩ := h
    intro Ψ Ξ z
    exact ⟨p, n, rfl, hs, rfl, h0, h9, fun d h1 h2 => z _ ⟨d, rfl, h1, h2⟩⟩
theorem lightS_bag3 {p : Addr} : LightS (put S0 p .bag3) := fun q c h => by
  by_cases e : q = p
  · subst e; rw [put_same] at h; cases h; rfl
  · rw [put_ne e] at h; cases h
theorem lightS_bag2 {p : Addr} : LightS (put S0 p .bag2) := fun q c h => by
  by_cases e : q = p
  · subst e; rw [put_same] at h; cases h; rfl
  · rw [put_ne e] at h; cases h
/-- an item of a list whose things are all such -/
theorem ix_any {as : List PV} {d : Int} {P : PV → Prop} (h0 : 0 ≤ d) (h1 : d < as.length) (h : ∀ a ∈ as, P a) : ∃ a, ixF (.lst as) (.int d) = some a ∧ P a := by
  obtain ⟨a, ha, e⟩ := atI_ok h0 h1
  exact ⟨a, e, h a ha⟩
theorem ix_str {z : Str} {d : Int} {P : Nat → Prop} (hl : z.length ≤ 100000) (h0 : 0 ≤ d) (h1 : d < z.cps.toList.length) (h : ∀ c ∈ z.cps.toList, P c) : ∃ c, ixF (.str z) (.int d) = some (.str ⟨#[c]⟩) ∧ P c := by
  have h2 : d.toNat < z.cps.toList.length := by omega
  refine ⟨z.cps.toList[d.toNat], ?_, h _ (List.getElem_mem h2)⟩
  show (if z.length ≤ 100000 then (atI z.cps.toList d).map fun c => PV.str ⟨#[c]⟩ else none) = _
  rw [if_pos hl]
  have e : d = ((d.toNat : Nat) : Int) := by omega
  have : atI z.cps.toList d = some z.cps.toList[d.toNat] := by
    conv => lhs; rw [e]
    exact atI_nat (List.getElem?_eq_getElem h2)
  rw [this]
  rfl
theorem set_ok {as : List PV} {d : Int} {a : PV} (h0 : 0 ≤ d) (h1 : d < as.length) : setF as (.int d) a = some (as.set d.toNat a) := by
  have ed : d = ((d.toNat : Nat) : Int) := by omega
  show (ixN as.length d).map (fun j => as.set j a) = _
  rw [show ixN as.length d = some d.toNat by conv => { lhs; rw [ed] }; exact ixN_nat (by omega)]
  rfl
theorem ans_pick {mL : W PV} {as : List PV} {k : Int} {P : PV → Prop} (he : mL = ret (.lst as)) (hs : S p = some .bag3) (hk : (as.length : Int) = k) (h0 : 0 < k) (h9 : k < 2 ^ 20) (h : ∀ a ∈ as, P a) : Ans (op2 ixF mL (callW (ar2 takeW) [] (vcons (ret (.ptr p)) (vcons (ret (.int k)) vnil)))) S P :=
  ans_op2 (Ans.of he rfl) (ans_takeC hs Ans.eq h0 h9) fun a b ea hb => by
    obtain ⟨d, rfl, d0, d1⟩ := hb
    subst ea
    exact ix_any d0 (by omega) h
theorem ans_pickO {mL : W PV} {as : List PV} {k : Int} {P : PV → Prop} (he : mL = ret (.lst as)) (hs : S p = some .bag2) (hk : (as.length : Int) = k) (h0 : 0 < k) (h9 : k < 2 ^ 60) (h : ∀ a ∈ as, P a) : Ans (op2 ixF mL (callW (ar2 outW) [] (vcons (ret (.ptr p)) (vcons (ret (.int k)) vnil)))) S P :=
  ans_op2 (Ans.of he rfl) (ans_outC hs Ans.eq h0 h9) fun a b ea hb => by
    obtain ⟨d, rfl, d0, d1⟩ := hb
    subst ea
    exact ix_any d0 (by omega) h
end
end SL

namespace LW
open PySem SL NF NT
variable {ca : Nat → Addr} {S : Sto} {p : Addr}
/-! ### what is drawn: marks, shares, machines -/
abbrev alph : Str := Str.ofString "abcdefghijklmnopqrstuvwxyz"
theorem alph_ok : ∀ c ∈ alph.cps.toList, 97 ≤ c ∧ c ≤ 122 := by decide +kernel
theorem alph_len : alph.cps.toList.length = 26 := by decide +kernel
theorem asSs_map : ∀ zs : List Str, asSs (zs.map PV.str) = some zs
  | [] => rfl
  | z :: zs => by
    show (asSs (zs.map PV.str)).map (z :: ·) = _
    rw [asSs_map zs]
    rfl
theorem glue_ok {as : List PV} (h : ∀ a ∈ as, ∃ c : Nat, a = .str ⟨#[c]⟩ ∧ 97 ≤ c ∧ c ≤ 122) (h1 : 1 ≤ as.length) (h4 : as.length ≤ 4) : ∃ z, joinS (Str.ofString "") (.lst as) = some (.str z) ∧ NF.Mk z := by
  obtain ⟨cs, rfl, hc⟩ := ex_map (e := fun c : Nat => PV.str ⟨#[c]⟩) h
  rw [List.length_map] at h1 h4
  have e1 : asSs (cs.map fun c : Nat => PV.str ⟨#[c]⟩) = some (cs.map fun c => ⟨#[c]⟩) := by
    have := asSs_map (cs.map fun c => ⟨#[c]⟩)
    rw [List.map_map] at this
    exact this
  refine ⟨Txt.join (Str.ofString "") (cs.map fun c => ⟨#[c]⟩), ?_, mk_glue h1 h4 hc⟩
  simp only [joinS, e1]
  rw [if_pos]
  have e2 : ((cs.map fun c => (⟨#[c]⟩ : Str)).map (·.length)).sum = cs.length := by
    rw [List.map_map]
    clear hc h h1 h4 e1
    induction cs with
    | nil => rfl
    | cons c cs ih => rw [List.map_cons, List.sum_cons, ih, List.length_cons, Nat.add_comm]; rfl
  rw [e2, List.length_map, show (Str.ofString "").length = 0 by decide +kernel]
  omega
theorem mark_ans (hs : S p = some .bag3) : Ans (F__law_mark ca (.ptr p)) S fun r => ∃ z, r.pv = .str z ∧ NF.Mk z := by
  unfold F__law_mark B__law_mark
  refine Ans.runF (Ans.bind (P := fun a => ∃ z, a = .str z ∧ NF.Mk z) ?_ fun a ha => ?_)
  · refine Ans.bind Ans.eq fun a e => ?_
    subst e
    refine Ans.bind (Ans.lift rfl rfl) fun s e => ?_
    subst e
    refine Ans.bind (P := fun a => ∃ as, a = .lst as ∧ (∀ a ∈ as, ∃ c : Nat, a = .str ⟨#[c]⟩ ∧ 97 ≤ c ∧ c ≤ 122) ∧ 1 ≤ as.length ∧ as.length ≤ 4) ?_ fun b hb => ?_
    · refine ans_setl (Ps := fun as => (∀ a ∈ as, ∃ c : Nat, a = .str ⟨#[c]⟩ ∧ 97 ≤ c ∧ c ≤ 122) ∧ 1 ≤ as.length ∧ as.length ≤ 4) ?_ fun as h => ⟨as, rfl, h⟩
      refine Ans.bind (P := fun as => 1 ≤ as.length ∧ as.length ≤ 4) ?_ fun as hl => ?_
      · refine Ans.bind (P := fun as => ∃ d : Int, as = [.int (1 + d)] ∧ 0 ≤ d ∧ d < 4) ?_ fun as h => ?_
        · refine (ans_one (ans_op2 Ans.eq (ans_takeC hs Ans.eq (by decide) (by decide)) (R := fun a => ∃ d : Int, a = .int (1 + d) ∧ 0 ≤ d ∧ d < 4) fun a b ea hb => ?_)).mono fun as h => ?_
          · obtain ⟨d, rfl, h0, h1⟩ := hb
            subst ea
            exact ⟨_, rfl, d, rfl, h0, h1⟩
          · obtain ⟨a, rfl, d, rfl, h0, h1⟩ := h
            exact ⟨d, rfl, h0, h1⟩
        · obtain ⟨d, rfl, h0, h1⟩ := h
          have hr : rngL [.int (1 + d)] = some ((List.range (1 + d).toNat).map fun i : Nat => .int (i : Int)) := by
            show (if -(2 ^ 60) < (1 + d) ∧ (1 + d) < 2 ^ 60 then _ else none) = _
            rw [if_pos ⟨by omega, by omega⟩]
          refine Ans.lift hr ?_
          simp
          omega
      · rw [show few 50000 as = some as by unfold few; rw [if_pos (by omega)], r_lift, r_bind]
        refine (Ans.noX (ans_lcF (P := fun a => ∃ c : Nat, a = .str ⟨#[c]⟩ ∧ 97 ≤ c ∧ c ≤ 122) fun a ha => ?_)).mono fun bs h => ⟨h.2, by omega, by omega⟩
        unfold E__law_mark_1
        refine ans_op2 Ans.eq (ans_takeC hs Ans.eq (by decide) (by decide)) fun a b ea hb => ?_
        obtain ⟨d, rfl, h0, h1⟩ := hb
        subst ea
        obtain ⟨c, e, hc⟩ := ix_str (z := alph) (d := d) (by decide +kernel) h0 (by rw [alph_len]; exact h1) alph_ok
        exact ⟨_, e, c, rfl, hc⟩
    · obtain ⟨as, rfl, h1, h2, h3⟩ := hb
      obtain ⟨z, e, hz⟩ := glue_ok h1 h2 h3
      exact Ans.lift e ⟨z, rfl, hz⟩
  · obtain ⟨z, rfl, hz⟩ := ha
    exact Ans.ret ⟨.v (.str z), rfl, z, rfl, hz⟩

theorem asIs_ints : ∀ is : List Int, asIs (is.map PV.int) = some is
  | [] => rfl
  | i :: is => by
    show (asIs (is.map PV.int)).map (i :: ·) = _
    rw [asIs_ints is]
    rfl
theorem sumF_ints (is : List Int) : sumF1 [.lst (is.map PV.int)] = some (.int is.sum) := by
  simp only [sumF1]
  rw [asIs_ints]
  rfl
theorem sum_nonneg : ∀ {is : List Int}, (∀ i ∈ is, 0 ≤ i) → 0 ≤ is.sum
  | [], _ => Int.le_refl 0
  | i :: is, h => by
    have h1 := h i (List.mem_cons_self ..)
    have h2 := sum_nonneg fun j hj => h j (List.mem_cons_of_mem _ hj)
    rw [List.sum_cons]
    omega
theorem sum_le {m : Int} : ∀ {is : List Int}, (∀ i ∈ is, i ≤ m) → is.sum ≤ is.length * m
  | [], _ => by simp
  | i :: is, h => by
    have h1 := h i (List.mem_cons_self ..)
    have h2 := sum_le fun j hj => h j (List.mem_cons_of_mem _ hj)
    rw [List.sum_cons, List.length_cons, Int.natCast_add, Int.add_mul]
    omega
theorem mem_le_sum : ∀ {is : List Int}, (∀ i ∈ is, 0 ≤ i) → ∀ i ∈ is, i ≤ is.sum
  | j :: is, h, i, hi => by
    have h0 := h j (List.mem_cons_self ..)
    have h2 := sum_nonneg fun j hj => h j (List.mem_cons_of_mem _ hj)
    rw [List.sum_cons]
    rcases List.mem_cons.mp hi with rfl | hi
    · omega
    · have := mem_le_sum (fun j hj => h j (List.mem_cons_of_mem _ hj)) i hi
      omega
theorem sum_zero : ∀ {is : List Int}, (∀ i ∈ is, 0 ≤ i) → is.sum = 0 → ∀ i ∈ is, i = 0 := fun h e i hi => by
  have h1 := mem_le_sum h i hi
  have h2 := h i hi
  omega
theorem sumR_div {s : Int} (hs : 0 < s) : ∀ is : List Int, sumR (is.map fun i => Rat.divInt i s) = Rat.divInt is.sum s
  | [] => by simp
  | i :: is => by
    have cz : s ≠ 0 := by omega
    rw [List.map_cons, List.sum_cons]
    show Rat.divInt i s + sumR (is.map fun i => Rat.divInt i s) = _
    rw [sumR_div hs is, Rat.divInt_add_divInt _ _ cz cz, ← Int.add_mul, Rat.divInt_mul_right cz]
theorem div_self {s : Int} (hs : 0 < s) : Rat.divInt s s = 1 := by
  rw [Rat.divInt_eq_div, Rat.div_def, Rat.mul_inv_cancel]
  intro e
  have : s = 0 := by exact_mod_cast e
  omega
theorem shs_div {is : List Int} (h0 : ∀ i ∈ is, 0 ≤ i) (hp : 0 < is.sum) (h9 : is.sum ≤ 999) : NT.Shs (is.map fun i => Rat.divInt i is.sum) is.length := by
  refine ⟨by simp, fun x hx => ?_, by rw [sumR_div hp, div_self hp]⟩
  obtain ⟨i, hi, rfl⟩ := List.mem_map.mp hx
  have e : is.sum = ((is.sum.toNat : Nat) : Int) := by omega
  rw [e]
  exact NF.shr_div (h0 i hi) (by rw [← e]; exact mem_le_sum h0 i hi) (by omega) (by omega)
theorem set_one {is : List Int} (h0 : ∀ i ∈ is, i = 0) {k : Nat} (hk : k < is.length) : (∀ i ∈ is.set k 1, 0 ≤ i) ∧ (is.set k 1).sum = 1 := by
  induction is generalizing k with
  | nil => simp at hk
  | cons j is ih =>
    have hj := h0 j (List.mem_cons_self ..)
    have hs : ∀ i ∈ is, i = 0 := fun i hi => h0 i (List.mem_cons_of_mem _ hi)
    cases k with
    | zero =>
      have s0 : is.sum = 0 := by
        clear ih hk h0
        induction is with
        | nil => rfl
        | cons a is ih => rw [List.sum_cons, hs a (List.mem_cons_self ..), ih fun i hi => hs i (List.mem_cons_of_mem _ hi)]; rfl
      refine ⟨fun i hi => ?_, ?_⟩
      · rcases List.mem_cons.mp hi with rfl | hi
        · decide
        · rw [hs i hi]; decide
      · rw [List.set_cons_zero, List.sum_cons, s0]
        rfl
    | succ k =>
      obtain ⟨a, b⟩ := ih hs (k := k) (by simpa using hk)
      refine ⟨fun i hi => ?_, ?_⟩
      · rcases List.mem_cons.mp hi with rfl | hi
        · omega
        · exact a i hi
      · rw [List.set_cons_succ, List.sum_cons, b, hj]
        rfl
theorem set_map {α : Type} {e : α → PV} (xs : List α) (k : Nat) (x : α) : (xs.map e).set k (e x) = (xs.set k x).map e := by rw [List.map_set]
theorem int_light {is : List Int} : lights (is.map PV.int) = true := by
  induction is with
  | nil => rfl
  | cons i is ih => rw [List.map_cons, lights, ih]; rfl
theorem shares_ans {n m : Nat} (hs : S p = some .bag3) (hS : LightS S) (h1 : 1 ≤ n) (h6 : n ≤ 6) (hm : m < 1000) (hnm : n * m ≤ 999) : Ans (F__law_shares ca (.ptr p) (.int (n : Int)) (.int (m : Int))) S fun r => ∃ xs, r = .o (frs xs) ∧ NT.Shs xs n := by
  unfold F__law_shares B__law_shares
  refine Ans.runF (Ans.bind (P := fun as => ∃ is : List Int, as = is.map PV.int ∧ is.length = n ∧ ∀ i ∈ is, 0 ≤ i ∧ i ≤ m) ?_ fun as h => ?_)
  · rw [show itR (vcons (ret (PV.int (n : Int))) vnil) = ret ((List.range n).map fun i : Nat => .int (i : Int)) by rw [r_vnil, r_vcons, r_itR _ (by omega) (by omega), Int.toNat_natCast]]
    refine (ans_lc (P := fun a => ∃ i : Int, a = .int i ∧ 0 ≤ i ∧ i ≤ m) (by simp; omega) fun a ha => ?_).mono fun bs h => ?_
    · unfold E__law_shares_1
      refine ans_op2 (Pb := fun a => ∃ i : Int, a = .int i ∧ 0 ≤ i ∧ i ≤ 1) (ans_takeC hs (n := (m : Int) + 1) (ans_op2 Ans.eq Ans.eq fun a b ea eb => ?_) (by omega) (by omega)) (ans_cb (ans_one (ans_op2 (R := fun a => ∃ b : Bool, a = .bl b) (ans_takeC hs Ans.eq (by decide) (by decide)) Ans.eq fun a b ha eb => ?_)) fun as h => ?_) fun a b ha hb => ?_
      · subst ea eb
        exact ⟨_, rfl, rfl⟩
      · obtain ⟨d, rfl, _, _⟩ := ha
        subst eb
        exact ⟨_, rfl, _, rfl⟩
      · obtain ⟨a, rfl, b, rfl⟩ := h
        refine ⟨_, rfl, _, rfl, ?_⟩
        split <;> omega
      · obtain ⟨d, rfl, h0, h1⟩ := ha
        obtain ⟨i, rfl, i0, i1⟩ := hb
        have e := mul_ok (a := d) (b := i) (A := 10) (B := 10) (by omega) (by omega) (by decide) (by decide) (by decide)
        refine ⟨_, e, _, rfl, Int.mul_nonneg h0 i0, ?_⟩
        have : d * i ≤ d * 1 := Int.mul_le_mul_of_nonneg_left i1 h0
        omega
    · obtain ⟨is, rfl, hi⟩ := ex_map (e := PV.int) h.2
      exact ⟨is, rfl, by simpa using h.1, hi⟩
  · obtain ⟨is, rfl, hl, hi⟩ := h
    have h0 : ∀ i ∈ is, 0 ≤ i := fun i h => (hi i h).1
    refine Ans.bindF (I := fun bs => ∃ js : List Int, bs = js.map PV.int ∧ js.length = n ∧ (∀ j ∈ js, 0 ≤ j) ∧ 0 < js.sum ∧ js.sum ≤ 999) ?_ fun bs hb => ?_
    · refine Ans.bind (P := fun b => b = decide (is.sum = 0)) (ans_tst ((ans_lend hS (P := fun a => a = .bl (decide (is.sum = 0))) (Ans.of ?_ rfl) fun a e => by rw [e]; rfl).mono fun a e => ⟨_, e, rfl⟩)) fun b hb => ?_
      · simp [sumF_ints]
      · subst hb
        by_cases c : is.sum = 0
        · rw [decide_eq_true c, if_pos rfl]
          refine Ans.bindF (I := fun bs => ∃ js : List Int, bs = js.map PV.int ∧ js.length = n ∧ (∀ j ∈ js, 0 ≤ j) ∧ 0 < js.sum ∧ js.sum ≤ 999) ?_ fun bs hb => Ans.ret ⟨bs, rfl, hb⟩
          refine Ans.bind Ans.eq fun a ea => ?_
          subst ea
          refine Ans.bind (ans_takeC hs Ans.eq (by omega) (by omega)) fun b hb => ?_
          obtain ⟨d, rfl, d0, d1⟩ := hb
          have e : setF (is.map PV.int) (.int d) (.int 1) = some ((is.set d.toNat 1).map PV.int) := by
            rw [set_ok d0 (by rw [List.length_map]; omega), List.map_set]
          refine Ans.bind (Ans.lift e rfl) fun bs eb => ?_
          subst eb
          obtain ⟨a, b⟩ := set_one (sum_zero h0 c) (k := d.toNat) (by omega)
          exact Ans.ret ⟨_, rfl, _, rfl, by simp [hl], a, by omega, by omega⟩
        · rw [decide_eq_false c, if_neg (by decide)]
          have p0 := sum_nonneg h0
          have p1 := sum_le (m := (m : Int)) fun i h => (hi i h).2
          have p2 : ((is.length : Nat) : Int) * (m : Int) ≤ 999 := by rw [hl]; exact_mod_cast hnm
          exact Ans.ret ⟨_, rfl, is, rfl, hl, h0, by omega, by omega⟩
    · obtain ⟨js, rfl, jl, j0, jp, j9⟩ := hb
      refine Ans.bind (P := fun as => as = frs (js.map fun i => Rat.divInt i js.sum)) (Ans.of ?_ rfl) fun as e => ?_
      · rw [r_itL]
        rw [lcO_map (g := fun j => fr (Rat.divInt j js.sum)) (by omega) fun j hj => ?_]
        · rw [frs, List.map_map]
          rfl
        · unfold E__law_shares_2
          have e := lowT_eq (ca := ca) (a := j) (b := js.sum) (B := 10) jp (by omega) (by decide) (by decide)
          simp [sumF_ints, e]
      · subst e
        refine Ans.ret ⟨_, rfl, _, rfl, ?_⟩
        have := shs_div j0 jp j9
        rw [jl] at this
        exact this
end LW

namespace LW
open PySem SL NF NT
variable {ca : Nat → Addr} {S : Sto} {p : Addr}
abbrev rowP (xs : List Rat) : PV := .lst (frs xs)
theorem itR_n (n : Nat) (h : n < 2 ^ 59) : itR (vcons (ret (PV.int (n : Int))) vnil) = ret ((List.range n).map fun i : Nat => .int (i : Int)) := by
  rw [r_vnil, r_vcons, r_itR _ (by omega) (by omega), Int.toNat_natCast]
theorem rows_light : ∀ xss : List (List Rat), lights (xss.map rowP) = false ∨ xss = []
  | [] => .inr rfl
  | xs :: xss => .inl rfl
theorem frs_light (xs : List Rat) : lights (frs xs) = true := lights_frs xs
theorem kinds_some : ∀ a ∈ [PV.int 1, .int 2, .int 3, .int 6], ∃ k : Nat, a = .int (k : Int) ∧ 1 ≤ k ∧ k ≤ 6 := by
  intro a ha
  simp at ha
  rcases ha with rfl | rfl | rfl | rfl
  · exact ⟨1, rfl, by decide, by decide⟩
  · exact ⟨2, rfl, by decide, by decide⟩
  · exact ⟨3, rfl, by decide, by decide⟩
  · exact ⟨6, rfl, by decide, by decide⟩
theorem machine_ans {most great : Nat} (hs : S p = some .bag3) (hS : LightS S) (h1 : 1 ≤ most) (h6 : most ≤ 6) (hg : 6 * great ≤ 999) : Ans (F__law_machine ca (.ptr p) (.int (most : Int)) (.int (great : Int))) S fun r => ∃ zs xss, r.pv = .tup [strs_ zs, rows_ xss] ∧ NT.Good zs xss ∧ zs.length ≤ most := by
  unfold F__law_machine B__law_machine
  refine Ans.runF ?_
  refine Ans.bind (P := fun a => ∃ n : Nat, a = .int (n : Int) ∧ 1 ≤ n ∧ n ≤ most) (ans_op2 Ans.eq (ans_takeC hs Ans.eq (by omega) (by omega)) fun a b ea hb => ?_) fun a ha => ?_
  · obtain ⟨d, rfl, h0, hd⟩ := hb
    subst ea
    exact ⟨_, rfl, 1 + d.toNat, by congr 1; omega, by omega, by omega⟩
  obtain ⟨n, rfl, n1, nm⟩ := ha
  have n6 : n ≤ 6 := by omega
  refine Ans.bind (P := fun a => ∃ zs : List Str, a = strs_ zs ∧ zs.length = 6 ∧ ∀ z ∈ zs, NF.Mk z) ?_ fun a ha => ?_
  · rw [show (PV.int 6) = .int ((6 : Nat) : Int) from rfl, itR_n 6 (by decide)]
    refine ans_setl (ans_lc (P := fun a => ∃ z, a = .str z ∧ NF.Mk z) (by simp) fun a _ => ?_) fun as h => ?_
    · unfold E__law_machine_1
      refine ans_call (ans_one Ans.eq) fun as h => ?_
      obtain ⟨b, rfl, rfl⟩ := h
      exact mark_ans hs
    · obtain ⟨zs, rfl, hz⟩ := ex_map h.2
      exact ⟨zs, rfl, by simpa using h.1, hz⟩
  obtain ⟨ws, rfl, w6, hw⟩ := ha
  refine Ans.bind (P := fun a => ∃ k : Nat, a = .int (k : Int) ∧ 1 ≤ k ∧ k ≤ 6) (ans_op2 (ans_setl (ans_lst (Ps := (· = [.int 1, .int 2, .int 3, .int 6])) (Ans.of (by simp) rfl) fun as e => ⟨by rw [e]; decide, e⟩) (R := (· = .lst [.int 1, .int 2, .int 3, .int 6])) fun as e => congrArg PV.lst e) (ans_takeC hs Ans.eq (by decide) (by decide)) fun a b ea hb => ?_) fun a ha => ?_
  · obtain ⟨d, rfl, h0, hd⟩ := hb
    rw [ea]
    exact ix_any h0 (by simpa using hd) kinds_some
  obtain ⟨k, rfl, k1, k6⟩ := ha
  refine Ans.bind (P := fun a => ∃ zs : List Str, a = strs_ zs ∧ zs.length = n ∧ ∀ z ∈ zs, NF.Mk z) ?_ fun a ha => ?_
  · rw [itR_n n (by omega)]
    refine ans_setl (ans_lc (P := fun a => ∃ z, a = .str z ∧ NF.Mk z) (by simp; omega) fun a _ => ?_) fun as h => ?_
    · unfold E__law_machine_2
      refine ans_op2 Ans.eq (ans_takeC hs Ans.eq (by omega) (by omega)) fun a b ea hb => ?_
      obtain ⟨d, rfl, h0, hd⟩ := hb
      subst ea
      refine ix_any h0 (by simp; omega) fun a ha => ?_
      obtain ⟨z, hz, rfl⟩ := List.mem_map.mp ha
      exact ⟨z, rfl, hw z hz⟩
    · obtain ⟨zs, rfl, hz⟩ := ex_map h.2
      exact ⟨zs, rfl, by simpa using h.1, hz⟩
  obtain ⟨zs, rfl, zl, hz⟩ := ha
  refine Ans.bind (P := fun as => as = []) (ans_lst ans_nil fun as e => ⟨by rw [e]; decide, e⟩) fun as e => ?_
  subst e
  refine Ans.bindF (I := fun bs => ∃ xss : List (List Rat), bs = xss.map rowP ∧ xss.length = n ∧ ∀ xs ∈ xss, NT.Shs xs n) ?_ fun bs hb => ?_
  · rw [itR_n n (by omega), r_bind]
    refine ans_for (I := fun i bs => ∃ xss : List (List Rat), bs = xss.map rowP ∧ xss.length = i ∧ ∀ xs ∈ xss, NT.Shs xs n) ⟨[], rfl, rfl, fun _ h => absurd h (List.not_mem_nil)⟩ fun i bs hi hb => ?_
    obtain ⟨xss, rfl, xl, hx⟩ := hb
    unfold L__law_machine_3
    refine Ans.bind (ans_call (Ps := (· = [.ptr p, .int (n : Int), .int (great : Int)])) (Ans.of (by simp) rfl) (R := fun a => ∃ xs, a = rowP xs ∧ NT.Shs xs n) fun as e => ?_) fun a ha => ?_
    · subst e
      refine (shares_ans hs hS n1 n6 (by omega) ?_).mono fun r h => ?_
      · have : n * great ≤ 6 * great := Nat.mul_le_mul_right _ n6
        omega
      · obtain ⟨xs, rfl, h⟩ := h
        exact ⟨xs, rfl, h⟩
    obtain ⟨xs, rfl, hxs⟩ := ha
    refine Ans.bindF (I := fun a => ∃ xs, a = rowP xs ∧ NT.Shs xs n) ?_ fun a ha => ?_
    · refine Ans.bind (P := fun b => b = true → 0 < i) (ans_and (Q' := fun b => b = true → 0 < i) (ans_tst (ans_op2 Ans.eq Ans.eq fun a b ea eb => ?_)) (fun h0 => ans_tst ((ans_op2 (R := fun a => ∃ b, a = .bl b) (ans_takeC hs Ans.eq (by decide) (by decide)) Ans.eq fun a b ha eb => ?_).mono fun a h => ?_)) fun _ h => by cases h) fun b hb => ?_
      · subst ea eb
        refine ⟨_, rfl, _, rfl, fun h => ?_⟩
        simpa using h
      · obtain ⟨d, rfl, _, _⟩ := ha
        subst eb
        exact ⟨_, r_eqI _ _, _, rfl⟩
      · obtain ⟨b, rfl⟩ := h
        exact ⟨b, rfl, fun _ => h0 rfl⟩
      · cases b with
        | false => exact Ans.ret ⟨_, rfl, xs, rfl, hxs⟩
        | true =>
          have i0 := hb rfl
          rw [if_pos rfl]
          refine Ans.bindF (I := fun a => ∃ xs, a = rowP xs ∧ NT.Shs xs n) ?_ fun a ha => Ans.ret ⟨a, rfl, ha⟩
          refine Ans.bind (P := fun a => ∃ xs, a = rowP xs ∧ NT.Shs xs n) (ans_setl (Ps := fun as => ∃ xs, as = frs xs ∧ NT.Shs xs n) (ans_lendO hS (ans_cbO (ans_one (ans_op2 Ans.eq (ans_takeC hs Ans.eq (by omega) (by omega)) (R := fun a => ∃ xs, a = rowP xs ∧ NT.Shs xs n) fun a b ea hb => ?_)) fun as h => ?_) fun as h => ?_) fun as h => ?_) fun a ha => Ans.ret ⟨a, rfl, ha⟩
          · obtain ⟨d, rfl, h0, hd⟩ := hb
            subst ea
            refine ix_any h0 (by simp; omega) fun a ha => ?_
            obtain ⟨ys, hy, rfl⟩ := List.mem_map.mp ha
            exact ⟨ys, rfl, hx ys hy⟩
          · obtain ⟨a, rfl, ys, rfl, hy⟩ := h
            exact ⟨_, by simp [listF], ys, rfl, hy⟩
          · obtain ⟨ys, rfl, hy⟩ := h
            exact lights_frs ys
          · obtain ⟨ys, rfl, hy⟩ := h
            exact ⟨ys, rfl, hy⟩
    · obtain ⟨ys, rfl, hy⟩ := ha
      refine Ans.bindF (I := fun bs => ∃ xss : List (List Rat), bs = xss.map rowP ∧ xss.length = i + 1 ∧ ∀ xs ∈ xss, NT.Shs xs n) ?_ fun bs hb => Ans.ret ⟨bs, rfl, hb⟩
      refine Ans.bind Ans.eq fun a ea => ?_
      subst ea
      rw [if_pos (by simp; omega), r_lift, r_bind]
      refine Ans.ret ⟨_, rfl, xss ++ [ys], by rw [List.map_append]; rfl, by simp [xl], fun x h => ?_⟩
      rcases List.mem_append.mp h with h | h
      · exact hx x h
      · rw [List.mem_singleton.mp h]; exact hy
  · obtain ⟨xss, rfl, xl, hx⟩ := hb
    refine Ans.bind (P := fun a => a = .tup [strs_ zs, rows_ xss]) (Ans.of (by simp) rfl) fun a e => ?_
    subst e
    exact Ans.ret ⟨_, rfl, zs, xss, rfl, ⟨by omega, by omega, hz, by omega, fun xs h => by rw [zl]; exact hx xs h⟩, by omega⟩
end LW

namespace SL
open PySem
/-! ### the loop of a law over its script -/
def Bags (S : Sto) : Prop := ∀ q c, S q = some c → c = .bag3 ∨ c = .bag2
theorem Bags.light {S : Sto} (h : Bags S) : LightS S := fun q c e => by
  rcases h q c e with rfl | rfl <;> rfl
theorem Bags.none : Bags S0 := fun q c e => by cases e
theorem Bags.put3 {S : Sto} {p : Addr} (h : Bags S) : Bags (put S p .bag3) := fun q c e => by
  by_cases x : q = p
  · subst x; rw [put_same] at e; cases e; exact .inl rfl
  · rw [put_ne x] at e; exact h q c e
theorem Bags.put2 {S : Sto} {p : Addr} (h : Bags S) : Bags (put S p .bag2) := fun q c e => by
  by_cases x : q = p
  · subst x; rw [put_same] at e; cases e; exact .inr rfl
  · rw [put_ne x] at e; exact h q c e
theorem frame {L : PV → Unit → W (Fl Unit)} {m : Nat} {mi : W (List PV)} (hm : mi = ret ((List.range m).map fun i : Nat => .int (i : Int))) (hb : ∀ k, k < m → ∀ S, Bags S → ∀ Φ : Fl Unit → Sto → Prop, (∀ S', Bags S' → Φ (.nx ()) S') → L (.int (k : Int)) () S Φ fun _ _ => False) :
    runF (bindF (bind mi fun as => forW some L as ()) fun _ => bind (ret (.bl true)) fun r => ret (.rt (.v r))) S0 (fun r _ => r = .v (.bl true)) fun _ _ => False := by
  rw [hm, r_bind]
  refine use_runF (use_bindF (for_inv (fun _ S => Bags S) _ () S0 Bags.none ?_ fun s' S' h => ?_))
  · intro a ha s S1 Φ' hS k
    obtain ⟨i, hi, rfl⟩ := List.mem_map.mp ha
    rw [r_lift, r_bind]
    exact hb i (List.mem_range.mp hi) S1 hS Φ' fun S' h => k () S' h
  · exact rfl
theorem frame3 {L : PV → Unit → W (Fl Unit)} {m : Nat} {mi : W (List PV)} {ns : List Int} {body : PV → PV → W (Fl Unit)} (hm : mi = ret ((List.range m).map fun i : Nat => .int (i : Int))) (m1 : m ≤ 1000) (hn : ns.length ≤ 63)
    (hL : ∀ x, L x () = bind (bag3W (callO (ar2 begunW) [] (vcons (ret (.scr ns)) (vcons (ret x) vnil)))) (body x)) (hb : ∀ (k : Nat) p S, S p = some .bag3 → LightS S → Ans (body (.int (k : Int)) (.ptr p)) S fun fl => fl = .nx ()) :
    runF (bindF (bind mi fun as => forW some L as ()) fun _ => bind (ret (.bl true)) fun r => ret (.rt (.v r))) S0 (fun r _ => r = .v (.bl true)) fun _ _ => False := by
  refine frame hm fun k hk S hS Φ z => ?_
  rw [hL]
  refine ⟨ns, k, rfl, rfl, by omega, by omega, fun a b c => ?_⟩
  refine ⟨_, rfl, rfl, fun p hp => ?_⟩
  refine hb k p (put S p .bag3) put_same hS.put3.light _ _ fun fl e => ?_
  subst e
  exact z _ hS.put3
theorem frame2 {L : PV → Unit → W (Fl Unit)} {m : Nat} {mi : W (List PV)} {ns : List Int} {body : PV → PV → W (Fl Unit)} (hm : mi = ret ((List.range m).map fun i : Nat => .int (i : Int))) (m1 : m ≤ 1000) (hn : ns.length ≤ 63)
    (hL : ∀ x, L x () = bind (bag2W (callO (ar2 bagW) [] (vcons (ret (.scr ns)) (vcons (ret x) vnil)))) (body x)) (hb : ∀ (k : Nat) p S, S p = some .bag2 → LightS S → Ans (body (.int (k : Int)) (.ptr p)) S fun fl => fl = .nx ()) :
    runF (bindF (bind mi fun as => forW some L as ()) fun _ => bind (ret (.bl true)) fun r => ret (.rt (.v r))) S0 (fun r _ => r = .v (.bl true)) fun _ _ => False := by
  refine frame hm fun k hk S hS Φ z => ?_
  rw [hL]
  refine ⟨ns, k, rfl, rfl, by omega, by omega, fun a b => ?_⟩
  refine ⟨_, rfl, rfl, fun p hp => ?_⟩
  refine hb k p (put S p .bag2) put_same hS.put2.light _ _ fun fl e => ?_
  subst e
  exact z _ hS.put2
/-- how often a law goes over its script -/
theorem turnsT {ns : List Int} {n : Nat} (hn : ns.length ≤ 63) (h1 : 1 ≤ n) (h9 : n ≤ 100) : ∃ m : Nat, m ≤ 100 ∧ itR (vcons (cb max2F (vcons (ret (.int 1)) (vcons (cb min2F (vcons (ret (.int (n : Int))) (vcons (cb lenF (vcons (ret (.scr ns)) vnil)) vnil))) vnil))) vnil) = ret ((List.range m).map fun i : Nat => .int (i : Int)) := by
  refine ⟨(if (if (ns.length : Int) < n then (ns.length : Int) else n) > 1 then (if (ns.length : Int) < n then (ns.length : Int) else n) else 1).toNat, ?_, ?_⟩
  · split <;> split <;> omega
  · simp only [r_vnil, r_vcons, r_cb, r_lenS, r_lift, r_min2, r_max2, b_vcons, b_cb, r_bind]
    rw [r_itR _ ?_ ?_]
    · split <;> split <;> omega
    · split <;> split <;> omega
theorem turnsB {ns : List Int} {n : Nat} (hn : ns.length ≤ 63) (h1 : 1 ≤ n) (h9 : n ≤ 100) : ∃ m : Nat, m ≤ 100 ∧ itR (vcons (cb max2F (vcons (ret (.int 1)) (vcons (cb min2F (vcons (cb lenF (vcons (ret (.scr ns)) vnil)) (vcons (ret (.int (n : Int))) vnil))) vnil))) vnil) = ret ((List.range m).map fun i : Nat => .int (i : Int)) := by
  refine ⟨(if (if (n : Int) < ns.length then (n : Int) else ns.length) > 1 then (if (n : Int) < ns.length then (n : Int) else ns.length) else 1).toNat, ?_, ?_⟩
  · split <;> split <;> omega
  · simp only [r_vnil, r_vcons, r_cb, r_lenS, r_lift, r_min2, r_max2, b_vcons, b_cb, r_bind]
    rw [r_itR _ ?_ ?_]
    · split <;> split <;> omega
    · split <;> split <;> omega
end SL

namespace SL
open PySem
@[simp] theorem r_bmW (T : String) (f : PV → List PV → Option PV) (a : PV) (as : List PV) : bmW T f (ret a) (ret as) = bind (lift (isT T a)) fun _ => lift (f a as) := rfl
end SL
namespace B04
open PySem SL NF NT LW
variable {ca : Nat → Addr} {S : Sto} {p : Addr}
theorem neF_fr (x y : Rat) : neF (fr x) (fr y) = some (.bl (!decide (x = y))) := by
  rw [neF_data (d := .tuple [.int x.num, .int x.den]) (e := .tuple [.int y.num, .int y.den]) rfl rfl rfl rfl rfl rfl (fun z => by simp), eqv_rt]
theorem fraction_eq {a b : Int} {B : Nat} (h : b ≠ 0) (hb : b.natAbs < 2 ^ B) (h0 : 0 < B) (h9 : B ≤ 9000) : F_fraction ca (.int a) (.int b) = ret (.v (fr (Rat.divInt a b))) := by
  have w1 := whole_eq (ca := ca) (.int a) (by simp [tyN])
  have w2 := whole_eq (ca := ca) (.int b) (by simp [tyN])
  have e := red_eq (ca := ca) (a := a) h hb h0 h9
  unfold F_fraction B_fraction
  simp [w1, w2, isI, h, e]
theorem bits29 {d : Int} (h0 : 0 ≤ d) (h1 : d ≤ 10 ^ 29) : d.natAbs < 2 ^ 97 := by
  have e : (10 : Int) ^ 29 < 2 ^ 97 := by decide
  have e2 : ((2 ^ 97 : Nat) : Int) = (2 : Int) ^ 97 := by decide
  omega
theorem most_ok : ∀ a ∈ [PV.int 2, .int 9, .int 1000, .int (10 ^ 29)], ∃ m : Int, a = .int m ∧ 2 ≤ m ∧ m ≤ 10 ^ 29 := by
  intro a ha
  simp at ha
  rcases ha with rfl | rfl | rfl | rfl <;> exact ⟨_, rfl, by decide, by decide⟩
theorem pow29 : powF (.int 10) (.int 29) = some (.int (10 ^ 29)) := by
  show (if 0 ≤ (29 : Int) ∧ (29 : Int) ≤ 1000000 ∧ (10 : Int).natAbs < 2 ^ 64 then some (PV.int (10 ^ (29 : Int).toNat)) else none) = _
  rw [if_pos (by decide)]
  rfl
theorem one_ans (hs : S p = some .bag3) : Ans (F__law_one ca (.ptr p)) S fun r => ∃ x, r.pv = fr x ∧ Sz 98 x := by
  unfold F__law_one B__law_one
  refine Ans.runF (Ans.bind (ans_pick (as := [.int 2, .int 9, .int 1000, .int (10 ^ 29)]) (by simp [pow29]) hs rfl (by decide) (by decide) most_ok) fun a ha => ?_)
  obtain ⟨m, rfl, m2, m9⟩ := ha
  have hm : m.natAbs < 2 ^ 8000 := Nat.lt_of_lt_of_le (bits29 (by omega) m9) (Nat.pow_le_pow_right (by decide) (by decide))
  have tk := ans_takeH (mb := ret (.int m)) hs Ans.eq (by omega) hm
  refine Ans.bind (ans_call (ans_two (ans_op2 (R := fun a => ∃ t : Int, a = .int t ∧ t.natAbs < 2 ^ 98) tk (ans_pick (P := fun a => ∃ s : Int, a = .int s ∧ s.natAbs < 2 ^ 1) (as := [.int 1, .int 1, .int (-1)]) (by simp) hs rfl (by decide) (by decide) ?_) fun x y hx hy => ?_) (ans_op2 (R := fun a => ∃ t : Int, a = .int t ∧ 1 ≤ t ∧ t.natAbs < 2 ^ 98) Ans.eq tk fun x y ex hy => ?_)) (R := fun a => ∃ x, a = fr x ∧ Sz 98 x) fun as h => ?_) fun a ha => ?_
  · intro a ha
    simp at ha
    rcases ha with rfl | rfl <;> exact ⟨_, rfl, by decide⟩
  · obtain ⟨d, rfl, h0, h1⟩ := hx
    obtain ⟨s, rfl, hs'⟩ := hy
    have b1 := bits29 h0 (by omega)
    exact ⟨_, mul_ok b1 hs' (by decide) (by decide) (by decide), _, rfl, bits_mul b1 hs'⟩
  · obtain ⟨d, rfl, h0, h1⟩ := hy
    subst ex
    have b1 := bits29 (d := 1 + d) (by omega) (by omega)
    exact ⟨_, rfl, _, rfl, by omega, bits_up b1 (by decide)⟩
  · obtain ⟨a, b, rfl, ⟨t, rfl, ht⟩, u, rfl, u1, hu⟩ := h
    exact Ans.of (fraction_eq (by omega) hu (by decide) (by decide)) ⟨_, rfl, sz_div ht hu (by omega)⟩
  · obtain ⟨x, rfl, hx⟩ := ha
    exact Ans.ret ⟨_, rfl, x, rfl, hx⟩
theorem count3 (x y : Rat) : cntF (.lst [.bl (decide (x < y)), .bl (decide (x = y)), .bl (decide (y < x))]) [.bl true] = some (.int 1) := by
  have h := lt3 x y
  have e : ([decide (x < y), decide (x = y), decide (y < x)].count true : Nat) = 1 := by
    rw [← h]
    simp [List.count_cons]
    omega
  show (some [decide (x < y), decide (x = y), decide (y < x)]).map (fun bs => PV.int (bs.count true : Nat)) = _
  rw [Option.map_some, e]
  rfl
theorem eqBB (b c : Bool) : eqF (.bl b) (.bl c) = some (.bl (b == c)) := by
  rw [eqF_data (d := .bool b) (e := .bool c) rfl rfl rfl rfl rfl rfl (fun z => by simp)]
  rfl
theorem right_eq {x y z : Rat} (hx : Sz 98 x) (hy : Sz 98 y) (hz : Sz 98 z) : F__law_right ca (fr x) (fr y) (fr z) = ret (.v (.bl true)) := by
  have up : ∀ {B : Nat} {u : Rat}, Sz B u → B ≤ 500 → Sz 500 u := fun h e => h.mono e
  have sxy := hx.add hy
  have a1 := hx.ap hy
  have a2 := hx.ap hz
  have a3 := hz.ap hy
  have mxy := hx.mul hy
  have mxz := hx.mul hz
  have myz := hy.mul hz
  have mzy := hz.mul hy
  have P : ∀ {A B : Nat} {u v : Rat}, Sz A u → Sz B v → A ≤ 500 → B ≤ 500 → F_plus ca (fr u) (fr v) = ret (.v (fr (u + v))) := fun h k e f => plus_eq (up h e) (up k f) (by decide) (by decide)
  have M : ∀ {A B : Nat} {u v : Rat}, Sz A u → Sz B v → A ≤ 500 → B ≤ 500 → F_minus ca (fr u) (fr v) = ret (.v (fr (u - v))) := fun h k e f => minus_eq (up h e) (up k f) (by decide) (by decide)
  have T : ∀ {A B : Nat} {u v : Rat}, Sz A u → Sz B v → A ≤ 500 → B ≤ 500 → F_times ca (fr u) (fr v) = ret (.v (fr (u * v))) := fun h k e f => times_eq (up h e) (up k f) (by decide) (by decide)
  have U : ∀ {A B : Nat} {u v : Rat}, Sz A u → Sz B v → A ≤ 500 → B ≤ 500 → F_under ca (fr u) (fr v) = ret (.v (.bl (decide (u < v)))) := fun h k e f => under_eq (up h e) (up k f) (by decide) (by decide)
  have D : ∀ {A B : Nat} {u v : Rat}, Sz A u → Sz B v → A ≤ 500 → B ≤ 500 → F_apart ca (fr u) (fr v) = ret (.v (fr (ap u v))) := fun h k e f => apart_eq (up h e) (up k f) (by decide) (by decide)
  have tt := total_eq (ca := ca) (xs := [x, y, z]) (B := 98) (fun u hu => by simp at hu; rcases hu with rfl | rfl | rfl <;> assumption) (by decide) (by decide) (by simp) (by simp)
  have et : sumR [x, y, z] = x + y + z := by
    show x + (y + (z + 0)) = _
    grind
  rw [et] at tt
  have tt' : F_total ca (.lst [fr x, fr y, fr z]) .non = ret (.v (fr (x + y + z))) := tt
  have e1 : x + y - y = x := by grind
  have e2 : y + x = x + y := by grind
  have e3 : x + (y + z) = x + y + z := by grind
  have e4 : x * y * z = x * (z * y) := by grind
  have e5 : (x + y) * z = x * z + y * z := by grind
  have e6 : decide (x * y = y * x) = true := decide_eq_true (by grind)
  have e8 : ap x y = ap y x := ap_comm x y
  have e9 : ¬ (ap x z + ap z y < ap x y) := ap_tri x y z
  have e10 : ap x y = 0 ↔ x = y := ap_zero x y
  have e11 : ¬ (ap x y < 0) := ap_pos x y
  have hov : z ≠ 0 → F_over ca (fr (x * z)) (fr z) = ret (.v (fr (x * z / z))) := fun hn => over_eq (up mxz (by decide)) (up hz (by decide)) hn (by decide) (by decide)
  have e7 : z ≠ 0 → x * z / z = x := fun hn => by grind
  have zn : z.num = 0 ↔ z = 0 := Rat.num_eq_zero
  have q1 := eqF_fr (ap x y) 0
  have q1' : eqF (fr (ap x y)) (.tup [.int 0, .int 1]) = some (.bl (decide (x = y))) := by
    rw [show decide (ap x y = 0) = decide (x = y) from decide_eq_decide.mpr e10] at q1
    exact q1
  have u4 := U a1 (sz0 (B := 1) (by decide)) (by decide) (by decide)
  have u4' : F_under ca (fr (ap x y)) (.tup [.int 0, .int 1]) = ret (.v (.bl false)) := by
    rw [decide_eq_false e11] at u4
    exact u4
  unfold F__law_right B__law_right
  simp [P hx hy (by decide) (by decide), M sxy hy (by decide) (by decide), P hy hx (by decide) (by decide), tt', P sxy hz (by decide) (by decide), P hy hz (by decide) (by decide), P hx (hy.add hz) (by decide) (by decide), T hx hy (by decide) (by decide), T mxy hz (by decide) (by decide), T hz hy (by decide) (by decide), T hx mzy (by decide) (by decide), T sxy hz (by decide) (by decide), T hx hz (by decide) (by decide), T hy hz (by decide) (by decide), P mxz myz (by decide) (by decide), T hy hx (by decide) (by decide), U hx hy (by decide) (by decide), U hy hx (by decide) (by decide), D hx hy (by decide) (by decide), D hy hx (by decide) (by decide), D hx hz (by decide) (by decide), D hz hy (by decide) (by decide), P a2 a3 (by decide) (by decide), U (a2.add a3) a1 (by decide) (by decide), fr_ok, neF_fr, eqF_fr, count3, isT, q1', u4', eqBB, e1, e2, e3, e4, e5, e6, e9, ← e8, zn]
  by_cases c : z = 0
  · simp [c]
  · simp [c, hov c, e7 c, neF_fr]
theorem law_true (ca : Nat → Addr) (ns : List Int) (hn : ns.length ≤ 63) : F_law ca (.scr ns) S0 (fun r _ => r = .v (.bl true)) fun _ _ => False := by
  obtain ⟨m, m1, hm⟩ := turnsT (n := 40) hn (by decide) (by decide)
  unfold F_law B_law
  refine frame3 (hm := hm) (by omega) hn (fun x => rfl) fun k p S hs hS => ?_
  refine Ans.bind (P := fun as => ∃ x y z, as = [fr x, fr y, fr z] ∧ Sz 98 x ∧ Sz 98 y ∧ Sz 98 z) ?_ fun as h => ?_
  · have e3 : itR (vcons (ret (PV.int 3)) vnil) = ret ((List.range 3).map fun i : Nat => .int (i : Int)) := itR_n 3 (by decide)
    rw [e3]
    refine (ans_lc (P := fun a => ∃ x, a = fr x ∧ Sz 98 x) (by simp) fun a _ => ?_).mono fun bs h => ?_
    · unfold E_law_1
      refine ans_call (ans_one Ans.eq) fun as h => ?_
      obtain ⟨a, rfl, rfl⟩ := h
      exact one_ans hs
    · obtain ⟨hl, hb⟩ := h
      obtain ⟨xs, rfl, hx⟩ := ex_map hb
      match xs, hl, hx with
      | [x, y, z], _, hx => exact ⟨x, y, z, rfl, hx x (by simp), hx y (by simp), hx z (by simp)⟩
  obtain ⟨x, y, z, rfl, hx, hy, hz⟩ := h
  refine Ans.bindF (I := fun as => ∃ y, as = [fr x, fr y, fr z] ∧ Sz 98 y) ?_ fun as h => ?_
  · refine Ans.bind (P := fun _ => True) (ans_tst ((ans_op2 (R := fun a => ∃ b, a = .bl b) (ans_takeC hs Ans.eq (by decide) (by decide)) Ans.eq fun a b ha eb => ?_).mono fun a h => ?_)) fun b _ => ?_
    · obtain ⟨d, rfl, _, _⟩ := ha
      subst eb
      exact ⟨_, r_eqI _ _, _, rfl⟩
    · obtain ⟨b, rfl⟩ := h
      exact ⟨b, rfl, trivial⟩
    · cases b with
      | false => exact Ans.ret ⟨_, rfl, y, rfl, hy⟩
      | true =>
        rw [if_pos rfl]
        refine Ans.bindF (I := fun as => ∃ y, as = [fr x, fr y, fr z] ∧ Sz 98 y) ?_ fun as h => Ans.ret ⟨as, rfl, h⟩
        refine Ans.bind (P := fun a => a = fr x) (ans_lend hS (Ans.of (by simp) rfl) fun a e => by rw [e]; rfl) fun a e => ?_
        subst e
        refine Ans.bind Ans.eq fun b e => ?_
        subst e
        rw [set_ok (by decide) (by simp), r_lift, r_bind]
        exact Ans.ret ⟨_, rfl, x, rfl, hx⟩
  obtain ⟨y', rfl, hy'⟩ := h
  refine Ans.bindF (I := fun _ => True) (Ans.bind (P := fun b => b = false) ?_ fun b eb => ?_) fun s _ => Ans.ret rfl
  · have L : ∀ (i : Int) (a : PV), ixF (.lst [fr x, fr y', fr z]) (.int i) = some a → (∃ u : Rat, a = fr u) → Ans (lend (op2 ixF (ret (.lst [fr x, fr y', fr z])) (ret (.int i)))) S (· = a) := fun i a e h => by
      obtain ⟨u, rfl⟩ := h
      exact ans_lend hS (Ans.of (by simp [e]) rfl) fun a e => by rw [e]; rfl
    have c0 := L 0 (fr x) rfl ⟨x, rfl⟩
    have c1 := L 1 (fr y') rfl ⟨y', rfl⟩
    have c2 := L 2 (fr z) rfl ⟨z, rfl⟩
    have R : ∀ {u v w : Rat} {mu mv mw : W PV}, Sz 98 u → Sz 98 v → Sz 98 w → Ans mu S (· = fr u) → Ans mv S (· = fr v) → Ans mw S (· = fr w) → Ans (notT (tst (callW (ar3 (F__law_right ca)) [] (vcons mu (vcons mv (vcons mw vnil)))))) S (· = false) := fun hu hv hw a b c => by
      refine Ans.bind (P := fun b => b = true) (ans_tst (ans_call (Ps := fun as => as = [fr _, fr _, fr _]) (ans_cons a (ans_two b c) fun x as e h => by obtain ⟨y, z, rfl, rfl, rfl⟩ := h; rw [e]) fun as e => ?_)) fun b e => by rw [e]; exact Ans.ret rfl
      subst e
      exact Ans.of (right_eq hu hv hw) ⟨true, rfl, rfl⟩
    refine Ans.bind (R hx hy' hz c0 c1 c2) fun b e => ?_
    subst e
    rw [if_neg (by decide)]
    exact R hz hx hy' c2 c0 c1
  · subst eb
    exact Ans.ret ⟨(), rfl, trivial⟩
end B04

namespace B04
open PySem PySem.Spec PyProof.Rows L2 Evl NF WL SL
set_option maxHeartbeats 0 in
theorem all_mk {l : PySem.W.OpenLaw} {w : World} {K : PySem.W.Frag} {h : Heap} {mg : Str → Option Value} {fa : Addr} (X : K.In h) (G : h.Ns mainGlobals mg) (hfa : mg "law" = some (.ref fa))
    {f_is_whole : Addr} {od0 an0 : Option Addr} {sl0 : Array (Option Value)} {oc0 kV0 dc0 pm0 cd0 ct0 : Value}
    (a_is_whole : PySem.W.nsIn K mainGlobals "is_whole" = some (some (.ref f_is_whole))) (l_is_whole : K.lookup f_is_whole = some ⟨oc0, od0, .func (PySem.W.fnOf "is_whole" "is_whole" (defArgs s_is_whole) (defBody s_is_whole) (defScope s_is_whole) .none kV0 dc0 pm0 an0 cd0 ct0), sl0⟩) (d_is_whole : PySem.W.codeIn K cd0 "is_whole" = true) (k_is_whole : PySem.W.keepIn K (.ref f_is_whole) = true)
    {f_greatest_divisor : Addr} {od1 an1 : Option Addr} {sl1 : Array (Option Value)} {oc1 kV1 dc1 pm1 cd1 ct1 : Value}
    (a_greatest_divisor : PySem.W.nsIn K mainGlobals "greatest_divisor" = some (some (.ref f_greatest_divisor))) (l_greatest_divisor : K.lookup f_greatest_divisor = some ⟨oc1, od1, .func (PySem.W.fnOf "greatest_divisor" "greatest_divisor" (defArgs s_greatest_divisor) (defBody s_greatest_divisor) (defScope s_greatest_divisor) .none kV1 dc1 pm1 an1 cd1 ct1), sl1⟩) (d_greatest_divisor : PySem.W.codeIn K cd1 "greatest_divisor" = true) (k_greatest_divisor : PySem.W.keepIn K (.ref f_greatest_divisor) = true)
    {f_is_fraction : Addr} {od2 an2 : Option Addr} {sl2 : Array (Option Value)} {oc2 kV2 dc2 pm2 cd2 ct2 : Value}
    (a_is_fraction : PySem.W.nsIn K mainGlobals "is_fraction" = some (some (.ref f_is_fraction))) (l_is_fraction : K.lookup f_is_fraction = some ⟨oc2, od2, .func (PySem.W.fnOf "is_fraction" "is_fraction" (defArgs s_is_fraction) (defBody s_is_fraction) (defScope s_is_fraction) .none kV2 dc2 pm2 an2 cd2 ct2), sl2⟩) (d_is_fraction : PySem.W.codeIn K cd2 "is_fraction" = true) (k_is_fraction : PySem.W.keepIn K (.ref f_is_fraction) = true)
    {f_reduced : Addr} {od3 an3 : Option Addr} {sl3 : Array (Option Value)} {oc3 kV3 dc3 pm3 cd3 ct3 : Value}
    (a_reduced : PySem.W.nsIn K mainGlobals "reduced" = some (some (.ref f_reduced))) (l_reduced : K.lookup f_reduced = some ⟨oc3, od3, .func (PySem.W.fnOf "reduced" "reduced" (defArgs s_reduced) (defBody s_reduced) (defScope s_reduced) .none kV3 dc3 pm3 an3 cd3 ct3), sl3⟩) (d_reduced : PySem.W.codeIn K cd3 "reduced" = true) (k_reduced : PySem.W.keepIn K (.ref f_reduced) = true)
    {f_fraction : Addr} {od4 an4 : Option Addr} {sl4 : Array (Option Value)} {oc4 kV4 dc4 pm4 cd4 ct4 : Value}
    {T4 : Addr} {odT4 : Option Addr} {slT4 : Array (Option Value)} {ocT4 : Value} {nT4 : Nat} {tk4 : Tok}
    (a_fraction : PySem.W.nsIn K mainGlobals "fraction" = some (some (.ref f_fraction))) (l_fraction : K.lookup f_fraction = some ⟨oc4, od4, .func (PySem.W.fnOf "fraction" "fraction" (defArgs s_fraction) (defBody s_fraction) (defScope s_fraction) (.ref T4) kV4 dc4 pm4 an4 cd4 ct4), sl4⟩) (d_fraction : PySem.W.codeIn K cd4 "fraction" = true) (k_fraction : PySem.W.keepIn K (.ref f_fraction) = true)
    (t_fraction : K.lookup T4 = some ⟨ocT4, odT4, .seq #[.int 1 tk4] nT4, slT4⟩)
    {f_plus : Addr} {od5 an5 : Option Addr} {sl5 : Array (Option Value)} {oc5 kV5 dc5 pm5 cd5 ct5 : Value}
    (a_plus : PySem.W.nsIn K mainGlobals "plus" = some (some (.ref f_plus))) (l_plus : K.lookup f_plus = some ⟨oc5, od5, .func (PySem.W.fnOf "plus" "plus" (defArgs s_plus) (defBody s_plus) (defScope s_plus) .none kV5 dc5 pm5 an5 cd5 ct5), sl5⟩) (d_plus : PySem.W.codeIn K cd5 "plus" = true) (k_plus : PySem.W.keepIn K (.ref f_plus) = true)
    {f_minus : Addr} {od6 an6 : Option Addr} {sl6 : Array (Option Value)} {oc6 kV6 dc6 pm6 cd6 ct6 : Value}
    (a_minus : PySem.W.nsIn K mainGlobals "minus" = some (some (.ref f_minus))) (l_minus : K.lookup f_minus = some ⟨oc6, od6, .func (PySem.W.fnOf "minus" "minus" (defArgs s_minus) (defBody s_minus) (defScope s_minus) .none kV6 dc6 pm6 an6 cd6 ct6), sl6⟩) (d_minus : PySem.W.codeIn K cd6 "minus" = true) (k_minus : PySem.W.keepIn K (.ref f_minus) = true)
    {f_times : Addr} {od7 an7 : Option Addr} {sl7 : Array (Option Value)} {oc7 kV7 dc7 pm7 cd7 ct7 : Value}
    (a_times : PySem.W.nsIn K mainGlobals "times" = some (some (.ref f_times))) (l_times : K.lookup f_times = some ⟨oc7, od7, .func (PySem.W.fnOf "times" "times" (defArgs s_times) (defBody s_times) (defScope s_times) .none kV7 dc7 pm7 an7 cd7 ct7), sl7⟩) (d_times : PySem.W.codeIn K cd7 "times" = true) (k_times : PySem.W.keepIn K (.ref f_times) = true)
    {f_over : Addr} {od8 an8 : Option Addr} {sl8 : Array (Option Value)} {oc8 kV8 dc8 pm8 cd8 ct8 : Value}
    (a_over : PySem.W.nsIn K mainGlobals "over" = some (some (.ref f_over))) (l_over : K.lookup f_over = some ⟨oc8, od8, .func (PySem.W.fnOf "over" "over" (defArgs s_over) (defBody s_over) (defScope s_over) .none kV8 dc8 pm8 an8 cd8 ct8), sl8⟩) (d_over : PySem.W.codeIn K cd8 "over" = true) (k_over : PySem.W.keepIn K (.ref f_over) = true)
    {f_under : Addr} {od9 an9 : Option Addr} {sl9 : Array (Option Value)} {oc9 kV9 dc9 pm9 cd9 ct9 : Value}
    (a_under : PySem.W.nsIn K mainGlobals "under" = some (some (.ref f_under))) (l_under : K.lookup f_under = some ⟨oc9, od9, .func (PySem.W.fnOf "under" "under" (defArgs s_under) (defBody s_under) (defScope s_under) .none kV9 dc9 pm9 an9 cd9 ct9), sl9⟩) (d_under : PySem.W.codeIn K cd9 "under" = true) (k_under : PySem.W.keepIn K (.ref f_under) = true)
    {f_apart : Addr} {od10 an10 : Option Addr} {sl10 : Array (Option Value)} {oc10 kV10 dc10 pm10 cd10 ct10 : Value}
    (a_apart : PySem.W.nsIn K mainGlobals "apart" = some (some (.ref f_apart))) (l_apart : K.lookup f_apart = some ⟨oc10, od10, .func (PySem.W.fnOf "apart" "apart" (defArgs s_apart) (defBody s_apart) (defScope s_apart) .none kV10 dc10 pm10 an10 cd10 ct10), sl10⟩) (d_apart : PySem.W.codeIn K cd10 "apart" = true) (k_apart : PySem.W.keepIn K (.ref f_apart) = true)
    {f_common : Addr} {od11 an11 : Option Addr} {sl11 : Array (Option Value)} {oc11 kV11 dc11 pm11 cd11 ct11 : Value}
    (a_common : PySem.W.nsIn K mainGlobals "common" = some (some (.ref f_common))) (l_common : K.lookup f_common = some ⟨oc11, od11, .func (PySem.W.fnOf "common" "common" (defArgs s_common) (defBody s_common) (defScope s_common) .none kV11 dc11 pm11 an11 cd11 ct11), sl11⟩) (d_common : PySem.W.codeIn K cd11 "common" = true) (k_common : PySem.W.keepIn K (.ref f_common) = true)
    {f_total : Addr} {od12 an12 : Option Addr} {sl12 : Array (Option Value)} {oc12 kV12 dc12 pm12 cd12 ct12 : Value}
    {T12 : Addr} {odT12 : Option Addr} {slT12 : Array (Option Value)} {ocT12 : Value} {nT12 : Nat}
    (a_total : PySem.W.nsIn K mainGlobals "total" = some (some (.ref f_total))) (l_total : K.lookup f_total = some ⟨oc12, od12, .func (PySem.W.fnOf "total" "total" (defArgs s_total) (defBody s_total) (defScope s_total) (.ref T12) kV12 dc12 pm12 an12 cd12 ct12), sl12⟩) (d_total : PySem.W.codeIn K cd12 "total" = true) (k_total : PySem.W.keepIn K (.ref f_total) = true)
    (t_total : K.lookup T12 = some ⟨ocT12, odT12, .seq #[.none] nT12, slT12⟩)
    {f__law_begun : Addr} {od13 an13 : Option Addr} {sl13 : Array (Option Value)} {oc13 kV13 dc13 pm13 cd13 ct13 : Value}
    (a__law_begun : PySem.W.nsIn K mainGlobals "_law_begun" = some (some (.ref f__law_begun))) (l__law_begun : K.lookup f__law_begun = some ⟨oc13, od13, .func (PySem.W.fnOf "_law_begun" "_law_begun" (defArgs s__law_begun) (defBody s__law_begun) (defScope s__law_begun) .none kV13 dc13 pm13 an13 cd13 ct13), sl13⟩) (d__law_begun : PySem.W.codeIn K cd13 "_law_begun" = true) (k__law_begun : PySem.W.keepIn K (.ref f__law_begun) = true)
    {f__law_take : Addr} {od14 an14 : Option Addr} {sl14 : Array (Option Value)} {oc14 kV14 dc14 pm14 cd14 ct14 : Value}
    (a__law_take : PySem.W.nsIn K mainGlobals "_law_take" = some (some (.ref f__law_take))) (l__law_take : K.lookup f__law_take = some ⟨oc14, od14, .func (PySem.W.fnOf "_law_take" "_law_take" (defArgs s__law_take) (defBody s__law_take) (defScope s__law_take) .none kV14 dc14 pm14 an14 cd14 ct14), sl14⟩) (d__law_take : PySem.W.codeIn K cd14 "_law_take" = true) (k__law_take : PySem.W.keepIn K (.ref f__law_take) = true)
    {f__law_one : Addr} {od15 an15 : Option Addr} {sl15 : Array (Option Value)} {oc15 kV15 dc15 pm15 cd15 ct15 : Value}
    (a__law_one : PySem.W.nsIn K mainGlobals "_law_one" = some (some (.ref f__law_one))) (l__law_one : K.lookup f__law_one = some ⟨oc15, od15, .func (PySem.W.fnOf "_law_one" "_law_one" (defArgs s__law_one) (defBody s__law_one) (defScope s__law_one) .none kV15 dc15 pm15 an15 cd15 ct15), sl15⟩) (d__law_one : PySem.W.codeIn K cd15 "_law_one" = true) (k__law_one : PySem.W.keepIn K (.ref f__law_one) = true)
    {f__law_right : Addr} {od16 an16 : Option Addr} {sl16 : Array (Option Value)} {oc16 kV16 dc16 pm16 cd16 ct16 : Value}
    (a__law_right : PySem.W.nsIn K mainGlobals "_law_right" = some (some (.ref f__law_right))) (l__law_right : K.lookup f__law_right = some ⟨oc16, od16, .func (PySem.W.fnOf "_law_right" "_law_right" (defArgs s__law_right) (defBody s__law_right) (defScope s__law_right) .none kV16 dc16 pm16 an16 cd16 ct16), sl16⟩) (d__law_right : PySem.W.codeIn K cd16 "_law_right" = true) (k__law_right : PySem.W.keepIn K (.ref f__law_right) = true)
    {f_law : Addr} {od17 an17 : Option Addr} {sl17 : Array (Option Value)} {oc17 kV17 dc17 pm17 cd17 ct17 : Value}
    (a_law : PySem.W.nsIn K mainGlobals "law" = some (some (.ref f_law))) (l_law : K.lookup f_law = some ⟨oc17, od17, .func (PySem.W.fnOf "law" "law" (defArgs s_law) (defBody s_law) (defScope s_law) .none kV17 dc17 pm17 an17 cd17 ct17), sl17⟩) (d_law : PySem.W.codeIn K cd17 "law" = true) (k_law : PySem.W.keepIn K (.ref f_law) = true)
    (z_abs : PySem.W.nsIn K mainGlobals "abs" = some none)
    (z_bool : PySem.W.nsIn K mainGlobals "bool" = some none)
    (z_int : PySem.W.nsIn K mainGlobals "int" = some none)
    (z_isinstance : PySem.W.nsIn K mainGlobals "isinstance" = some none)
    (z_len : PySem.W.nsIn K mainGlobals "len" = some none)
    (z_list : PySem.W.nsIn K mainGlobals "list" = some none)
    (z_max : PySem.W.nsIn K mainGlobals "max" = some none)
    (z_min : PySem.W.nsIn K mainGlobals "min" = some none)
    (z_range : PySem.W.nsIn K mainGlobals "range" = some none)
    (z_sum : PySem.W.nsIn K mainGlobals "sum" = some none)
    (z_tuple : PySem.W.nsIn K mainGlobals "tuple" = some none) :
    ∃ fd : FuncData, (∀ (s : Shared) (v : Value), BindsTo s fd ⟨[v], []⟩ [("_law_script", v)]) ∧ ∀ base : Heap, K.In base → base.Ns mainGlobals mg → FnG l.prog w K mg base CX0 6 fa fd ["_law_script"] (SL.spEnd K) := by
  have e := hfa.symm.trans (PySem.W.mg_of X G a_law)
  cases e
  have F_is_whole := fun_mk (st := s_is_whole) l_is_whole d_is_whole k_is_whole
  have b_is_whole := F_is_whole.binds (ps := ["thing"]) fun _ _ _ _ _ _ us hl => match us, hl with | [_], _ => rfl
  have F_greatest_divisor := fun_mk (st := s_greatest_divisor) l_greatest_divisor d_greatest_divisor k_greatest_divisor
  have b_greatest_divisor := F_greatest_divisor.binds (ps := ["one", "other"]) fun _ _ _ _ _ _ us hl => match us, hl with | [_, _], _ => rfl
  have F_is_fraction := fun_mk (st := s_is_fraction) l_is_fraction d_is_fraction k_is_fraction
  have b_is_fraction := F_is_fraction.binds (ps := ["thing"]) fun _ _ _ _ _ _ us hl => match us, hl with | [_], _ => rfl
  have F_reduced := fun_mk (st := s_reduced) l_reduced d_reduced k_reduced
  have b_reduced := F_reduced.binds (ps := ["top", "bottom"]) fun _ _ _ _ _ _ us hl => match us, hl with | [_, _], _ => rfl
  have F_plus := fun_mk (st := s_plus) l_plus d_plus k_plus
  have b_plus := F_plus.binds (ps := ["one", "other"]) fun _ _ _ _ _ _ us hl => match us, hl with | [_, _], _ => rfl
  have F_minus := fun_mk (st := s_minus) l_minus d_minus k_minus
  have b_minus := F_minus.binds (ps := ["one", "other"]) fun _ _ _ _ _ _ us hl => match us, hl with | [_, _], _ => rfl
  have F_times := fun_mk (st := s_times) l_times d_times k_times
  have b_times := F_times.binds (ps := ["one", "other"]) fun _ _ _ _ _ _ us hl => match us, hl with | [_, _], _ => rfl
  have F_over := fun_mk (st := s_over) l_over d_over k_over
  have b_over := F_over.binds (ps := ["one", "other"]) fun _ _ _ _ _ _ us hl => match us, hl with | [_, _], _ => rfl
  have F_under := fun_mk (st := s_under) l_under d_under k_under
  have b_under := F_under.binds (ps := ["one", "other"]) fun _ _ _ _ _ _ us hl => match us, hl with | [_, _], _ => rfl
  have F_apart := fun_mk (st := s_apart) l_apart d_apart k_apart
  have b_apart := F_apart.binds (ps := ["one", "other"]) fun _ _ _ _ _ _ us hl => match us, hl with | [_, _], _ => rfl
  have F_common := fun_mk (st := s_common) l_common d_common k_common
  have b_common := F_common.binds (ps := ["some"]) fun _ _ _ _ _ _ us hl => match us, hl with | [_], _ => rfl
  have F__law_begun := fun_mk (st := s__law_begun) l__law_begun d__law_begun k__law_begun
  have b__law_begun := F__law_begun.binds (ps := ["_law_script", "_law_k"]) fun _ _ _ _ _ _ us hl => match us, hl with | [_, _], _ => rfl
  have F__law_take := fun_mk (st := s__law_take) l__law_take d__law_take k__law_take
  have b__law_take := F__law_take.binds (ps := ["_law_state", "_law_many"]) fun _ _ _ _ _ _ us hl => match us, hl with | [_, _], _ => rfl
  have F__law_one := fun_mk (st := s__law_one) l__law_one d__law_one k__law_one
  have b__law_one := F__law_one.binds (ps := ["_law_state"]) fun _ _ _ _ _ _ us hl => match us, hl with | [_], _ => rfl
  have F__law_right := fun_mk (st := s__law_right) l__law_right d__law_right k__law_right
  have b__law_right := F__law_right.binds (ps := ["_law_one_here", "_law_other", "_law_third"]) fun _ _ _ _ _ _ us hl => match us, hl with | [_, _, _], _ => rfl
  have F_law := fun_mk (st := s_law) l_law d_law k_law
  have F_fraction : FunD K "fraction" "fraction" (defArgs s_fraction) (defBody s_fraction) (defScope s_fraction) [.int 1] [] f_fraction _ := ⟨⟨_, _, _, _, _, _, _, _, _, _, rfl, l_fraction, d_fraction, .inr ⟨by simp, _, _, _, _, rfl, t_fraction, rfl, .cons ⟨_, rfl⟩ (.nil)⟩, .inl rfl⟩, k_fraction⟩
  have F_total : FunD K "total" "total" (defArgs s_total) (defBody s_total) (defScope s_total) [.non] [] f_total _ := ⟨⟨_, _, _, _, _, _, _, _, _, _, rfl, l_total, d_total, .inr ⟨by simp, _, _, _, _, rfl, t_total, rfl, .cons rfl (.nil)⟩, .inl rfl⟩, k_total⟩
  refine ⟨(PySem.W.fnOf "law" "law" (defArgs s_law) (defBody s_law) (defScope s_law) .none kV17 dc17 pm17 an17 cd17 ct17), fun s v => .of_eq rfl, fun base hK _ => ?_⟩
  have M := fun {x : Str} {u : Value} (a : PySem.W.nsIn K mainGlobals x = some (some u)) => PySem.W.mg_of X G a
  have Z := fun {x : Str} (a : PySem.W.nsIn K mainGlobals x = some none) => PySem.W.mg_none_of X G a
  have C_is_whole := cal_mk (ok_is_whole (P := l.prog) (w := w) (base := base) (ca := (fun n : Nat => n)) F_is_whole (Z z_bool) (Z z_int) (Z z_isinstance)) (M a_is_whole) k_is_whole b_is_whole .nil
  have C_greatest_divisor := cal_mk (ok_greatest_divisor (P := l.prog) (w := w) (base := base) (ca := (fun n : Nat => n)) F_greatest_divisor (Z z_abs)) (M a_greatest_divisor) k_greatest_divisor b_greatest_divisor .nil
  have C_is_fraction := cal_mk (ok_is_fraction (P := l.prog) (w := w) (base := base) (ca := (fun n : Nat => n)) F_is_fraction (Z z_isinstance) (Z z_len) (Z z_tuple) C_greatest_divisor C_is_whole) (M a_is_fraction) k_is_fraction b_is_fraction .nil
  have C_reduced := cal_mk (ok_reduced (P := l.prog) (w := w) (base := base) (ca := (fun n : Nat => n)) F_reduced C_greatest_divisor) (M a_reduced) k_reduced b_reduced .nil
  have O_fraction := ok_fraction (P := l.prog) (w := w) (base := base) (ca := (fun n : Nat => n)) F_fraction C_is_whole C_reduced
  obtain ⟨dt, vt, bt⟩ := F_fraction.binds1 (ps := ["top", "bottom"]) 2 1 (by simp) rfl fun _ _ _ _ _ _ _ us its hl hi => match us, its, hl, hi with | [_, _], [_], _, _ => ⟨_, rfl, rfl⟩
  have C_fraction2 := cal_mk O_fraction (M a_fraction) k_fraction bt vt
  have C_plus := cal_mk (ok_plus (P := l.prog) (w := w) (base := base) (ca := (fun n : Nat => n)) F_plus C_reduced) (M a_plus) k_plus b_plus .nil
  have C_minus := cal_mk (ok_minus (P := l.prog) (w := w) (base := base) (ca := (fun n : Nat => n)) F_minus C_reduced) (M a_minus) k_minus b_minus .nil
  have C_times := cal_mk (ok_times (P := l.prog) (w := w) (base := base) (ca := (fun n : Nat => n)) F_times C_reduced) (M a_times) k_times b_times .nil
  have C_over := cal_mk (ok_over (P := l.prog) (w := w) (base := base) (ca := (fun n : Nat => n)) F_over C_reduced) (M a_over) k_over b_over .nil
  have C_under := cal_mk (ok_under (P := l.prog) (w := w) (base := base) (ca := (fun n : Nat => n)) F_under ) (M a_under) k_under b_under .nil
  have C_apart := cal_mk (ok_apart (P := l.prog) (w := w) (base := base) (ca := (fun n : Nat => n)) F_apart C_minus C_under) (M a_apart) k_apart b_apart .nil
  have C_common := cal_mk (ok_common (P := l.prog) (w := w) (base := base) (ca := (fun n : Nat => n)) F_common C_greatest_divisor) (M a_common) k_common b_common .nil
  have O_total := ok_total (P := l.prog) (w := w) (base := base) (ca := (fun n : Nat => n)) F_total (Z z_list) (Z z_sum) C_common C_reduced
  obtain ⟨dt, vt, bt⟩ := F_total.binds1 (ps := ["some", "start"]) 1 0 (by simp) rfl fun _ _ _ _ _ _ _ us its hl hi => match us, its, hl, hi with | [_], [_], _, _ => ⟨_, rfl, rfl⟩
  have C_total1 := cal_mk O_total (M a_total) k_total bt vt
  have C__law_begun := cal_mk (ok__law_begun (P := l.prog) (w := w) (base := base) F__law_begun (Z z_max)) (M a__law_begun) k__law_begun b__law_begun .nil
  have C__law_take := cal_mk (ok__law_take (P := l.prog) (w := w) (base := base) F__law_take (Z z_int) (Z z_range)) (M a__law_take) k__law_take b__law_take .nil
  have C__law_one := cal_mk (ok__law_one (P := l.prog) (w := w) (base := base) (ca := (fun n : Nat => n)) F__law_one C__law_take C_fraction2) (M a__law_one) k__law_one b__law_one .nil
  have C__law_right := cal_mk (ok__law_right (P := l.prog) (w := w) (base := base) (ca := (fun n : Nat => n)) F__law_right C_apart C_is_fraction C_minus C_over C_plus C_times C_total1 C_under) (M a__law_right) k__law_right b__law_right .nil
  exact ad_end (law_true (fun n : Nat => n)) (.of (ok_law (P := l.prog) (w := w) (base := base) (ca := (fun n : Nat => n)) F_law (Z z_len) (Z z_max) (Z z_min) (Z z_range) C__law_begun C__law_one C__law_right C__law_take))
end B04
open PySem PySem.W PyProof.Rows
set_option maxHeartbeats 0 in
theorem PySem.Challenge.cw_neartwins_k04_whole_sums_there_and_back_holds : PySem.Challenge.rw_neartwins_k04_whole_sums_there_and_back.Holds := by
  w_on; o_law; k_head; (case hw => w_witness2)
  k_fill
  refine NF.walk_g (l := PySem.Challenge.rw_neartwins_k04_whole_sums_there_and_back) (n := 63) (k := 6) (x := "_law_script") (sp := fun w => SL.spEnd _) rfl (by decide) rfl ⟨rfl, by decide, by decide⟩ (fun w h Y => PySem.W.kIn_of Y) ?F (fun _ _ a ns hl _ hS => ⟨a, ns, rfl, hS, hl, fun _ => rfl⟩)
  case F =>
    intro w mg fa h KX G hmg
    refine' B04.all_mk KX G hmg ?a_is_whole ?l_is_whole ?d_is_whole ?k_is_whole ?a_greatest_divisor ?l_greatest_divisor ?d_greatest_divisor ?k_greatest_divisor ?a_is_fraction ?l_is_fraction ?d_is_fraction ?k_is_fraction ?a_reduced ?l_reduced ?d_reduced ?k_reduced ?a_fraction ?l_fraction ?d_fraction ?k_fraction ?t_fraction ?a_plus ?l_plus ?d_plus ?k_plus ?a_minus ?l_minus ?d_minus ?k_minus ?a_times ?l_times ?d_times ?k_times ?a_over ?l_over ?d_over ?k_over ?a_under ?l_under ?d_under ?k_under ?a_apart ?l_apart ?d_apart ?k_apart ?a_common ?l_common ?d_common ?k_common ?a_total ?l_total ?d_total ?k_total ?t_total ?a__law_begun ?l__law_begun ?d__law_begun ?k__law_begun ?a__law_take ?l__law_take ?d__law_take ?k__law_take ?a__law_one ?l__law_one ?d__law_one ?k__law_one ?a__law_right ?l__law_right ?d__law_right ?k__law_right ?a_law ?l_law ?d_law ?k_law ?z_abs ?z_bool ?z_int ?z_isinstance ?z_len ?z_list ?z_max ?z_min ?z_range ?z_sum ?z_tuple
    (case a_is_whole => k_is); (case l_is_whole => k_is); (case d_is_whole => k_is); (case k_is_whole => k_is); (case a_greatest_divisor => k_is); (case l_greatest_divisor => k_is); (case d_greatest_divisor => k_is); (case k_greatest_divisor => k_is); (case a_is_fraction => k_is); (case l_is_fraction => k_is); (case d_is_fraction => k_is); (case k_is_fraction => k_is); (case a_reduced => k_is); (case l_reduced => k_is); (case d_reduced => k_is); (case k_reduced => k_is); (case a_fraction => k_is); (case l_fraction => k_is); (case d_fraction => k_is); (case k_fraction => k_is); (case t_fraction => k_is); (case a_plus => k_is); (case l_plus => k_is); (case d_plus => k_is); (case k_plus => k_is); (case a_minus => k_is); (case l_minus => k_is); (case d_minus => k_is); (case k_minus => k_is); (case a_times => k_is); (case l_times => k_is); (case d_times => k_is); (case k_times => k_is); (case a_over => k_is); (case l_over => k_is); (case d_over => k_is); (case k_over => k_is); (case a_under => k_is); (case l_under => k_is); (case d_under => k_is); (case k_under => k_is); (case a_apart => k_is); (case l_apart => k_is); (case d_apart => k_is); (case k_apart => k_is); (case a_common => k_is); (case l_common => k_is); (case d_common => k_is); (case k_common => k_is); (case a_total => k_is); (case l_total => k_is); (case d_total => k_is); (case k_total => k_is); (case t_total => k_is); (case a__law_begun => k_is); (case l__law_begun => k_is); (case d__law_begun => k_is); (case k__law_begun => k_is); (case a__law_take => k_is); (case l__law_take => k_is); (case d__law_take => k_is); (case k__law_take => k_is); (case a__law_one => k_is); (case l__law_one => k_is); (case d__law_one => k_is); (case k__law_one => k_is); (case a__law_right => k_is); (case l__law_right => k_is); (case d__law_right => k_is); (case k__law_right => k_is); (case a_law => k_is); (case l_law => k_is); (case d_law => k_is); (case k_law => k_is); (case z_abs => k_is); (case z_bool => k_is); (case z_int => k_is); (case z_isinstance => k_is); (case z_len => k_is); (case z_list => k_is); (case z_max => k_is); (case z_min => k_is); (case z_range => k_is); (case z_sum => k_is); (case z_tuple => k_is)

