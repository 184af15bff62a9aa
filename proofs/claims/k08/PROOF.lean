import PyProof.Rows.All
import Wide.All
import OpenK.AllK
import Wide.FinOn
import PySem.Challenge.RW_neartwins_k08_where_it_goes
import HandS.ForMost
import HandS.Evl
import HandS.Defaults
import HandS.Wide
import HandS.IsInst
import HandS.Flow
import HandS.Exc
import HandS.ExcOwn
import HandS.ExcIs
import HandS.WordsExc
import OpenK.KOps
import HandS.Conv
set_option Elab.async false
set_option linter.all false
set_option maxRecDepth 100000
namespace NF

theorem gcd_step {a b : Int} (h : b ≠ 0) : Int.gcd b (a.fmod b) = Int.gcd a b ∧ (a.fmod b).natAbs < b.natAbs := by
  constructor
  · rw [Int.fmod_def, Int.gcd_sub_mul_left_right, Int.gcd_comm]
  · rcases Int.lt_or_gt_of_ne h with hb | hb
    · have e := Int.neg_fmod_neg a b
      have h1 := Int.fmod_nonneg_of_pos (-a) (show 0 < -b by omega)
      have h2 := Int.fmod_lt_of_pos (-a) (show 0 < -b by omega)
      omega
    · have h1 := Int.fmod_nonneg_of_pos a hb
      have h2 := Int.fmod_lt_of_pos a hb
      omega

/-- what reduced does -/
theorem red_pos {a b : Int} (h : 0 < b) : a.fdiv (Int.gcd a b) = (Rat.divInt a b).num ∧ b.fdiv (Int.gcd a b) = (Rat.divInt a b).den := by
  have hg : (0 : Int) < Int.gcd a b := by
    have : 0 < Int.gcd a b := Int.gcd_pos_of_ne_zero_right _ (by omega)
    omega
  constructor
  · rw [Rat.num_divInt, Int.gcd_comm b a, Int.sign_eq_one_of_pos h, Int.one_mul, Int.fdiv_eq_ediv_of_nonneg _ (by omega)]
  · rw [Rat.den_divInt, if_neg (by omega), Int.gcd_comm b a, Int.fdiv_eq_ediv_of_nonneg _ (by omega)]
    rw [Int.natCast_ediv]
    congr 1
    omega
theorem red_neg {a b : Int} (h : b < 0) : a.fdiv (-(Int.gcd a b : Int)) = (Rat.divInt a b).num ∧ b.fdiv (-(Int.gcd a b : Int)) = (Rat.divInt a b).den := by
  have d1 : (Int.gcd a b : Int) ∣ a := Int.gcd_dvd_left ..
  have d2 : (Int.gcd a b : Int) ∣ b := Int.gcd_dvd_right ..
  constructor
  · rw [Rat.num_divInt, Int.gcd_comm b a, Int.sign_eq_neg_one_of_neg h, Int.fdiv_eq_ediv_of_dvd (by rwa [Int.neg_dvd]), Int.ediv_neg, Int.neg_mul, Int.one_mul, Int.neg_ediv_of_dvd d1]
  · rw [Rat.den_divInt, if_neg (by omega), Int.gcd_comm b a, Int.fdiv_eq_ediv_of_dvd (by rwa [Int.neg_dvd]), Int.ediv_neg, ← Int.neg_ediv_of_dvd d2]
    rw [Int.natCast_ediv]
    congr 1
    omega

/-- how many bits a fraction has -/
def Sz (B : Nat) (x : Rat) : Prop := x.num.natAbs < 2 ^ B ∧ x.den < 2 ^ B
theorem Sz.mono {A B : Nat} {x : Rat} (h : Sz A x) (e : A ≤ B) : Sz B x :=
  ⟨Nat.lt_of_lt_of_le h.1 (Nat.pow_le_pow_right (by decide) e), Nat.lt_of_lt_of_le h.2 (Nat.pow_le_pow_right (by decide) e)⟩
theorem sz_div {B : Nat} {a b : Int} (ha : a.natAbs < 2 ^ B) (hb : b.natAbs < 2 ^ B) (h : b ≠ 0) : Sz B (Rat.divInt a b) := by
  constructor
  · rw [Rat.num_divInt]
    have d1 : (Int.gcd b a : Int) ∣ a := Int.gcd_dvd_right ..
    refine Nat.lt_of_le_of_lt ?_ ha
    have : (b.sign * a / ↑(b.gcd a)).natAbs ≤ (b.sign * a).natAbs := by
      exact Int.natAbs_ediv_le_natAbs ..
    refine Nat.le_trans this ?_
    rw [Int.natAbs_mul]
    have : b.sign.natAbs = 1 := Int.natAbs_sign_of_ne_zero h
    rw [this]; omega
  · rw [Rat.den_divInt, if_neg h]
    exact Nat.lt_of_le_of_lt (Nat.div_le_self ..) hb

theorem den0 (x : Rat) : (x.den : Int) ≠ 0 := by have := x.den_nz; omega
theorem denp (x : Rat) : (0 : Int) < (x.den : Int) := by have := x.den_nz; omega
theorem add_rt (x y : Rat) : x + y = Rat.divInt (x.num * y.den + y.num * x.den) (x.den * y.den) := by
  rw [← Rat.divInt_add_divInt _ _ (den0 x) (den0 y), Rat.num_divInt_den, Rat.num_divInt_den]
theorem sub_rt (x y : Rat) : x - y = Rat.divInt (x.num * y.den - y.num * x.den) (x.den * y.den) := by
  rw [← Rat.divInt_sub_divInt _ _ (den0 x) (den0 y), Rat.num_divInt_den, Rat.num_divInt_den]
theorem mul_rt (x y : Rat) : x * y = Rat.divInt (x.num * y.num) (x.den * y.den) := by
  rw [← Rat.divInt_mul_divInt, Rat.num_divInt_den, Rat.num_divInt_den]
theorem div_rt (x y : Rat) : x / y = Rat.divInt (x.num * y.den) (x.den * y.num) := by
  rw [Rat.div_def, Rat.inv_def, ← Rat.divInt_mul_divInt, Rat.num_divInt_den]
theorem nz_num {x : Rat} (h : x.num ≠ 0) : x ≠ 0 := fun e => h (by rw [e]; rfl)
theorem num_nz {x : Rat} (h : x ≠ 0) : x.num ≠ 0 := fun e => h (Rat.num_eq_zero.mp e)

theorem bits_mul {i j : Int} {a b : Nat} (ha : i.natAbs < 2 ^ a) (hb : j.natAbs < 2 ^ b) : (i * j).natAbs < 2 ^ (a + b) := by
  rw [Int.natAbs_mul, Nat.pow_add]
  exact Nat.mul_lt_mul'' ha hb
theorem bits_add {i j : Int} {a : Nat} (ha : i.natAbs < 2 ^ a) (hb : j.natAbs < 2 ^ a) : (i + j).natAbs < 2 ^ (a + 1) := by
  rw [Nat.pow_succ]; omega
theorem bits_sub {i j : Int} {a : Nat} (ha : i.natAbs < 2 ^ a) (hb : j.natAbs < 2 ^ a) : (i - j).natAbs < 2 ^ (a + 1) := by
  rw [Nat.pow_succ]; omega
theorem bits_up {i : Int} {a b : Nat} (h : i.natAbs < 2 ^ a) (e : a ≤ b) : i.natAbs < 2 ^ b := Nat.lt_of_lt_of_le h (Nat.pow_le_pow_right (by decide) e)
theorem Sz.num {B : Nat} {x : Rat} (h : Sz B x) : x.num.natAbs < 2 ^ B := h.1
theorem Sz.den {B : Nat} {x : Rat} (h : Sz B x) : (x.den : Int).natAbs < 2 ^ B := by have := h.2; omega
theorem den_mul0 (x y : Rat) : (x.den : Int) * y.den ≠ 0 := Int.mul_ne_zero (den0 x) (den0 y)
theorem Sz.add {B : Nat} {x y : Rat} (hx : Sz B x) (hy : Sz B y) : Sz (2 * B + 1) (x + y) := by
  rw [add_rt]
  exact sz_div (bits_up (bits_add (bits_mul hx.num hy.den) (bits_mul hy.num hx.den)) (by omega)) (bits_up (bits_mul hx.den hy.den) (by omega)) (den_mul0 x y)
theorem Sz.sub {B : Nat} {x y : Rat} (hx : Sz B x) (hy : Sz B y) : Sz (2 * B + 1) (x - y) := by
  rw [sub_rt]
  exact sz_div (bits_up (bits_sub (bits_mul hx.num hy.den) (bits_mul hy.num hx.den)) (by omega)) (bits_up (bits_mul hx.den hy.den) (by omega)) (den_mul0 x y)
theorem Sz.mul {B : Nat} {x y : Rat} (hx : Sz B x) (hy : Sz B y) : Sz (2 * B + 1) (x * y) := by
  rw [mul_rt]
  exact sz_div (bits_up (bits_mul hx.num hy.num) (by omega)) (bits_up (bits_mul hx.den hy.den) (by omega)) (den_mul0 x y)
theorem Sz.div {B : Nat} {x y : Rat} (hx : Sz B x) (hy : Sz B y) (h : y ≠ 0) : Sz (2 * B + 1) (x / y) := by
  rw [div_rt]
  exact sz_div (bits_up (bits_mul hx.num hy.den) (by omega)) (bits_up (bits_mul hx.den hy.num) (by omega)) (Int.mul_ne_zero (den0 x) (num_nz h))

/-- how far two are apart -/
def ap (x y : Rat) : Rat := if x < y then y - x else x - y
theorem Sz.ap {B : Nat} {x y : Rat} (hx : Sz B x) (hy : Sz B y) : Sz (2 * B + 1) (ap x y) := by
  unfold NF.ap
  split
  · exact hy.sub hx
  · exact hx.sub hy
theorem ap_comm (x y : Rat) : ap x y = ap y x := by
  unfold NF.ap; grind
theorem ap_tri (x y z : Rat) : ¬ (ap x z + ap z y < ap x y) := by
  unfold NF.ap; grind
theorem ap_zero (x y : Rat) : ap x y = 0 ↔ x = y := by
  unfold NF.ap; grind
theorem ap_pos (x y : Rat) : ¬ (ap x y < 0) := by
  unfold NF.ap; grind
theorem lt3 (x y : Rat) : (if x < y then 1 else 0) + (if x = y then 1 else 0) + (if y < x then 1 else 0) = 1 := by grind
theorem lt_rt (x y : Rat) : x < y ↔ x.num * y.den < y.num * x.den := Rat.lt_iff x y
theorem t1 (x y : Rat) : x + y - y = x := by grind
theorem t2 (x y : Rat) : y + x = x + y := by grind
theorem t3 (x y z : Rat) : 0 + x + y + z = x + y + z := by grind
theorem t4 (x y z : Rat) : x + (y + z) = x + y + z := by grind
theorem t5 (x y z : Rat) : x * y * z = x * (z * y) := by grind
theorem t6 (x y z : Rat) : (x + y) * z = x * z + y * z := by grind
theorem t7 (x z : Rat) (h : z ≠ 0) : x * z / z = x := by grind
theorem cop (x : Rat) : Int.gcd x.num x.den = 1 := x.reduced
end NF

namespace NF
open PySem PySem.Spec PyProof.Rows L2 Evl

/-! ### a fraction as a value -/
section
variable {K : PySem.W.Frag} {H H1 H2 : Hp} {σ : L2.St} {ta tb te : TE} {x y z : Rat} {v w : V} {b : Bool}
def Rt (K : PySem.W.Frag) (H : Hp) (v : V) (x : Rat) : Prop := ∃ p, v = .ref p ∧ SqT K H p [.int x.num, .int x.den]
theorem Rt.mono (h : Rt K H v x) (e : Ex H H1) : Rt K H1 v x := by
  obtain ⟨p, e1, h⟩ := h
  exact ⟨p, e1, ex_t e h⟩
theorem Rt.of {p : Addr} {n d : Int} (h : H p = some (.tup [.int n, .int d])) (en : n = x.num) (ed : d = x.den) : Rt K H (.ref p) x := by
  subst en ed
  exact ⟨p, rfl, SqT.of h⟩
def EvF (K : PySem.W.Frag) (te : TE) (σ : L2.St) (H : Hp) (x : Rat) : Prop := ∀ H1, Ex H H1 → ∀ Q : VK, (∀ v H2, Ex H1 H2 → Rt K H2 v x → Q v H2) → te σ H1 Q
theorem EvF.mono (h : EvF K te σ H x) (e : Ex H H1) : EvF K te σ H1 x := fun H2 a Q q => h H2 (e.trans a) Q q
theorem EvF.to (h : EvF K te σ H x) (e : x = y) : EvF K te σ H y := e ▸ h
theorem ef_var {i : Nat} (h : σ[i]? = some (some v)) (r : Rt K H v x) : EvF K (tVar i) σ H x := fun H1 e _ q => ⟨v, h, q v H1 (Ex.refl H1) (r.mono e)⟩
theorem ev_ix0 (ha : EvF K ta σ H x) : Ev (tOp (rIxT K) ta (tC (.int 0))) σ H (.int x.num) := fun H1 e Q q => ha H1 e _ fun v H2 e2 r => by
  obtain ⟨p, rfl, hs⟩ := r
  exact ⟨p, _, 0, _, rfl, rfl, hs, atI_nat (j := 0) rfl, q H2 e2⟩
theorem ev_ix1 (ha : EvF K ta σ H x) : Ev (tOp (rIxT K) ta (tC (.int 1))) σ H (.int x.den) := fun H1 e Q q => ha H1 e _ fun v H2 e2 r => by
  obtain ⟨p, rfl, hs⟩ := r
  exact ⟨p, _, 1, _, rfl, rfl, hs, atI_nat (j := 1) rfl, q H2 e2⟩
theorem eqv_rt : PyData.eqv (.tuple [.int x.num, .int x.den]) (.tuple [.int y.num, .int y.den]) = decide (x = y) := by
  have e : PyData.eqv (.tuple [.int x.num, .int x.den]) (.tuple [.int y.num, .int y.den]) = (x.num == y.num && ((x.den : Int) == (y.den : Int))) := by
    simp [PyData.eqv, PyData.eqvAll]
  rw [e]
  by_cases h : x = y
  · subst h; simp
  · rw [decide_eq_false h]
    by_cases h1 : x.num = y.num
    · have h2 : (x.den : Int) ≠ y.den := fun e => h (Rat.ext h1 (by omega))
      simp [h2]
    · simp [h1]
theorem dp_rt (h : Rt K H v x) : Dp K H v (.tuple [.int x.num, .int x.den]) := by
  obtain ⟨p, rfl, hs⟩ := h
  exact .tup hs (.cons (.int _) (.cons (.int _) .nil))
theorem ev_eqF (ha : EvF K ta σ H x) (hb : EvF K tb σ H y) : Ev (tOp (rEqD K) ta tb) σ H (.bl (decide (x = y))) := fun H1 e Q q =>
  ha H1 e _ fun v H2 e2 r => hb H2 (e.trans e2) _ fun w H3 e3 r' => ⟨_, _, dp_rt (r.mono e3), dp_rt r', rfl, rfl, by rw [eqv_rt]; exact q H3 (e2.trans e3)⟩
theorem ev_neF (ha : EvF K ta σ H x) (hb : EvF K tb σ H y) : Ev (tOp (rNeD K) ta tb) σ H (.bl (!decide (x = y))) := fun H1 e Q q =>
  ha H1 e _ fun v H2 e2 r => hb H2 (e.trans e2) _ fun w H3 e3 r' => ⟨_, _, dp_rt (r.mono e3), dp_rt r', rfl, rfl, by rw [eqv_rt]; exact q H3 (e2.trans e3)⟩
/-- a written pair -/
theorem ef_tup {n d : Int} (h : EvU te σ H [.int n, .int d]) (en : n = x.num) (ed : d = x.den) : EvF K te σ H x := fun H1 e Q q =>
  h H1 e _ fun p H2 _ e2 hp => q _ H2 e2 (Rt.of hp en ed)
theorem ef_if {t : TT} (h : EvT t σ H b) (h1 : b = true → EvF K ta σ H x) (h2 : b = false → EvF K tb σ H x) : EvF K (tIf t ta tb) σ H x := fun H1 e Q q => h H1 e _ fun H2 e2 => by
  cases b with
  | true =>
    show ta σ H2 Q
    exact h1 rfl H2 (e.trans e2) Q fun v H3 e3 r => q v H3 (e2.trans e3) r
  | false =>
    show tb σ H2 Q
    exact h2 rfl H2 (e.trans e2) Q fun v H3 e3 r => q v H3 (e2.trans e3) r
variable {D : Ends} {tu tw tz : TS}
theorem s_retF (h : EvF K te σ H x) (k : ∀ u H1, Ex H H1 → Rt K H1 u x → D.rt u H1) : tRet te D σ H := h H (Ex.refl H) _ k
theorem q_asgF {i : Nat} (h : EvF K te σ H x) (k : ∀ u H1, Ex H H1 → Rt K H1 u x → tz D (σ.set i (some u)) H1) : tSeq (tAsg te (gName i)) tz D σ H := h H (Ex.refl H) _ fun u H1 e r => k u H1 e r
theorem s_asgF {i : Nat} (h : EvF K te σ H x) (k : ∀ u H1, Ex H H1 → Rt K H1 u x → D.nx (σ.set i (some u)) H1) : tAsg te (gName i) D σ H := h H (Ex.refl H) _ fun u H1 e r => k u H1 e r
theorem s_par {i j : Nat} {ta : TA} (h : EvA ta σ H [v, w]) (k : ∀ H1, Ex H H1 → D.nx ((σ.set i (some v)).set j (some w)) H1) : tPar i j ta D σ H := h H (Ex.refl H) _ fun H1 e => ⟨v, w, rfl, k H1 e⟩
end

/-! ### // by any divisor but 0 -/
def CDivX (_ j : Int) : Prop := j ≠ 0 ∧ j.natAbs.log2 < 9000
theorem op_fdivX {X : Cx} : OpR X (binaryOp .FloorDiv) (rI CDivX fun i j => .int (i.fdiv j)) := opI fun _ _ _ _ _ _ _ hc q => floordiv_int hc.1 q (.inl (PyProof.noPylong_of_log2 hc.2))
theorem divX {i j : Int} {b : Nat} (h : j ≠ 0) (hb : j.natAbs < 2 ^ b) (h0 : 0 < b) (h9 : b ≤ 9000) : CDivX i j := ⟨h, Nat.lt_of_lt_of_le (PySem.Flt.log2_lt_of h0 hb) h9⟩

/-! ### a def that is called -/
structure Cal (P : Program) (w : World) (K : PySem.W.Frag) (mg : Str → Option Value) (base : Heap) (k : Nat) (x : Str) (ps : List Str) (dvs : List V) (sp : Sp) : Prop where
  ex : ∃ (f : Addr) (fd : FuncData) (ds : List Value), FnOk P w K mg base CX0 k f fd ps sp ∧ mg x = some (.ref f) ∧ PySem.W.keepIn K (.ref f) = true ∧ Binds K fd ps ds ∧ Vals dvs ds
theorem pe_cal {X : Cx} {j k : Nat} {x : Str} {ps : List Str} {dvs : List V} {sp : Sp} {e : Expr} {es : List Expr} {t : TA} {p pos : Pos} (C : Cal X.prog X.w X.K X.mg X.base k x ps dvs sp) (hr : Room j X.A) (hk : k ≤ j) (hg : Gl X x)
    (ha : PA X (e :: es) t) (hdb : (x == ("__debug__" : Str)) = false := by decide) (he : starEach (e :: es) X.env = (false, eval e X.env) :: starEach es X.env := by rfl) (hpl : (backTo pos (starEach es X.env)).any (·.1) = false := by rfl) :
    PE X (.Call (.Name x p) (e :: es) [] pos) (tCall sp dvs E0 t) := by
  obtain ⟨f, fd, ds, F, hm, kp, b, d⟩ := C.ex
  exact pe_call F (hr.mono hk) hg hm kp b d pass0 ha hdb he hpl

/-! ### promises -/
def spGcd : Sp := fun vs H Q _ => ∃ a b : Int, vs = [.int a, .int b] ∧ ∀ H', Ex H H' → Q (.int (Int.gcd a b)) H'
def spRed (K : PySem.W.Frag) : Sp := fun vs H Q _ => ∃ (a b : Int) (B : Nat), vs = [.int a, .int b] ∧ b ≠ 0 ∧ a.natAbs < 2 ^ B ∧ b.natAbs < 2 ^ B ∧ 0 < B ∧ B ≤ 9000 ∧ ∀ v H', Ex H H' → Rt K H' v (Rat.divInt a b) → Q v H'
def sp2 (K : PySem.W.Frag) (C : Rat → Rat → Prop) (f : Rat → Rat → Rat) : Sp := fun vs H Q _ => ∃ (v w : V) (x y : Rat) (B : Nat), vs = [v, w] ∧ Rt K H v x ∧ Rt K H w y ∧ C x y ∧ Sz B x ∧ Sz B y ∧ 0 < B ∧ B ≤ 4000 ∧ ∀ u H', Ex H H' → Rt K H' u (f x y) → Q u H'
def spLt (K : PySem.W.Frag) : Sp := fun vs H Q _ => ∃ (v w : V) (x y : Rat) (B : Nat), vs = [v, w] ∧ Rt K H v x ∧ Rt K H w y ∧ Sz B x ∧ Sz B y ∧ 0 < B ∧ B ≤ 400000 ∧ ∀ H', Ex H H' → Q (.bl (decide (x < y))) H'
section
variable {K : PySem.W.Frag} {H H1 H2 : Hp} {σ : L2.St} {ta tb te : TE} {x y z : Rat} {v w : V} {B : Nat} {C : Rat → Rat → Prop} {f : Rat → Rat → Rat} {E : XK}
theorem ef_2 (ha : EvF K ta σ H x) (hb : EvF K tb σ H y) (hc : C x y) (sx : Sz B x) (sy : Sz B y) (h0 : 0 < B) (h4 : B ≤ 4000) : EvF K (tCall (sp2 K C f) [] E (tCons ta (tCons tb tNil))) σ H (f x y) := fun H1 e Q q =>
  ha H1 e _ fun v H2 e2 r => hb H2 (e.trans e2) _ fun w H3 e3 r' => ⟨v, w, x, y, B, rfl, r.mono e3, r', hc, sx, sy, h0, h4, fun u H' e4 ru => q u H' ((e2.trans e3).trans e4) ru⟩
theorem ev_lt (ha : EvF K ta σ H x) (hb : EvF K tb σ H y) (sx : Sz B x) (sy : Sz B y) (h0 : 0 < B) (h4 : B ≤ 400000) : Ev (tCall (spLt K) [] E (tCons ta (tCons tb tNil))) σ H (.bl (decide (x < y))) := fun H1 e Q q =>
  ha H1 e _ fun v H2 e2 r => hb H2 (e.trans e2) _ fun w H3 e3 r' => ⟨v, w, x, y, B, rfl, r.mono e3, r', sx, sy, h0, h4, fun H' e4 => q H' ((e2.trans e3).trans e4)⟩
theorem ef_red {a b : Int} (ha : Ev ta σ H (.int a)) (hb : Ev tb σ H (.int b)) (hn : b ≠ 0) (ba : a.natAbs < 2 ^ B) (bb : b.natAbs < 2 ^ B) (h0 : 0 < B) (h4 : B ≤ 9000) : EvF K (tCall (spRed K) [] E (tCons ta (tCons tb tNil))) σ H (Rat.divInt a b) := fun H1 e Q q =>
  ha H1 e _ fun H2 e2 => hb H2 (e.trans e2) _ fun H3 e3 => ⟨a, b, B, rfl, hn, ba, bb, h0, h4, fun u H' e4 ru => q u H' ((e2.trans e3).trans e4) ru⟩
theorem ev_gcd {a b : Int} (ha : Ev ta σ H (.int a)) (hb : Ev tb σ H (.int b)) : Ev (tCall spGcd [] E (tCons ta (tCons tb tNil))) σ H (.int (Int.gcd a b)) := fun H1 e Q q =>
  ha H1 e _ fun H2 e2 => hb H2 (e.trans e2) _ fun H3 e3 => ⟨a, b, rfl, fun H' e4 => q H' ((e2.trans e3).trans e4)⟩
end
end NF

namespace NF
open PySem PySem.Spec PyProof.Rows L2 Evl
/-! ### isinstance -/
theorem c_ty {X : Cx} {x : Str} {n : String} {pos : Pos} (hm : X.mg x = none) (hg : Gl X x) (hv : bootBuiltins x = some (.type n)) (hn : x ≠ "__name__") (hd : (x == ("__debug__" : Str)) = false := by decide) : PE X (.Name x pos) (tC (.ty n)) := pe_bltn hg hm hv rfl hn hd
section
variable {K : PySem.W.Frag} {H H1 H2 : Hp} {σ : L2.St} {ta tb te : TE} {v w : V} {t c : String} {b : Bool} {E : XK}
theorem tyx_mono {t : Value} (h : TyX K H v t) (e : Ex H H1) : TyX K H1 v t := by
  cases h with
  | base b =>
    refine .base ?_
    cases b with
    | non => exact .non
    | bl y => exact .bl y
    | int i => exact .int i
    | str y => exact .str y
    | flt y => exact .flt y
    | lst ea => exact .lst (e _ _ ea)
    | frz ea => exact .frz (e _ _ ea)
    | tup ea => exact .tup (e _ _ ea)
    | dK ea => exact .dK (e _ _ ea)
    | dT ea => exact .dT (e _ _ ea)
    | ins ea cl ha hn htk hm => exact .ins (e _ _ ea) cl ha hn htk hm
  | byt y => exact .byt y
  | set ea => exact .set (e _ _ ea)
  | kList ea c => exact .kList ea c
  | kTuple ea c => exact .kTuple ea c
  | kDict ea c => exact .kDict ea c
  | fTuple ea => exact .fTuple (e _ _ ea)
  | fDict ea => exact .fDict (e _ _ ea)
theorem ev_isi (h : Ev ta σ H v) (ty : TyX K H v (.type t)) (kb : kitB t c = some b) : Ev (tCB (rIsi K) (tCons ta (tCons (tC (.ty c)) tNil))) σ H (.bl b) := fun H1 e Q q =>
  h H1 e _ fun H2 e2 => ⟨v, .ty c, _, _, b, rfl, .ty c, tyx_mono ty (e.trans e2), kit_ty kb, q H2 e2⟩
def spWhole (K : PySem.W.Frag) : Sp := fun vs H Q _ => ∃ (v : V) (t : String) (b1 b2 : Bool), vs = [v] ∧ TyX K H v (.type t) ∧ kitB t "int" = some b1 ∧ kitB t "bool" = some b2 ∧ ∀ H', Ex H H' → Q (.bl (b1 && !b2)) H'
theorem ev_whole {b1 b2 : Bool} (h : Ev ta σ H v) (ty : TyX K H v (.type t)) (k1 : kitB t "int" = some b1) (k2 : kitB t "bool" = some b2) : Ev (tCall (spWhole K) [] E (tCons ta tNil)) σ H (.bl (b1 && !b2)) := fun H1 e Q q =>
  h H1 e _ fun H2 e2 => ⟨v, t, b1, b2, rfl, tyx_mono ty (e.trans e2), k1, k2, fun H' e3 => q H' (e2.trans e3)⟩
theorem kit_ii : kitB "int" "int" = some true := by decide +kernel
theorem kit_ib : kitB "int" "bool" = some false := by decide +kernel
theorem kit_tt : kitB "tuple" "tuple" = some true := by decide +kernel
theorem ty_int (i : Int) : TyX K H (.int i) (.type "int") := .base (.int i)
theorem ev_wholeI {i : Int} (h : Ev ta σ H (.int i)) : Ev (tCall (spWhole K) [] E (tCons ta tNil)) σ H (.bl true) := ev_whole h (ty_int i) kit_ii kit_ib
theorem ty_tup {p : Addr} {xs : List V} (h : SqT K H p xs) : TyX K H (.ref p) (.type "tuple") := by
  rcases h with (h | ⟨o, h⟩) | ⟨o, its, n, e, c, _⟩
  · exact .base (.tup h)
  · exact .fTuple h
  · exact .kTuple e c
end
def spFrac (K : PySem.W.Frag) : Sp := fun vs H Q _ => ∃ (a b : Int) (B : Nat), vs = [.int a, .int b] ∧ b ≠ 0 ∧ a.natAbs < 2 ^ B ∧ b.natAbs < 2 ^ B ∧ 0 < B ∧ B ≤ 9000 ∧ ∀ v H', Ex H H' → Rt K H' v (Rat.divInt a b) → Q v H'
def spIsF (K : PySem.W.Frag) : Sp := fun vs H Q _ => ∃ (v : V) (x : Rat), vs = [v] ∧ Rt K H v x ∧ ∀ H', Ex H H' → Q (.bl true) H'
/-- fractions in a list -/
inductive RtAll (K : PySem.W.Frag) (H : Hp) : List V → List Rat → Prop
  | nil : RtAll K H [] []
  | cons {v : V} {vs : List V} {x : Rat} {xs : List Rat} : Rt K H v x → RtAll K H vs xs → RtAll K H (v :: vs) (x :: xs)
theorem RtAll.mono {K : PySem.W.Frag} {H H1 : Hp} (e : Ex H H1) : ∀ {vs : List V} {xs : List Rat}, RtAll K H vs xs → RtAll K H1 vs xs
  | _, _, .nil => .nil
  | _, _, .cons h t => .cons (h.mono e) (RtAll.mono e t)
theorem RtAll.get {K : PySem.W.Frag} {H : Hp} : ∀ {vs : List V} {xs : List Rat} {i : Nat} {v : V}, RtAll K H vs xs → vs[i]? = some v → ∃ x, xs[i]? = some x ∧ Rt K H v x
  | _, _, _, _, .nil, e => by simp at e
  | _, _, 0, _, .cons h _, e => by
    have e' := Option.some.inj e
    subst e'
    exact ⟨_, rfl, h⟩
  | _, _, i + 1, _, .cons _ t, e => RtAll.get (i := i) t e
theorem RtAll.length {K : PySem.W.Frag} {H : Hp} : ∀ {vs : List V} {xs : List Rat}, RtAll K H vs xs → vs.length = xs.length
  | _, _, .nil => rfl
  | _, _, .cons _ t => congrArg Nat.succ (RtAll.length t)
def sumF (x0 : Rat) (xs : List Rat) : Rat := xs.foldl (· + ·) x0
theorem sumF_take {x0 x : Rat} {xs : List Rat} {i : Nat} (h : xs[i]? = some x) : sumF x0 (xs.take (i + 1)) = sumF x0 (xs.take i) + x := by
  unfold sumF
  rw [List.take_add_one, h, List.foldl_append]
  rfl
/-- one summand after another -/
theorem Sz.addAB {A B : Nat} {x y : Rat} (hx : Sz A x) (hy : Sz B y) : Sz (A + B + 1) (x + y) := by
  rw [add_rt]
  exact sz_div (bits_add (bits_mul hx.num hy.den) (bits_up (bits_mul hy.num hx.den) (by omega))) (bits_up (bits_mul hx.den hy.den) (by omega)) (den_mul0 x y)
theorem sz_sum {B : Nat} {x0 : Rat} {xs : List Rat} (h0 : Sz B x0) (hs : ∀ x ∈ xs, Sz B x) : ∀ i, i ≤ xs.length → Sz ((i + 1) * (B + 1)) (sumF x0 (xs.take i))
  | 0, _ => by
    refine Sz.mono (A := B) ?_ (by omega)
    exact h0
  | i + 1, h => by
    have hi : i < xs.length := by omega
    rw [sumF_take (List.getElem?_eq_getElem hi)]
    refine Sz.mono ((sz_sum h0 hs i (by omega)).addAB (hs _ (List.getElem_mem hi))) ?_
    rw [Nat.succ_mul (i + 1)]
    omega
def spTot (K : PySem.W.Frag) : Sp := fun vs H Q _ => ∃ (a : Addr) (us : List V) (xs : List Rat) (w : V) (x0 : Rat) (B : Nat), vs = [.ref a, w] ∧ SqL K H a us ∧ RtAll K H us xs ∧ ((w = .non ∧ x0 = 0) ∨ Rt K H w x0) ∧ Sz B x0 ∧ (∀ x ∈ xs, Sz B x) ∧
  (xs.length + 2) * (B + 1) ≤ 4000 ∧ ∀ u H', Ex H H' → Rt K H' u (sumF x0 xs) → Q u H'
end NF

namespace NF
open PySem PySem.Spec PyProof.Rows L2 Evl
/-! ### [..].count(True) -/
theorem vals_bl : ∀ {bs : List Bool} {its : List Value}, Vals (bs.map V.bl) its → its = bs.map Value.bool
  | [], _, .nil => rfl
  | b :: bs, _, .cons r t => by
    have e : _ = Value.bool b := r
    rw [e, vals_bl t]
    rfl
def rCntB (K : PySem.W.Frag) : V → List V → Hp → VK → Prop := fun x xs H Q => ∃ (p : Addr) (bs : List Bool) (k : Bool), x = .ref p ∧ xs = [.bl k] ∧ SqL K H p (bs.map V.bl) ∧ Q (.int (bs.count k : Nat)) H
theorem mt_countB {X : Cx} : MtR X "list.count" (rCntB X.K) := by
  intro pins s σ H x xs v us Q I rx rxs h
  obtain ⟨p, bs, k, rfl, rfl, hs, q⟩ := h
  cases rx
  obtain ⟨u, rfl, ru⟩ := rxs.one
  cases (show u = Value.bool k from ru)
  obtain ⟨its, rv, ⟨⟨cls, dd, data, sl⟩, n, ho, hc, hdn, hd⟩, hlen⟩ := I.list hs
  simp only at hc hd
  subst hc hd
  have hi := vals_bl rv
  subst hi
  refine call_meets PySem.F.slot_list_count ⟨_, ho, rfl⟩ PySem.F.entry_list_count (PySem.F.args_list_count_2 _ _)
    (SeqAt.list_countAt p (bs.map Value.bool).toArray n dd sl (.bool k) (isBoolOf k)) ⟨ho, fun y hy => ?_, ?_⟩
  · have hy' : y ∈ bs.map Value.bool := by simpa using hy
    obtain ⟨b, _, rfl⟩ := List.mem_map.mp hy'
    exact SeqAt.EqAt.bool_bool b k
  · have ec : (bs.map Value.bool).toArray.toList.countP (isBoolOf k) = bs.count k := by
      show (bs.map Value.bool).countP (isBoolOf k) = bs.count k
      rw [List.countP_map, List.count]
      rfl
    refine ⟨.int (bs.count k : Nat), H, I.tok _, ⟨s.toks, ?_⟩, q⟩
    rw [ec]
/-! ### the law's state: a list of two ints and a truth -/
def Exs (st : Addr) (H H' : Hp) : Prop := ∀ b o, b ≠ st → H b = some o → H' b = some o
theorem Exs.refl (st : Addr) (H : Hp) : Exs st H H := fun _ _ _ h => h
theorem Exs.trans {st : Addr} {H H1 H2 : Hp} (a : Exs st H H1) (b : Exs st H1 H2) : Exs st H H2 := fun c o n h => b c o n (a c o n h)
theorem Exs.of {st : Addr} {H H1 : Hp} (e : Ex H H1) : Exs st H H1 := fun c o _ h => e c o h
theorem Exs.upd {st : Addr} {H : Hp} {o : HO} : Exs st H (upd H st o) := fun c u n h => by rw [upd_ne n]; exact h
def StA (st : Addr) (H : Hp) : Prop := ∃ (n m : Int) (c : Bool), H st = some (.lst [.int n, .int m, .bl c])
theorem StA.mono {st : Addr} {H H1 : Hp} (e : Ex H H1) (h : StA st H) : StA st H1 := by
  obtain ⟨n, m, c, h⟩ := h
  exact ⟨n, m, c, e _ _ h⟩
/-- what is no list of the state's stays -/
theorem Exs.lst {K : PySem.W.Frag} {st a : Addr} {H H1 : Hp} {xs : List V} (e : Exs st H H1) (n : a ≠ st) (h : SqL K H a xs) : SqL K H1 a xs := by
  rcases h with (h | ⟨o, h⟩) | h
  · exact .inl (.inl (e _ _ n h))
  · exact .inl (.inr ⟨o, e _ _ n h⟩)
  · exact .inr h
theorem Exs.tup {K : PySem.W.Frag} {st a : Addr} {H H1 : Hp} {xs : List V} (e : Exs st H H1) (hs : StA st H) (h : SqT K H a xs) : SqT K H1 a xs := by
  obtain ⟨n, m, c, hs⟩ := hs
  rcases h with (h | ⟨o, h⟩) | h
  · exact .inl (.inl (e _ _ (ne_of h hs (fun z => by cases z)) h))
  · exact .inl (.inr ⟨o, e _ _ (ne_of h hs (fun z => by cases z)) h⟩)
  · exact .inr h
theorem Rt.exs {K : PySem.W.Frag} {st : Addr} {H H1 : Hp} {v : V} {x : Rat} (r : Rt K H v x) (e : Exs st H H1) (hs : StA st H) : Rt K H1 v x := by
  obtain ⟨p, e1, h⟩ := r
  exact ⟨p, e1, e.tup hs h⟩
def spBegun (K : PySem.W.Frag) : Sp := fun vs H Q _ => ∃ (a : Addr) (ns : List Int) (k : Nat), vs = [.ref a, .int (k : Int)] ∧ SqL K H a (ns.map V.int) ∧ ns.length ≤ 1000 ∧ k ≤ 1000 ∧ ∀ st H', H st = none → Ex H H' → StA st H' → Q (.ref st) H'
def spTake : Sp := fun vs H Q _ => ∃ (st : Addr) (many : Int), vs = [.ref st, .int many] ∧ StA st H ∧ 0 < many ∧ many.natAbs < 2 ^ 8000 ∧ ∀ d H', 0 ≤ d → d < many → StA st H' → Exs st H H' → Q (.int d) H'
theorem take_call {st : Addr} {many : Int} {H : Hp} {Q : VK} {E : XK} (hs : StA st H) (h0 : 0 < many) (hm : many.natAbs < 2 ^ 8000) (q : ∀ d H', 0 ≤ d → d < many → StA st H' → Exs st H H' → Q (.int d) H') : spTake [.ref st, .int many] H Q E := ⟨st, many, rfl, hs, h0, hm, q⟩
theorem small_bits {i : Int} (h0 : 0 ≤ i) (h : i ≤ 10 ^ 2000) : i.natAbs < 2 ^ 8000 := by
  have e : (10 : Int) ^ 2000 < 2 ^ 8000 := by decide +kernel
  have e2 : ((2 ^ 8000 : Nat) : Int) = (2 : Int) ^ 8000 := by decide +kernel
  omega
end NF

namespace NF
open PySem PySem.Spec PyProof.Rows L2 Evl
/-! ### promises that also know that no repr is under way (the layer's FnOk says nothing of guards, so repr of a tuple has no rule over it) -/
structure FnG (P : Program) (w : World) (K : PySem.W.Frag) (mg : Str → Option Value) (base : Heap) (CX : CXT) (k : Nat) (f : Addr) (fd : FuncData) (ps : List Str) (sp : Sp) : Prop where
  many : ∀ vs H Q E, sp vs H Q E → vs.length = ps.length
  goes : ∀ (A : Around) (out : List Env) (s : Shared) (H : Hp) (args : Args) (us : List Value) (vs : List V) (Q : VK) (E : XK), A.guards = some [] → Room k A → Env0 P w K mg base A out s H →
    BindsTo s fd args (ps.zip us) → Vals vs us → sp vs H Q E → codeAny (model P w) A (.call (.ref f) args) (CR CX out P w H s Q E) s
section
variable {P : Program} {w : World} {K : PySem.W.Frag} {mg : Str → Option Value} {base : Heap} {CX : CXT} {k j : Nat} {f : Addr} {fd : FuncData} {ps N : List Str} {sp : Sp}
theorem FnG.of (F : FnOk P w K mg base CX k f fd ps sp) : FnG P w K mg base CX k f fd ps sp :=
  ⟨F.len, fun A out s H args us vs Q E _ hr he hb hv hs => F.run A out s H args us vs Q E hr he hb hv hs⟩
theorem FnG.more (F : FnG P w K mg base CX k f fd ps sp) (h : k ≤ j) : FnG P w K mg base CX j f fd ps sp :=
  ⟨F.many, fun A out s H args us vs Q E g hr => F.goes A out s H args us vs Q E g (hr.mono h)⟩
/-- a def by its body, where no repr is under way -/
theorem fn_g {name qual : Str} {params : Arguments} {body : List Stmt} {scope : Scope} {dV kV doc pm cdv ct oc : Value} {an od : Option Addr} {osl : Array (Option Value)}
    (at_f : K.lookup f = some ⟨oc, od, .func (PySem.W.fnOf name qual params body scope dV kV doc pm an cdv ct), osl⟩) (code_f : PySem.W.codeIn K cdv qual = true) (S : FnScope N ps scope) (many : ∀ vs H Q E, sp vs H Q E → vs.length = ps.length)
    (walk : ∀ (A : Around) (out : List Env) (s : Shared) (H : Hp) (vs : List V) (Q : VK) (E : XK), A.guards = some [] → Room k (A.deeper (envOfC qual scope s.heap.objs.size f cdv)) → sp vs H Q E →
      ∃ t, PSs (cxOf CX P w K mg base N qual scope f cdv A out s H E) body t ∧ t { nx := fun _ G => Q .non G, rt := Q } (start N vs) H) : FnG P w K mg base CX (k + 1) f (PySem.W.fnOf name qual params body scope dV kV doc pm an cdv ct) ps sp := by
  constructor
  · exact many
  · intro A out s H args us vs Q E g hr he hb hv hs
    have kin := he.mod.kin.keeps fun b o e => (he.bs b o e).1
    have nol := he.mod.nolimit.keeps fun b o e => (he.bs b o e).1
    refine codeAny_call_function hr.depth (kin _ _ at_f) rfl S.co S.gen rfl (PySem.W.codeRec_of kin code_f) (hb _ _ _ _ ?_)
    refine wpAny_newFunctionEnv_cells S.kind ?_ ?_
    · rintro ⟨n, u⟩ hn
      exact (S.par n (List.of_mem_zip hn).1).imp id fun c => ⟨c, PySem.W.cellsFrom_some _ _ _ (.inl c)⟩
    · intro env e1 s1 x
      subst e1
      obtain ⟨t, d, q⟩ := walk A out s H vs Q E g (hr.deeper _) hs
      have I1 := inv_start (CX := CX) (E := E) S hr.hd he (many _ _ _ _ hs) hv x
      refine ⟨nol.keeps x.toInCall.keep, codeAny_func (wpAny_mono (d.run [] s1 (start N vs) H _ I1 q) ?_ fun _ _ z => z)⟩
      intro fl s2 z
      cases fl with
      | next =>
        obtain ⟨_, G, J, y⟩ := z
        exact ⟨.non, G, J.os, J.bare, J.base, J.hok, rfl, y⟩
      | ret u =>
        obtain ⟨v, _, G, J, rv, y⟩ := z
        exact ⟨v, G, J.os, J.bare, J.base, J.hok, rv, y⟩
      | brk => exact z.elim fun _ z => z.elim fun _ z => z.2.elim
      | cont => exact z.elim fun _ z => z.elim fun _ z => z.2.elim
end
/-- a def that is called, no repr under way -/
structure CaG (P : Program) (w : World) (K : PySem.W.Frag) (mg : Str → Option Value) (base : Heap) (CX : CXT) (k : Nat) (x : Str) (ps : List Str) (dvs : List V) (sp : Sp) : Prop where
  ex : ∃ (f : Addr) (fd : FuncData) (ds : List Value), FnG P w K mg base CX k f fd ps sp ∧ mg x = some (.ref f) ∧ PySem.W.keepIn K (.ref f) = true ∧ Binds K fd ps ds ∧ Vals dvs ds
theorem Cal.g {P : Program} {w : World} {K : PySem.W.Frag} {mg : Str → Option Value} {base : Heap} {k : Nat} {x : Str} {ps : List Str} {dvs : List V} {sp : Sp} (C : Cal P w K mg base k x ps dvs sp) : CaG P w K mg base CX0 k x ps dvs sp := by
  obtain ⟨f, fd, ds, F, r⟩ := C.ex
  exact ⟨f, fd, ds, .of F, r⟩
theorem caG_mk {P : Program} {w : World} {K : PySem.W.Frag} {mg : Str → Option Value} {base : Heap} {CX : CXT} {k : Nat} {x : Str} {ps : List Str} {dvs : List V} {sp : Sp} {f : Addr} {fd : FuncData} {ds : List Value} (h : FnG P w K mg base CX k f fd ps sp) (m : mg x = some (.ref f)) (kp : PySem.W.keepIn K (.ref f) = true)
    (b : Binds K fd ps ds) (d : Vals dvs ds) : CaG P w K mg base CX k x ps dvs sp := ⟨⟨f, fd, ds, h, m, kp, b, d⟩⟩
section
variable {X : Cx} {CX : CXT} {j k : Nat} {f : Addr} {fd : FuncData} {ps : List Str} {sp : Sp} {dvs : List V} {ds : List Value} {E : XK} {x : Str} {p pos : Pos} {e : Expr} {es : List Expr} {t : TA}
theorem run_g {pins : List (Addr × Obj)} {σ : L2.St} {H : Hp} {s : Shared} {Q : VK} {us : List Value} {vs : List V} (F : FnG X.prog X.w X.K X.mg X.base CX k f fd ps sp) (g : X.A.guards = some []) (hr : Room k X.A) (b : Binds X.K fd ps ds) (d : Vals dvs ds) (out : Passes CX X E)
    (I : Inv X pins σ H s) (v : Vals vs us) (h : sp (vs ++ dvs) H Q E) : wpAny (model X.prog X.w) X.A (call (.ref f) us) (EP X pins σ Q) X.xe s := by
  have va := v.append d
  have le : (us ++ ds).length = ps.length := va.length.symm.trans (F.many _ _ _ _ h)
  refine wpAny_call (codeAny_mono (F.goes X.A X.stack s H ⟨us, []⟩ _ _ Q E g hr I.env0 (b s us I.kIn le) va h) ?_)
  intro r s2 z
  match r, z with
  | .error y, z => exact out pins σ H s y s2 I z
  | .ok (.ret u), z => exact I.after z
theorem pe_caX (C : CaG X.prog X.w X.K X.mg X.base CX k x ps dvs sp) (g : X.A.guards = some []) (hr : Room j X.A) (hk : k ≤ j) (gl : Gl X x) (out : Passes CX X E) (ha : PA X (e :: es) t) (db : (x == ("__debug__" : Str)) = false := by decide)
    (he : starEach (e :: es) X.env = (false, eval e X.env) :: starEach es X.env := by rfl) (pl : (backTo pos (starEach es X.env)).any (·.1) = false := by rfl) : PE X (.Call (.Name x p) (e :: es) [] pos) (tCall sp dvs E t) := by
  obtain ⟨f, fd, ds, F, hm, kp, b, d⟩ := C.ex
  constructor
  intro pins s σ H Q I h
  refine wpAny_Call_Name_kw (ld_glob I gl hm (PySem.W.callWith_K (h₀ := X.base) I.ok.mod.kin kp (thn (ha.run pos pins s σ H _ I h) ?_) he pl) db)
  rintro us s1 ⟨vs, G, J, r, q⟩
  exact ⟨J.kIn, run_g F g (hr.mono hk) b d out J r q⟩
theorem pe_caG (C : CaG X.prog X.w X.K X.mg X.base CX0 k x ps dvs sp) (g : X.A.guards = some []) (hr : Room j X.A) (hk : k ≤ j) (gl : Gl X x) (ha : PA X (e :: es) t) (db : (x == ("__debug__" : Str)) = false := by decide)
    (he : starEach (e :: es) X.env = (false, eval e X.env) :: starEach es X.env := by rfl) (pl : (backTo pos (starEach es X.env)).any (·.1) = false := by rfl) : PE X (.Call (.Name x p) (e :: es) [] pos) (tCall sp dvs E0 t) := pe_caX C g hr hk gl pass0 ha db he pl
end
theorem Fun.okG {P : Program} {w : World} {K : PySem.W.Frag} {mg : Str → Option Value} {base : Heap} {x qual : Str} {st : Stmt} {f : Addr} {fd : FuncData} {N ps : List Str} {k : Nat} {sp : Sp} (F : L2.Fun K x qual st f fd) (S : FnScope N ps (defScope st)) (many : ∀ vs H Q E, sp vs H Q E → vs.length = ps.length)
    (walk : ∀ (cdv : Value) (A : Around) (out : List Env) (s : Shared) (H : Hp) (vs : List V) (Q : VK) (E : XK), A.guards = some [] → Room k (A.deeper (envOfC qual (defScope st) s.heap.objs.size f cdv)) → sp vs H Q E →
      ∃ t, PSs (cxOf CX0 P w K mg base N qual (defScope st) f cdv A out s H E).nox (defBody st) t ∧ t { nx := fun _ G => Q .non G, rt := Q } (start N vs) H) : FnG P w K mg base CX0 (k + 1) f fd ps sp := by
  obtain ⟨_, _, _, _, _, _, cdv, _, _, rfl, lk, hcd⟩ := F.ex
  exact fn_g lk hcd S many fun A out s H vs Q E g hr hs => (walk cdv A out s H vs Q E g hr hs).elim fun t z => ⟨t, z.1.nox, z.2⟩
end NF

namespace NF
open PySem PySem.Spec PyProof.Rows L2 Evl
/-! ### the end of a law row, from a promise that knows of guards -/
section
variable {P : Program} {w : World} {K : PySem.W.Frag} {mg mb : Str → Option Value} {CX : CXT} {k : Nat} {fa a : Addr} {fd : FuncData} {x : Str} {sp : Sp} {s₁ : Shared} {vs : List Value} {ns : List Int}
/-- the call, where the script alone may be tracked -/
theorem goes_from {H : Hp} (g : Heap) (KX : K.In g) (NX : g.Ns mainGlobals mg) (F : FnG P w K mg g CX k fa fd [x] sp) (hr : Room k callerA) (e0 : Env0 P w K mg g callerA [] s₁ H) (bd : ∀ (s : Shared) (u : Value), BindsTo s fd ⟨[u], []⟩ [(x, u)])
    (hO : Only H) (hsp : sp [.ref a] H (fun v _ => v = .bl true) fun _ _ _ => False) (hCX : ∀ H e s', CX [] H s₁ (fun _ _ _ => False) e s' → False) :
    codeAny (model P w) callerA (.call (.ref fa) ⟨[.ref a], []⟩) (fun r s' => r = .ok (.ret (.bool true)) ∧ OldK s₁.heap s'.heap ∧ s'.os = s₁.os ∧ AllBare s'.gens) s₁ := by
  refine codeAny_mono (F.goes callerA [] s₁ H ⟨[.ref a], []⟩ [.ref a] [.ref a] _ _ rfl hr e0 (bd s₁ _) (.cons rfl .nil) hsp) ?_
  intro r s2 z
  match r, z with
  | .error e, z => exact (hCX H e s2 z).elim
  | .ok (.ret u), z =>
    obtain ⟨v, G, h1, h2, un, ok2, rv, q⟩ := z
    cases (show v = .bl true from q)
    cases (show u = Value.bool true from rv)
    refine ⟨rfl, OldK.of_keep ?_, h1, h2⟩
    intro b o eb
    rcases hO b with n | ⟨ob, xs, y⟩
    · exact un.keep b o eb n (List.not_mem_nil) (List.not_mem_nil)
    · have y1 := (e0.hok b _ y).1
      have y2 := (ok2 b _ (un.frzs b ob _ y)).1
      rw [eb] at y1
      rw [y2, y1]
theorem law_goes (KX : K.In s₁.heap) (NX : s₁.heap.Ns mainGlobals mg) (BX : s₁.heap.Ns builtinsNs mb) (bb : ∀ x : Str, x ≠ "__name__" → mb x = bootBuiltins x) (nol : s₁.heap.NoLimit) (gn : s₁.gens = #[])
    (ea : s₁.heap.get? a = some { cls := .type "list", data := .seq vs.toArray }) (hi : IntsAre vs ns) (hl : ns.length ≤ sizeLine) (hr : Room k callerA)
    (F : ∀ base : Heap, K.In base → base.Ns mainGlobals mg → FnG P w K mg base CX k fa fd [x] sp) (bd : ∀ (s : Shared) (u : Value), BindsTo s fd ⟨[u], []⟩ [(x, u)])
    (hsp : ∀ H : Hp, Only H → SqL K H a (ns.map V.int) → sp [.ref a] H (fun v _ => v = .bl true) fun _ _ _ => False) (hCX : ∀ H e s', CX [] H s₁ (fun _ _ _ => False) e s' → False) :
    codeAny (model P w) callerA (.call (.ref fa) ⟨[.ref a], []⟩) (fun r s' => r = .ok (.ret (.bool true)) ∧ OldK s₁.heap s'.heap ∧ s'.os = s₁.os ∧ AllBare s'.gens) s₁ := by
  have rv := vals_ints hi
  by_cases inK : ∃ o, K.lookup a = some o
  · obtain ⟨o, lo⟩ := inK
    have eo := (KX a o lo).symm.trans ea
    cases eo
    have ok0 : HOk P w (fun _ => none) s₁.heap := fun _ _ z => nomatch (show (none : Option HO) = some _ from z)
    have m0 : Mod K mg s₁.heap := ⟨KX, NX, ⟨mb, BX, bb⟩, nol⟩
    exact goes_from s₁.heap KX NX (F _ KX NX) hr ⟨rfl, m0, fun b o e => ⟨e, rfl⟩, Nat.le_refl _, trivial, fun b z => absurd z List.not_mem_nil, ok0, .of_eq gn⟩ bd (fun _ => .inl rfl)
      (hsp _ (fun _ => .inl rfl) (.inr ⟨_, vs.toArray, _, lo, rfl, rfl, rfl, by rw [List.size_toArray, hi.length]; exact hl, rv⟩)) hCX
  · -- the script is tracked, known to the object
    have noK : K.lookup a = none := by
      cases c : K.lookup a with
      | none => rfl
      | some o => exact absurd ⟨o, c⟩ inK
    let H : Hp := fun b => if b = a then some (.frz { cls := .type "list", data := .seq vs.toArray } (.lst (ns.map V.int))) else none
    have Ha : H a = some (.frz { cls := .type "list", data := .seq vs.toArray } (.lst (ns.map V.int))) := if_pos rfl
    have Hn : ∀ {b}, b ≠ a → H b = none := fun n => if_neg n
    have hO : Only H := fun b => by
      by_cases c : b = a
      · exact .inr ⟨_, _, c ▸ Ha⟩
      · exact .inl (Hn c)
    have ok1 : HOk P w H s₁.heap := fun b u z => by
      by_cases c : b = a
      · subst c
        rw [Ha] at z
        cases z
        exact ⟨ea, by rw [List.length_map]; exact hl, vs, _, rv, ea⟩
      · rw [Hn c] at z
        cases z
    have up : ∀ {b o}, s₁.heap.get? b = some o → b ≠ a → (hidT s₁.heap H).get? b = some o := fun e n => hidT_get e (Hn n)
    have na : ∀ {b o es ep}, s₁.heap.get? b = some o → o.data = .dict es ep → b ≠ a := fun {b o es ep} e d c => by
      subst c
      rw [ea] at e
      cases e
      cases (show Data.seq vs.toArray _ = Data.dict es ep from d)
    have upN : ∀ {b m}, s₁.heap.Ns b m → (hidT s₁.heap H).Ns b m := fun ⟨o, es, ep, e, d, r⟩ => ⟨o, es, ep, up e (na e d), d, r⟩
    have KB : K.In (hidT s₁.heap H) := fun b o e => up (KX b o e) fun c => by
      rw [c, noK] at e
      cases e
    obtain ⟨mc, c1, c2⟩ := nol
    have m1 : Mod K mg (hidT s₁.heap H) := ⟨KB, upN NX, ⟨mb, upN BX, bb⟩, ⟨mc, upN c1, c2⟩⟩
    exact goes_from _ KB (upN NX) (F _ KB (upN NX)) hr ⟨rfl, m1, fun b o e => of_hidT e, Nat.le_of_eq (hidT_size _ _), trivial, fun b z => absurd z List.not_mem_nil, ok1, .of_eq gn⟩ bd hO (hsp H hO (.inl (.inr ⟨_, Ha⟩))) hCX
end
theorem walk_g {l : PySem.W.OpenLaw} {n k : Nat} {q : Program} {loose : List Str} {XP : (Str → Option Value) → Heap → Prop} {YP : World → Heap → Prop} {d : DefRec} {K : Params → PySem.W.Frag} {sp : World → Sp} {x : Str}
    (hn : l.most = some n) (hn2 : n ≤ sizeLine) (df : d.params.defaults = []) (hr : Room k callerA) (hY : ∀ (w : World) (h : Heap), YP w h → (K w.params).In h)
    (F : ∀ (w : World) (mg : Str → Option Value) (fa : Addr) (h : Heap), (K w.params).In h → h.Ns mainGlobals mg → mg d.name = some (.ref fa) →
      ∃ fd : FuncData, (∀ (s : Shared) (u : Value), BindsTo s fd ⟨[u], []⟩ [(x, u)]) ∧ ∀ base : Heap, (K w.params).In base → base.Ns mainGlobals mg → FnG l.prog w (K w.params) mg base CX0 k fa fd [x] (sp w))
    (hsp : ∀ (w : World) (H : Hp) (a : Addr) (ns : List Int), ns.length ≤ n → Only H → SqL (K w.params) H a (ns.map V.int) → sp w [.ref a] H (fun v _ => v = .bl true) fun _ _ _ => False) :
    PySem.W.WalkO q loose XP YP l.row.toRowW d [] (fun f vs => PySem.call f vs) := by
  refine Att.attach_call hn df ?_
  intro w s₀ s₁ mg mb fa o pm cd doc a vs ns G Y ho hd hcd hmg hobj hints hlen hg
  obtain ⟨fd, bd, hF⟩ := F w mg fa _ (hY w _ Y) G.T.g hmg
  exact law_goes (hY w _ Y) G.T.g G.T.b G.T.builtins G.T.nolimit hg hobj hints (Nat.le_trans hlen hn2) hr hF bd (fun H hO hS => hsp w H a ns hlen hO hS) fun _ _ _ z => z
end NF

namespace NF
open PySem PySem.Spec PyProof.Rows L2 Evl
/-! ### a caught exception that a local keeps beyond the suite -/
/-- an exception object of the class cls, raised and caught -/
def ExT (cls : Value) (d : Option Addr) (a : Addr) : HO := .ext fun h => ∃ (oe : Obj) (vs : Array Value), h.get? a = some oe ∧ Zc cls d oe ∧ oe.data = .fields vs
theorem exT_ok {P : Program} {w : World} {H : Hp} {h : Heap} {a : Addr} {cls : Value} {d : Option Addr} {oe : Obj} {vs : Array Value} (e : h.get? a = some oe) (z : Zc cls d oe) (dt : oe.data = .fields vs) : ObjOk P w H h a (ExT cls d a) :=
  ⟨⟨oe, vs, e, z, dt⟩, ⟨oe, e⟩, fun _ _ ⟨o1, v1, e1, z1, d1⟩ k => ⟨o1, v1, k _ e1, z1, d1⟩⟩
section
variable {X : Cx} {pins : List (Addr × Obj)} {σ : L2.St} {H : Hp} {s : Shared}
theorem Inv.track {a : Addr} {cls : Value} {d : Option Addr} {oe : Obj} {vs : Array Value} (I : Inv X pins σ H s) (na : H a = none) (ea : s.heap.get? a = some oe) (z : Zc cls d oe) (dt : oe.data = .fields vs)
    (fr : X.s_0.heap.get? a = none) (np : ∀ p ∈ X.pn ++ pins, p.1 ≠ a) (nL : a ≠ X.env.locals) : Inv X pins σ (upd H a (ExT cls d a)) s where
  ok := I.ok
  os := I.os
  bare := I.bare
  base := {
    keep := I.base.keep
    slot := I.base.slot
    free := fun b o e n x => by
      have nb : b ≠ a := fun c => by
        rw [c, fr] at e
        cases e
      rw [upd_ne nb]
      exact I.base.free b o e n x
    there := I.base.there
    tups := fun b xs e => by
      have e2 := I.base.tups b xs e
      rw [upd_ne (ne_of_none e2 na)]
      exact e2
    frzs := fun b o u e => by
      have e2 := I.base.frzs b o u e
      rw [upd_ne (ne_of_none e2 na)]
      exact e2
    tbls := fun b ps e => by
      obtain ⟨m, e2⟩ := I.base.tbls b ps e
      refine ⟨m, ?_⟩
      rw [upd_ne (ne_of_none e2 na)]
      exact e2 }
  loc := I.loc
  cell := I.cell
  free := by
    rw [upd_ne nL.symm]
    exact I.free
  freeC := fun x c e => by
    have nc : c ≠ a := fun q => by
      subst q
      obtain ⟨v, o, e1, e2⟩ := I.cell x c e
      rw [ea] at e1
      cases e1
      rw [dt] at e2
      cases e2
    rw [upd_ne nc]
    exact I.freeC x c e
  pin := fun p hp => by
    obtain ⟨p1, p2, p3⟩ := I.pin p hp
    refine ⟨p1, ?_, p3⟩
    rw [upd_ne (np p hp)]
    exact p2
  hok := fun b u e => by
    by_cases c : b = a
    · subst c
      rw [upd_same] at e
      cases e
      exact exT_ok ea z dt
    · rw [upd_ne c] at e
      refine (I.hok b u e).stay (fun _ _ _ q => q) (fun c q => ?_) (fun c xs q => ?_)
      · rw [upd_ne (ne_of_none q na)]
        exact q
      · rw [upd_ne (ne_of_none q na)]
        exact q
  len := I.len
end
/-- what 'except x as n' wishes of an exception of the body: it is caught; behind the suite it is tracked -/
def wKeep (K : PySem.W.Frag) (c : Value) (i : Nat) (ts : Addr → TS) (D : Ends) : WX := fun cls d σ H =>
  PySem.W.exmOne K cls c = some true ∧ ∀ a, H a = none → ts a { nx := fun σ' G => D.nx (σ'.set i none) (upd G a (ExT cls d a)), rt := fun _ _ => False, bk := fun _ _ => False, ct := fun _ _ => False } (σ.set i (some (.ref a))) H
section
variable {X : Cx} {x n : Str} {c : Value} {i : Nat} {body suite : List Stmt} {b₀ : Stmt} {np pos pos' : Pos} {tb : WX → TS} {ts : Addr → TS}
theorem ps_try_keep (stk : X.stack = X.env :: X.outer) (frm : X.env.frame = some X.env.locals) (nex : X.ex = []) (nd : X.N.Nodup) (hi : X.N[i]? = some n) (kn : X.env.kindOf n = some .local) (nm : Names X x c)
    (hb : ∀ (W : WX) (pn : List (Addr × Obj)) (xe : Value → Shared → Prop), Takes (X.tr pn xe) W → PassesOwn (model X.prog X.w) X.A X.env xe → PSs (X.tr pn xe) body (tb W))
    (hs : ∀ (a : Addr) (oe : Obj) (pn : List (Addr × Obj)), PSs (X.suite a ((a, oe) :: pn)) (b₀ :: suite) (ts a)) :
    PS X (.Try body [.ExceptHandler (some (.Name x np)) (some n) (b₀ :: suite) pos'] [] [] pos) (fun D σ H => tb (wKeep X.K c i ts D) D σ H) := by
  constructor
  intro pins s σ H D I h
  have ok := I.ok
  have frs0 : X.A.frames = some (X.env :: X.outer) := by rw [ok.frames, stk]
  refine wpAny_Try_except (wpAny_mono ((hb (wKeep X.K c i ts D) (X.pn ++ pins) _ ?caught PassesOwn.looking).run [] s σ H D (I.toTry _) h) ?_ fun _ _ z => z)
  case caught =>
    rintro u s2 ⟨a, B, sI, pins', σ', G, cls, d, rfl, J0, nb, up, sky, na, os2, bare2, hm, go⟩
    have J := J0.ofTry (pins := pins) ok
    rw [stk] at sky
    show wpAny (model X.prog X.w) X.A (noteFrame (.ref a) X.env) _ _ _
    refine Sky.land Zc.steady frs0 frm sky ?_
    intro h3 fl3 up3
    have J3 : Inv X pins σ' G { s2 with heap := h3 } := J.landed nb fl3.1 (up.trans up3) os2 bare2
    obtain ⟨o3, v3, e3, z3, d3⟩ := fl3.there
    have apart_ : a ∉ frs (X.env :: X.outer) := fun m => by
      obtain ⟨_, o', e', nf⟩ := fl3.2.2.1.mem m
      rw [e3] at e'
      cases e'
      exact nf _ d3
    have nL : a ≠ X.env.locals := fun q => apart_ (List.mem_filterMap.mpr ⟨X.env, List.mem_cons_self, by rw [frm, q]⟩)
    have nF : a ∉ X.fs := fun m => (List.mem_filterMap.mp m).elim fun e z => apart_ (List.mem_filterMap.mpr ⟨e, List.mem_cons_of_mem _ z.1, z.2⟩)
    have aB : B.get? a = none := fl3.2.1
    have toB : ∀ b o, sI.heap.get? b = some o → b ≠ X.env.locals → b ∉ X.fs → b ≠ a := fun b o e l f q => by
      have := nb b o e (fun m => by
        rw [stk] at m
        rcases List.mem_filterMap.mp m with ⟨ev, hv, q2⟩
        rcases List.mem_cons.mp hv with r | r
        · rw [r, frm] at q2
          exact l (Option.some.inj q2).symm
        · exact f (List.mem_filterMap.mpr ⟨ev, r, q2⟩))
      rw [q, aB] at this
      cases this
    have npn : ∀ p ∈ X.pn ++ pins, p.1 ≠ a := fun p hp => by
      obtain ⟨p1, _, p3, p4, _⟩ := J.pin p hp
      exact toB p.1 p.2 p1 p3 p4
    have fr0 : X.s_0.heap.get? a = none := by
      cases q : X.s_0.heap.get? a with
      | none => rfl
      | some o =>
        obtain ⟨o', e'⟩ := J.base.there a o q (by rw [nex]; exact List.not_mem_nil)
        exact absurd rfl (toB a o' e' nL nF)
    have S3 := J3.suite e3 d3 na nL nF
    refine wpAny_handleBy_cons (codeAny_handlers_test ?_) nofun
    have lt : PySem.W.Looks (model X.prog X.w) h3 (typeOf (.ref a)) cls := fun A Q E s k q => wpAny_typeOf_ref (k _ _ e3) (by rw [z3.1]; exact q)
    have ask : ∀ {Q E : Value → Shared → Prop}, Q c { s2 with heap := h3 } → wpAny (model X.prog X.w) (X.A.mark (some (.ref a))) (eval (.Name x np) X.env) Q E { s2 with heap := h3 } := fun q => by
      obtain ⟨g1, g2, g3⟩ := nm
      rcases g3 with g3 | ⟨g3, g4, g5⟩
      · exact ld_glob (X := X.suite a ((a, o3) :: (X.pn ++ pins))) S3 g1 g3 q g2
      · exact ld_blt (X := X.suite a ((a, o3) :: (X.pn ++ pins))) S3 g1 g3 g4 q g5 g2
    refine ask ((PySem.W.exm_one (M := model X.prog X.w) J3.kIn lt hm).here (codeAny_handlers_suite_as (HandSPX.lands_againZ fl3 ?_)))
    intro h4 fl4 up4
    have J4 : Inv X pins σ' G { s2 with heap := h4 } := J.landed nb fl4.1 ((up.trans up3).trans up4) os2 bare2
    obtain ⟨o4, v4, e4, z4, d4⟩ := fl4.there
    refine store_ok (X := X.suite a ((a, o4) :: (X.pn ++ pins))) (v := .ref a) (J4.suite e4 d4 na nL nF) nd hi (.inl kn) rfl ?_ (.inr kn)
    intro s5 S5
    refine wpAny_mono ((hs a o4 (X.pn ++ pins)).run [] s5 _ G _ S5 (go a na)) ?_ fun _ _ q => q.elim
    intro f s6 w6
    match f, w6 with
    | .next, ⟨σ6, G6, S6, q6⟩ =>
      obtain ⟨a1, a2, _⟩ := S6.pin (a, o4) (List.mem_append_left _ List.mem_cons_self)
      exact gone_ok (Inv.track (S6.unsuite ok) a2 a1 z4 d4 fr0 npn nL) nd hi kn fun s7 J7 => ⟨_, _, J7, q6⟩
    | .brk, ⟨_, _, _, q6⟩ => exact q6.elim
    | .cont, ⟨_, _, _, q6⟩ => exact q6.elim
    | .ret u, ⟨_, _, _, _, _, q6⟩ => exact q6.elim
  · intro f s1 w1
    match f, w1 with
    | .next, ⟨σ1, H1, J1, q1⟩ => exact wpAny_execs_nil ⟨σ1, H1, J1.ofTry ok, q1⟩
    | .brk, ⟨σ1, H1, J1, q1⟩ => exact ⟨σ1, H1, J1.ofTry ok, q1⟩
    | .cont, ⟨σ1, H1, J1, q1⟩ => exact ⟨σ1, H1, J1.ofTry ok, q1⟩
    | .ret u, ⟨v1, σ1, H1, J1, r1, q1⟩ => exact ⟨v1, σ1, H1, J1.ofTry ok, r1, q1⟩
end
/-- isinstance(e, c) of an exception that is kept -/
def rIsX (K : PySem.W.Frag) : List V → Hp → VK → Prop := fun xs H Q => ∃ (a D : Addr) (c : V) (cv : Value) (b : Bool), xs = [.ref a, c] ∧ H a = some (ExT (.ref D) none a) ∧ ExcC K D ∧ (∀ u, RelV c u → u = cv) ∧ PySem.W.kitOne K (.ref D) cv = some b ∧ Q (.bl b) H
theorem call_isX {X : Cx} : CallR X (.builtin "isinstance") (rIsX X.K) := by
  intro pins s σ H xs us Q I r h
  obtain ⟨a, D, c, cv, b, rfl, hH, C, hcv, e, q⟩ := h
  obtain ⟨u1, u2, rfl, r1, r2⟩ := vals2 r
  cases (show u1 = Value.ref a from r1)
  cases hcv _ r2
  obtain ⟨⟨⟨oc, od, oda, osl⟩, vs, e1, ⟨z1, z2⟩, d1⟩, _⟩ := (show ObjOk X.prog X.w H s.heap a (ExT (.ref D) none a) from I.hok a _ hH)
  dsimp only at z1 z2 d1
  subst z1 z2 d1
  exact PySem.W.kia_one (PySem.W.handS_kitx_exc C.hg C.hk C.hs C.hd C.ha C.hn C.ht C.hm) I.kIn ⟨e1, rfl, rfl, trivial⟩ e (fun z => nomatch z) fun tk => ⟨.bl b, H, I.kept (t' := tk) fun _ _ z => z, rfl, q⟩
end NF

namespace NF
open PySem PySem.Spec PyProof.Rows L2 Evl
/-! ### repr of data -/
def Fine (d : PyData) : Prop := d.showable = true ∧ d.hasDict = false ∧ d.depth ≤ 20 ∧ d.shown.length ≤ sizeLine
def rRep (K : PySem.W.Frag) : List V → Hp → VK → Prop := fun xs H Q => ∃ (x : V) (d : PyData), xs = [x] ∧ Dp K H x d ∧ Fine d ∧ Q (.str d.shown) H
theorem call_rep {X : Cx} (gd : X.A.guards = some []) (hu : X.A.units + 64 < cLine) : CallR X (.builtin "repr") (rRep X.K) := by
  intro pins s σ H xs us Q I r h
  obtain ⟨x, d, rfl, hd, ⟨f1, f2, f3, f4⟩, q⟩ := h
  obtain ⟨u, rfl, ru⟩ := vals1 r
  obtain ⟨as, rd⟩ := Dp.reads I d x u hd ru
  cases rd with
  | none => exact PySem.P.repr_of_none ⟨.str _, H, I.tok _, ⟨_, rfl⟩, q⟩
  | bool b => exact PySem.P.repr_of_bool ⟨.str _, H, I.tok _, ⟨_, rfl⟩, q⟩
  | int i t => exact PySem.P.repr_of_int (by simpa only [PyData.showable, decide_eq_true_eq] using f1) ⟨.str _, H, I.tok _, ⟨_, rfl⟩, q⟩
  | str y t => exact PySem.P.repr_of_str ⟨.str _, H, I.tok _, ⟨_, rfl⟩, q⟩ f4
  | list a1 a2 a3 a4 => exact repr_of_reads' (.list a1 a2 a3 a4) f1 (fun z => by rw [f2] at z; cases z) gd (by omega) (fun _ _ z => z) (fun h' t tk hk => ⟨.str _, H, I.kept hk, ⟨t, rfl⟩, q⟩) f4
  | tuple a1 a2 a3 a4 => exact repr_of_reads' (.tuple a1 a2 a3 a4) f1 (fun z => by rw [f2] at z; cases z) gd (by omega) (fun _ _ z => z) (fun h' t tk hk => ⟨.str _, H, I.kept hk, ⟨t, rfl⟩, q⟩) f4
  | dict a1 a2 a3 a4 a5 => cases hd
/-! ### data that is fine to show -/
def FineN (n : Nat) (d : PyData) : Prop := d.showable = true ∧ d.hasDict = false ∧ d.leavesShort 2000 = true ∧ d.weight ≤ n
theorem fine_of {n : Nat} {d : PyData} (h : FineN n d) (hn : n ≤ 4000) (hd : d.depth ≤ 20) : Fine d := by
  obtain ⟨h1, h2, h3, h4⟩ := h
  refine ⟨h1, h2, hd, ?_⟩
  have h5 := PyData.shown_le 2000 (by decide) d h3
  have h6 : (2000 + 2) * d.weight ≤ 2002 * 4000 := Nat.mul_le_mul_left _ (by omega)
  have h7 : 2002 * 4000 + 2000 ≤ sizeLine := by decide
  omega
theorem fineI {i : Int} (h : i.natAbs < 2 ^ 1900) : FineN 1900 (.int i) := by
  have hl : i.natAbs.log2 < 1900 := PySem.Flt.log2_lt_of (by decide) h
  refine ⟨?_, rfl, ?_, ?_⟩
  · simp only [PyData.showable, decide_eq_true_eq]
    omega
  · simp only [PyData.leavesShort, decide_eq_true_eq]
    show (Str.ofString (toString i)).length ≤ 2000
    have h1 := int_text_length_le (a := i) (k := 1900) (by decide) hl
    rw [PySem.ofString_length]
    omega
  · simp only [PyData.weight]
    split <;> omega
def fd (x : Rat) : PyData := .tuple [.int x.num, .int x.den]
/-- the bits of a fraction as shown -/
theorem weightI {i : Int} {B : Nat} (h : i.natAbs < 2 ^ B) (h0 : 0 < B) : PyData.weight (.int i) ≤ B := by
  have hl : i.natAbs.log2 < B := PySem.Flt.log2_lt_of h0 h
  simp only [PyData.weight]
  split <;> omega
theorem fineF {B : Nat} {x : Rat} (h : Sz B x) (h0 : 0 < B) (hB : B ≤ 1900) : FineN (2 * B + 2) (fd x) := by
  obtain ⟨a1, a2, a3, _⟩ := fineI (bits_up h.num hB)
  obtain ⟨b1, b2, b3, _⟩ := fineI (bits_up h.den hB)
  have a4 := weightI h.num h0
  have b4 := weightI h.den h0
  refine ⟨?_, ?_, ?_, ?_⟩
  · simp only [fd, PyData.showable, PyData.showableAll] at *
    simp only [a1, b1]
    rfl
  · rfl
  · simp only [fd, PyData.leavesShort, PyData.leavesShortAll] at *
    simp only [a3, b3]
    rfl
  · simp only [fd, PyData.weight, PyData.weightAll] at *
    omega
theorem fineL {B : Nat} (h0 : 0 < B) (hB : B ≤ 1900) : ∀ {xs : List Rat}, (∀ x ∈ xs, Sz B x) → FineN (xs.length * (2 * B + 3)) (.list (xs.map fd)) ∧ (PyData.list (xs.map fd)).depth ≤ 2
  | [], _ => ⟨⟨rfl, rfl, rfl, Nat.zero_le _⟩, by show 1 ≤ 2; decide⟩
  | x :: xs, h => by
    obtain ⟨⟨a1, a2, a3, a4⟩, a5⟩ := fineL h0 hB (xs := xs) fun y hy => h y (List.mem_cons_of_mem _ hy)
    obtain ⟨b1, b2, b3, b4⟩ := fineF (h x (List.mem_cons_self ..)) h0 hB
    simp only [PyData.showable, PyData.hasDict, PyData.leavesShort, PyData.weight, PyData.depth, List.map_cons, PyData.showableAll, PyData.hasDictAll, PyData.leavesShortAll, PyData.weightAll, PyData.depthAll, FineN] at *
    refine ⟨⟨by rw [a1, b1]; rfl, by rw [a2, b2]; rfl, by rw [a3, b3]; rfl, ?_⟩, ?_⟩
    · rw [List.length_cons, Nat.succ_mul]
      omega
    · have : (fd x).depth ≤ 1 := by show 1 ≤ 1; decide
      omega
theorem fine_rt {B : Nat} {x : Rat} (h : Sz B x) (h0 : 0 < B) (hB : B ≤ 1900) : Fine (fd x) := fine_of (fineF h h0 hB) (by omega) (by show 1 ≤ 20; decide)
theorem fine_rts {B : Nat} {xs : List Rat} (h : ∀ x ∈ xs, Sz B x) (h0 : 0 < B) (hB : B ≤ 1900) (hn : xs.length * (2 * B + 3) ≤ 4000) : Fine (.list (xs.map fd)) := by
  obtain ⟨a, b⟩ := fineL h0 hB h
  exact fine_of a hn (by omega)
theorem fine_bl (b : Bool) : Fine (.bool b) := by cases b <;> exact ⟨rfl, rfl, by decide, by decide +kernel⟩
/-! ### what repr evaluates to -/
section
variable {K : PySem.W.Frag} {H H1 H2 : Hp} {σ : L2.St} {ta tb te tl : TE} {x y z : Rat} {v w u : V} {B : Nat} {E : XK}
theorem dp_rts : ∀ {us : List V} {xs : List Rat}, RtAll K H us xs → DpAll K H us (xs.map fd)
  | _, _, .nil => .nil
  | _, _, .cons h t => .cons (dp_rt h) (dp_rts t)
theorem ev_repF (h : EvF K ta σ H x) (sx : Sz B x) (h0 : 0 < B) (hB : B ≤ 1900) : Ev (tCB (rRep K) (tCons ta tNil)) σ H (.str (fd x).shown) := fun H1 e Q q =>
  h H1 e _ fun v H2 e2 r => ⟨v, fd x, rfl, dp_rt r, fine_rt sx h0 hB, q H2 e2⟩
theorem ev_repL {a : Addr} {us : List V} {xs : List Rat} (h : Ev ta σ H (.ref a)) (ha : SqL K H a us) (hx : RtAll K H us xs) (hf : Fine (.list (xs.map fd))) : Ev (tCB (rRep K) (tCons ta tNil)) σ H (.str (PyData.list (xs.map fd)).shown) := fun H1 e Q q =>
  h H1 e _ fun H2 e2 => ⟨_, _, rfl, .lst (ex_l (e.trans e2) ha) (dp_rts (hx.mono (e.trans e2))), hf, q H2 e2⟩
theorem ev_repB {b : Bool} (h : Ev ta σ H (.bl b)) : Ev (tCB (rRep K) (tCons ta tNil)) σ H (.str (PyData.bool b).shown) := fun H1 e Q q =>
  h H1 e _ fun H2 e2 => ⟨_, .bool b, rfl, .bl b, fine_bl b, q H2 e2⟩
/-- fractions made one after another, then a list of them -/
def EvFs (K : PySem.W.Frag) (tA : TA) (σ : L2.St) (H : Hp) (xs : List Rat) : Prop := ∀ H1, Ex H H1 → ∀ Q : List V → Hp → Prop, (∀ vs H2, Ex H1 H2 → RtAll K H2 vs xs → Q vs H2) → tA σ H1 Q
theorem efs_nil : EvFs K tNil σ H [] := fun H1 _ Q q => q [] H1 (Ex.refl H1) .nil
theorem efs_cons {tA : TA} {xs : List Rat} (h : EvF K ta σ H x) (hr : EvFs K tA σ H xs) : EvFs K (tCons ta tA) σ H (x :: xs) := fun H1 e Q q =>
  h H1 e _ fun v H2 e2 r => hr H2 (e.trans e2) _ fun vs H3 e3 rs => q (v :: vs) H3 (e2.trans e3) (.cons (r.mono e3) rs)
/-- such a list -/
def EvR (K : PySem.W.Frag) (te : TE) (σ : L2.St) (H : Hp) (xs : List Rat) : Prop := ∀ H1, Ex H H1 → ∀ Q : VK, (∀ p us H2, H1 p = none → Ex H1 H2 → H2 p = some (.lst us) → RtAll K H2 us xs → Q (.ref p) H2) → te σ H1 Q
theorem er_lst {tA : TA} {xs : List Rat} (h : EvFs K tA σ H xs) (hl : xs.length ≤ 100000) : EvR K (tLst tA) σ H xs := fun H1 e Q q =>
  h H1 e _ fun vs H2 e2 r => ⟨sz_of (by rw [r.length]; exact hl), fun p hp => q p vs _ (fresh_back e2 hp) (e2.trans (Ex.new hp)) upd_same (r.mono (Ex.new hp))⟩
end
/-! ### f(k = v, ..) -/
structure CaK (P : Program) (w : World) (K : PySem.W.Frag) (mg : Str → Option Value) (base : Heap) (k : Nat) (x : Str) (ps ks : List Str) (g : {α : Type} → List α → List α) (sp : Sp) : Prop where
  ex : ∃ (f : Addr) (fd : FuncData), FnG P w K mg base CX0 k f fd ps sp ∧ mg x = some (.ref f) ∧ PySem.W.keepIn K (.ref f) = true ∧ (∀ (s : Shared) (ws : List Value), K.In s.heap → ws.length = ks.length → BindsTo s fd ⟨[], ks.zip ws⟩ (ps.zip (g ws)))
  rel : ∀ {vs : List V} {us : List Value}, Vals vs us → Vals (g vs) (g us)
def tCallW (n : Nat) (sp : Sp) (g : {α : Type} → List α → List α) (E : XK) (tk : TA) : TE := fun σ H Q => tk σ H fun zs H2 => zs.length = n ∧ sp (g zs) H2 Q E
theorem pe_caK {X : Cx} {j k : Nat} {x : Str} {ps ks : List Str} {g : {α : Type} → List α → List α} {sp : Sp} {p pos : Pos} {kws : List Keyword} {tk : TA} (C : CaK X.prog X.w X.K X.mg X.base k x ps ks g sp) (gd : X.A.guards = some []) (hr : Room j X.A) (hk : k ≤ j) (gl : Gl X x) (hkw : PK X kws tk)
    (hall : (backToKw pos (keywordEach kws X.env)).all (·.1.isSome) = true := by rfl) (hks : (backToKw pos (keywordEach kws X.env)).filterMap (·.1) = ks := by rfl) (db : (x == ("__debug__" : Str)) = false := by decide)
    (pl : ((backTo pos (starEach [] X.env)).any (·.1) || (backToKw pos (keywordEach kws X.env)).any (·.1.isNone)) = false := by rfl) : PE X (.Call (.Name x p) [] kws pos) (tCallW ks.length sp g E0 tk) := by
  obtain ⟨f, fd, F, hm, kp, b⟩ := C.ex
  constructor
  intro pins s σ H Q I h
  refine wpAny_Call_Name_kw (ld_glob I gl hm (PySem.W.callWith_KW0 (h₀ := X.base) I.ok.mod.kin kp hall (thn (hkw.run pos pins s σ H _ I h) ?_) pl) db)
  rintro ws s1 ⟨zs, G, J, r, hl, q⟩
  refine ⟨J.kIn, ?_⟩
  rw [hks]
  refine wpAny_call (codeAny_mono (F.goes X.A X.stack s1 G ⟨[], ks.zip ws⟩ _ _ Q E0 gd (hr.mono hk) J.env0 (b s1 ws J.kIn (r.length.symm.trans hl)) (C.rel r) q) ?_)
  intro r2 s2 z
  match r2, z with
  | .error y, z => exact z.elim
  | .ok (.ret u), z => exact J.after z
end NF

namespace NF
open PySem PySem.Spec PyProof.Rows L2 Evl
theorem call_listK {X : Cx} {K : PySem.W.Frag} (h : X.K = K) : CallR X (.type "list") (rListS K) := h ▸ call_list_of
theorem ix_listK {X : Cx} {K : PySem.W.Frag} (h : X.K = K) : IxR X (rIxL K) := h ▸ ix_list
theorem ix_tupK {X : Cx} {K : PySem.W.Frag} (h : X.K = K) : IxR X (rIxT K) := h ▸ ix_tup
/-! ### a op b op c op d -/
def tChain3 (r1 r2 r3 : R2) (ta tb tc td : TE) : TE := fun σ H Q => ta σ H fun x H1 => tb σ H1 fun y H2 => r1 x y H2 fun z H3 => ∃ k, z = .bl k ∧ (if k = true then tc σ H3 fun u H4 => r2 y u H4 fun z2 H5 => ∃ k2, z2 = .bl k2 ∧ (if k2 = true then td σ H5 fun v H6 => r3 u v H6 Q else Q (.bl false) H5) else Q (.bl false) H3)
theorem pe_chain3 {X : Cx} {a b c d : Expr} {pos : Pos} {ta tb tc td : TE} {o1 o2 o3 : CmpOp} {r1 r2 r3 : R2} (h1 : OpR X (compareOp o1) r1) (h2 : OpR X (compareOp o2) r2) (h3 : OpR X (compareOp o3) r3) (ha : PE X a ta) (hb : PE X b tb) (hc : PE X c tc) (hd : PE X d td)
    (hm : lastMarks [o1, o2, o3] [b, c, d] = false := by with_unfolding_all rfl) : PE X (.Compare a [o1, o2, o3] [b, c, d] pos) (tChain3 r1 r2 r3 ta tb tc td) := by
  constructor
  intro pins s σ H Q I h
  refine Compare_chain (thn (ha.run pins s σ H _ I h) ?_) hm
  rintro va s1 ⟨x, H1, I1, q1, p1⟩
  refine chain_link (thn (hb.run pins s1 σ H1 _ I1 p1) ?_)
  rintro vb s2 ⟨y, H2, I2, q2, p2⟩
  refine thn (h1 pins s2 σ H2 x y va vb _ I2 q1 q2 p2) ?_
  rintro vz s3 ⟨z, H3, I3, q3, k, rfl, p3⟩
  cases q3
  refine wpAny_truthy_bool ?_
  cases k with
  | false => exact ⟨.bl false, H3, I3, rfl, p3⟩
  | true =>
    refine chain_link (thn (hc.run pins s3 σ H3 _ I3 p3) ?_)
    rintro vc s4 ⟨u, H4, I4, q4, p4⟩
    refine thn (h2 pins s4 σ H4 y u vb vc _ I4 q2 q4 p4) ?_
    rintro vy s5 ⟨z2, H5, I5, q5, k2, rfl, p5⟩
    cases q5
    refine wpAny_truthy_bool ?_
    cases k2 with
    | false => exact ⟨.bl false, H5, I5, rfl, p5⟩
    | true => exact chain_last (thn (hd.run pins s5 σ H5 _ I5 p5) fun vd s6 ⟨v, H6, I6, q6, p6⟩ => h3 pins s6 σ H6 u v vc vd Q I6 q4 q6 p6)
section
variable {K : PySem.W.Frag} {H H1 H2 : Hp} {σ : L2.St} {ta tb tc td te tl : TE} {t : TT} {v w x y z u : V} {r1 r2 r3 : R2} {k k2 k3 : Bool}
theorem ev_chain (ha : Ev ta σ H x) (hb : Ev tb σ H y) (hr : RV r1 x y H (.bl k)) (hc : k = true → Ev tc σ H z) (hr2 : k = true → RV r2 y z H (.bl k2)) : Ev (tChain r1 r2 ta tb tc) σ H (.bl (k && k2)) := fun H1 e Q q =>
  ha H1 e _ fun H2 e2 => hb H2 (e.trans e2) _ fun H3 e3 => hr H3 ((e.trans e2).trans e3) _ fun H4 e4 => ⟨k, rfl, by
    have E4 := ((e.trans e2).trans e3).trans e4
    cases k with
    | false => exact q H4 ((e2.trans e3).trans e4)
    | true => exact hc rfl H4 E4 _ fun H5 e5 => hr2 rfl H5 (E4.trans e5) Q fun H6 e6 => q H6 ((((e2.trans e3).trans e4).trans e5).trans e6)⟩
theorem ev_chain3 (ha : Ev ta σ H x) (hb : Ev tb σ H y) (hr : RV r1 x y H (.bl true)) (hc : Ev tc σ H z) (hr2 : RV r2 y z H (.bl true)) (hd : Ev td σ H u) (hr3 : RV r3 z u H (.bl true)) : Ev (tChain3 r1 r2 r3 ta tb tc td) σ H (.bl true) := fun H1 e Q q =>
  ha H1 e _ fun H2 e2 => hb H2 (e.trans e2) _ fun H3 e3 => hr H3 ((e.trans e2).trans e3) _ fun H4 e4 => ⟨true, rfl, by
    have E4 := ((e.trans e2).trans e3).trans e4
    have F4 := (e2.trans e3).trans e4
    exact hc H4 E4 _ fun H5 e5 => hr2 H5 (E4.trans e5) _ fun H6 e6 => ⟨true, rfl, hd H6 ((E4.trans e5).trans e6) _ fun H7 e7 => hr3 H7 (((E4.trans e5).trans e6).trans e7) Q fun H8 e8 => q H8 ((((F4.trans e5).trans e6).trans e7).trans e8)⟩⟩
/-! ### [.. for c in text], all([..]) -/
theorem el_lcS {zs : Str} {j : Nat} {vs : List Nat} (f : Nat → Bool) (g : Nat → V) (h : Ev tl σ H (.str zs)) (hz : zs.cps.size ≤ 40000) (hw : ∀ x, wipe ((wipe σ vs).set j (some x)) vs = wipe σ vs)
    (ht : ∀ (i c : Nat) H1, Ex H H1 → zs.cps[i]? = some c → EvT t ((wipe σ vs).set j (some (.str ⟨#[c]⟩))) H1 (f i)) (he : ∀ (i c : Nat) H1, Ex H H1 → zs.cps[i]? = some c → f i = true → Ev te ((wipe σ vs).set j (some (.str ⟨#[c]⟩))) H1 (g i)) :
    EvL (tLc (iStr tl) (gName j) t te vs) σ H (given zs.cps.size f g) := fun H0 e Q q => h H0 e _ fun H1 e1 => ⟨zs, rfl, fun Dl hD => by
  refine ⟨fun i m G => m = zs.cps.size - i ∧ i ≤ zs.cps.size ∧ Cw H1 f g Dl i G, ⟨_, rfl, Nat.zero_le _, hD, Ex.new hD, upd_same⟩, ?_⟩
  rintro i m G ⟨rfl, hi, p⟩
  by_cases hlt : i < zs.cps.size
  · refine .inr ⟨hlt, Cw H1 f g Dl (i + 1), fun G' p' => ⟨zs.cps.size - (i + 1), by omega, rfl, hlt, p'⟩, ?_⟩
    rintro x G' ⟨rfl, c, hc, rfl⟩
    exact ⟨hw _, cw_turn p (by omega) (ht i c H1 (e.trans e1) hc) fun hf => he i c H1 (e.trans e1) hc hf⟩
  · have ei : i = zs.cps.size := by omega
    subst ei
    exact .inl ⟨Nat.le_refl _, q Dl G (fresh_back e1 p.1) (e1.trans p.2.1) p.2.2⟩⟩
theorem given_all (n : Nat) (g : Nat → V) : given n (fun _ => true) g = (List.range n).map g := by
  unfold given
  rw [List.filter_eq_self.mpr (fun _ _ => rfl)]
theorem given_bl (n : Nat) (b : Nat → Bool) : given n (fun _ => true) (fun i => V.bl (b i)) = ((List.range n).map b).map V.bl := by
  rw [given_all, List.map_map]
  rfl
theorem ev_allN {bs : List Bool} (h : EvL te σ H (bs.map V.bl)) : Ev (tCB (rAll K) (tCons te tNil)) σ H (.bl (bs.all id)) := fun H1 e Q q =>
  h H1 e _ fun p H2 _ e2 hp => ⟨p, bs, rfl, SqL.of hp, q H2 e2⟩
theorem ev_allT {n : Nat} (h : EvL te σ H (given n (fun _ => true) fun _ => V.bl true)) : Ev (tCB (rAll K) (tCons te tNil)) σ H (.bl true) := by
  rw [given_bl n fun _ => true] at h
  have := ev_allN (K := K) h
  have e : (((List.range n).map fun _ => true).all id) = true := by
    rw [List.all_eq_true]
    intro x hx
    obtain ⟨_, _, rfl⟩ := List.mem_map.mp hx
    rfl
  rw [e] at this
  exact this
end
/-! ### marks, shares -/
def Mk (z : Str) : Prop := 1 ≤ z.cps.size ∧ z.cps.size ≤ 4 ∧ ∀ c ∈ z.cps.toList, 97 ≤ c ∧ c ≤ 122
def Shr (x : Rat) : Prop := 0 ≤ x.num ∧ x.num ≤ x.den ∧ x.den ≤ 999
theorem Shr.sz {x : Rat} (h : Shr x) : Sz 10 x := by
  obtain ⟨h1, h2, h3⟩ := h
  constructor <;> omega
def spMark (K : PySem.W.Frag) : Sp := fun vs H Q _ => ∃ z : Str, vs = [.str z] ∧ Mk z ∧ ∀ H', Ex H H' → Q (.bl true) H'
def spShare (K : PySem.W.Frag) : Sp := fun vs H Q _ => ∃ (v : V) (x : Rat), vs = [v] ∧ Rt K H v x ∧ Shr x ∧ ∀ H', Ex H H' → Q (.bl true) H'
/-- the shares of a room: fractions, each a share, together one -/
def Shs (xs : List Rat) (n : Nat) : Prop := xs.length = n ∧ (∀ x ∈ xs, Shr x) ∧ sumF 0 xs = 1
def spRoom (K : PySem.W.Frag) : Sp := fun vs H Q _ => ∃ (a : Addr) (us : List V) (xs : List Rat) (n : Nat), vs = [.int (n : Int), .ref a] ∧ SqL K H a us ∧ RtAll K H us xs ∧ Shs xs n ∧ n ≤ 6 ∧ ∀ H', Ex H H' → Q (.bl true) H'
/-- rows of shares -/
inductive Rows (K : PySem.W.Frag) (H : Hp) : List V → List (List Rat) → Prop
  | nil : Rows K H [] []
  | cons {p : Addr} {us vs : List V} {xs : List Rat} {xss : List (List Rat)} : SqL K H p us → RtAll K H us xs → Rows K H vs xss → Rows K H (.ref p :: vs) (xs :: xss)
theorem Rows.mono {K : PySem.W.Frag} {H H1 : Hp} (e : Ex H H1) : ∀ {vs : List V} {xss : List (List Rat)}, Rows K H vs xss → Rows K H1 vs xss
  | _, _, .nil => .nil
  | _, _, .cons h r t => .cons (ex_l e h) (r.mono e) (Rows.mono e t)
theorem Rows.length {K : PySem.W.Frag} {H : Hp} : ∀ {vs : List V} {xss : List (List Rat)}, Rows K H vs xss → vs.length = xss.length
  | _, _, .nil => rfl
  | _, _, .cons _ _ t => congrArg Nat.succ (Rows.length t)
theorem Rows.get {K : PySem.W.Frag} {H : Hp} : ∀ {vs : List V} {xss : List (List Rat)} {i : Nat} {v : V}, Rows K H vs xss → vs[i]? = some v → ∃ p us xs, v = .ref p ∧ xss[i]? = some xs ∧ SqL K H p us ∧ RtAll K H us xs
  | _, _, _, _, .nil, e => by simp at e
  | _, _, 0, _, .cons h r _, e => by
    have e' := Option.some.inj e
    subst e'
    exact ⟨_, _, _, rfl, rfl, h, r⟩
  | _, _, i + 1, _, .cons _ _ t, e => Rows.get (i := i) t e
def spMarks (K : PySem.W.Frag) : Sp := fun vs H Q _ => ∃ (a : Addr) (zs : List Str), vs = [.ref a] ∧ SqL K H a (zs.map V.str) ∧ 1 ≤ zs.length ∧ zs.length ≤ 6 ∧ (∀ z ∈ zs, Mk z) ∧ ∀ H', Ex H H' → Q .non H'
def spShares (K : PySem.W.Frag) : Sp := fun vs H Q _ => ∃ (a : Addr) (us : List V) (xss : List (List Rat)) (n : Nat), vs = [.int (n : Int), .ref a] ∧ SqL K H a us ∧ Rows K H us xss ∧ xss.length = n ∧ n ≤ 6 ∧ (∀ xs ∈ xss, Shs xs n) ∧ ∀ H', Ex H H' → Q .non H'
end NF

namespace NF
open PySem PySem.Spec PyProof.Rows L2 Evl
/-! ### len(x), x an instance whose class has a __len__ of its own -/
structure LenO (P : Program) (w : World) (K : PySem.W.Frag) (mg : Str → Option Value) (base : Heap) (C : Addr) (k : Nat) (sp : Sp) : Prop where
  ex : ∃ (f : Addr) (fd : FuncData), PySem.W.findIn K (.ref C) "__len__" = some (some (.ref f)) ∧ PySem.W.isFn K (.ref f) = true ∧ FnOk P w K mg base CX0 k f fd ["self"] sp ∧ Binds K fd ["self"] []
def rLenO (C : Addr) (sp : Sp) : List V → Hp → VK → Prop := fun xs H Q => ∃ (a dx : Addr) (fs : List (Str × V)), xs = [.ref a] ∧ H a = some (.ins C dx fs) ∧ sp [.ref a] H (fun v H' => ∃ n : Int, v = .int n ∧ 0 ≤ n ∧ n < 2 ^ 63 ∧ Q (.int n) H') E0
theorem call_lenO {X : Cx} {C : Addr} {k j : Nat} {sp : Sp} (L : LenO X.prog X.w X.K X.mg X.base C k sp) (hr : Room j X.A) (hk : k + 1 ≤ j) : CallR X (.builtin "len") (rLenO C sp) := by
  obtain ⟨f, fd, hl, hf, F, hb⟩ := L.ex
  intro pins s σ H xs us Q I r h
  obtain ⟨a, dx, fs, rfl, ea, hs⟩ := h
  obtain ⟨u, rfl, ru⟩ := vals1 r
  cases (show u = Value.ref a from ru)
  obtain ⟨mA, O, _⟩ := ins_get I.hok ea
  obtain ⟨od, J, _⟩ := O.look
  obtain ⟨m, fr⟩ := I.fr
  have b := hb s [.ref a] I.kIn rfl
  refine PySem.W.len_K fr I.ok.mod.kin J hl hf (wpAny_call (codeAny_mono (F.run X.A.in1 X.stack s H ⟨[.ref a], []⟩ [.ref a] [.ref a] _ E0 (hr.mono hk).in1 I.env0.in1 b (.cons rfl .nil) hs) ?_))
  intro rr s2 z
  match rr, z with
  | .error y, z => exact z.elim
  | .ok (.ret u), z =>
    obtain ⟨v, H', I', rv, n, rfl, h0, h1, q⟩ := I.after z
    obtain ⟨t, rfl⟩ := rv
    exact ⟨⟨h0, h1⟩, .int n, H', I'.tok _, ⟨_, rfl⟩, q⟩
/-! ### o.m(..) -/
structure CalM (P : Program) (w : World) (K : PySem.W.Frag) (mg : Str → Option Value) (base : Heap) (C : Addr) (k : Nat) (m : Str) (ps : List Str) (sp : Sp) : Prop where
  ex : ∃ (f : Addr) (fd : FuncData), Meth K C m f ∧ FnOk P w K mg base CX0 k f fd ps sp ∧ Binds K fd ps []
  cl : Cls K C
section
variable {X : Cx} {C : Addr} {j k : Nat} {m : Str} {ps : List Str} {sp : Sp} {o e : Expr} {es : List Expr} {ta : TE} {t : TA} {pos apos : Pos} {pl : Sem Bool}
theorem pe_calM (M : CalM X.prog X.w X.K X.mg X.base C k m ps sp) (hr : Room j X.A) (hk : k ≤ j) (he : PE X o ta) (ha : PA X (e :: es) t)
    (hst : starEach (e :: es) X.env = (false, eval e X.env) :: starEach es X.env := by rfl) (hpl : (backTo pos (starEach es X.env)).any (·.1) = false := by rfl)
    (ht : eval (.Call (.Attribute o m apos) (e :: es) [] pos) X.env = (do
      let ov ← eval o X.env
      standAt apos.atName
      let (g, first) ← holding [ov] (getMethod ov m pl)
      callWith pos g first (backTo pos (starEach (e :: es) X.env)) (backToKw pos (keywordEach [] X.env))) := by rfl) : PE X (.Call (.Attribute o m apos) (e :: es) [] pos) (tMeth C m sp [] E0 ta t) := by
  obtain ⟨f, fd, hm, F, b⟩ := M.ex
  exact pe_meth he M.cl hm F (hr.mono hk) b .nil pass0 ha hst hpl ht
end
/-! ### a Machine -/
def MaAt (K : PySem.W.Frag) (C : Addr) (H : Hp) (m : Addr) (zs : List Str) (xss : List (List Rat)) : Prop := ∃ (dx am as : Addr) (us : List V), H m = some (.ins C dx [("kept_marks", .ref am), ("kept_shares", .ref as)]) ∧ H am = some (.lst (zs.map V.str)) ∧ H as = some (.lst us) ∧ Rows K H us xss
theorem MaAt.mono {K : PySem.W.Frag} {C m : Addr} {H H1 : Hp} {zs : List Str} {xss : List (List Rat)} (h : MaAt K C H m zs xss) (e : Ex H H1) : MaAt K C H1 m zs xss := by
  obtain ⟨dx, am, as, us, h1, h2, h3, h4⟩ := h
  exact ⟨dx, am, as, us, e _ _ h1, e _ _ h2, e _ _ h3, h4.mono e⟩
/-- a machine as the document has it -/
def Good (zs : List Str) (xss : List (List Rat)) : Prop := 1 ≤ zs.length ∧ zs.length ≤ 6 ∧ (∀ z ∈ zs, NF.Mk z) ∧ xss.length = zs.length ∧ ∀ xs ∈ xss, Shs xs zs.length
theorem RtAll.sq {K : PySem.W.Frag} {H H1 : Hp} (e : ∀ {a xs}, SqT K H a xs → SqT K H1 a xs) : ∀ {vs : List V} {xs : List Rat}, RtAll K H vs xs → RtAll K H1 vs xs
  | _, _, .nil => .nil
  | _, _, .cons ⟨p, e1, h⟩ t => .cons ⟨p, e1, e h⟩ (RtAll.sq e t)
theorem Rows.snoc {K : PySem.W.Frag} {H : Hp} {p : Addr} {us : List V} {xs : List Rat} (h : SqL K H p us) (r : RtAll K H us xs) : ∀ {vs : List V} {xss : List (List Rat)}, Rows K H vs xss → Rows K H (vs ++ [.ref p]) (xss ++ [xs])
  | _, _, .nil => .cons h r .nil
  | _, _, .cons h' r' t => .cons h' r' (Rows.snoc h r t)
section
variable {K : PySem.W.Frag} {H H1 H2 : Hp} {σ : L2.St} {ta tb te tl : TE} {E : XK} {D : Ends} {tz : TS}
/-- rows may stand where an object that is no tuple and no row of theirs changes -/
theorem Rows.exN {st : Addr} {o : HO} (e : Exs st H H1) (hs : H st = some o) (nt : ∀ xs, o ≠ .tup xs) (nf : ∀ ob xs, o ≠ .frz ob (.tup xs)) (nl : ∀ xs, o ≠ .lst xs) (nk : ∀ ob xs, o ≠ .frz ob (.lst xs)) : ∀ {vs : List V} {xss : List (List Rat)}, Rows K H vs xss → Rows K H1 vs xss := by
  have et : ∀ {a xs}, SqT K H a xs → SqT K H1 a xs := fun {a xs} h => by
    rcases h with (h | ⟨ob, h⟩) | h
    · exact .inl (.inl (e _ _ (ne_of h hs fun z => nt _ z.symm) h))
    · exact .inl (.inr ⟨ob, e _ _ (ne_of h hs fun z => nf _ _ z.symm) h⟩)
    · exact .inr h
  have el : ∀ {a xs}, SqL K H a xs → SqL K H1 a xs := fun {a xs} h => by
    rcases h with (h | ⟨ob, h⟩) | h
    · exact .inl (.inl (e _ _ (ne_of h hs fun z => nl _ z.symm) h))
    · exact .inl (.inr ⟨ob, e _ _ (ne_of h hs fun z => nk _ _ z.symm) h⟩)
    · exact .inr h
  have er : ∀ {vs xs}, RtAll K H vs xs → RtAll K H1 vs xs := by
    intro vs xs h
    induction h with
    | nil => exact .nil
    | cons r _ ih =>
      obtain ⟨p, e1, h⟩ := r
      exact .cons ⟨p, e1, et h⟩ ih
  intro vs xss h
  induction h with
  | nil => exact .nil
  | cons h r _ ih => exact .cons (el h) (er r) ih
def EvRows (K : PySem.W.Frag) (te : TE) (σ : L2.St) (H : Hp) (xss : List (List Rat)) : Prop := ∀ H1, Ex H H1 → ∀ Q : VK, (∀ p vs H2, H1 p = none → Ex H1 H2 → H2 p = some (.lst vs) → Rows K H2 vs xss → Q (.ref p) H2) → te σ H1 Q
/-- [list(row) for row in rows] -/
theorem er_copy {a : Addr} {us : List V} {xss : List (List Rat)} {j : Nat} {vs : List Nat} (h : Ev tl σ H (.ref a)) (ha : SqL K H a us) (hr : Rows K H us xss) (hz : us.length ≤ 1000) (hw : ∀ x, wipe ((wipe σ vs).set j (some x)) vs = wipe σ vs) (hj : ∀ x, ((wipe σ vs).set j (some x))[j]? = some (some x)) :
    EvRows K (tLc (iList K tl) (gName j) tYes (tCB (fun xs H Q => ∃ p ys, xs = [V.ref p] ∧ (SqL K H p ys ∨ SqT K H p ys) ∧ ∀ l, H l = none → Q (.ref l) (upd H l (.lst ys))) (tCons (tVar j) tNil)) vs) σ H xss := fun H0 e Q q => h H0 e _ fun H1 e1 => ⟨a, rfl, ⟨us, ex_l (e.trans e1) ha⟩, fun Dl hD => by
  have E1 := e.trans e1
  refine lc_list (xs := us) (fun i G => ∃ ws, H1 Dl = none ∧ Ex H1 G ∧ G Dl = some (.lst ws) ∧ ws.length = i ∧ Rows K (fun b => if b = Dl then none else G b) ws (xss.take i)) ⟨[], hD, Ex.new hD, upd_same, rfl, .nil⟩ (fun i G _ p => p.elim fun ws p => ex_l (E1.trans p.2.1) ha) ?_ ?_
  · rintro i x G hi ⟨ws, n1, x1, hDl, hl, hR⟩
    obtain ⟨p, ys, xs, rfl, hx, hp, hxs⟩ := (hr.mono (E1.trans x1)).get hi
    refine ⟨hw _, ?_⟩
    refine ⟨_, hj _, p, ys, rfl, .inl hp, fun l nl => ?_⟩
    have nlD : l ≠ Dl := fun z => by rw [z, hDl] at nl; cases nl
    have hlt : i < us.length := (List.getElem?_eq_some_iff.mp hi).1
    refine ⟨ws, by rw [upd_ne nlD.symm]; exact hDl, Nat.lt_of_lt_of_le (show ws.length < 1001 by omega) (by decide), ws ++ [.ref l], n1, fun b o hb => ?_, upd_same, by simp [hl], ?_⟩
    · rw [upd_ne (ne_of_none hb n1), upd_ne (fun z => by rw [z] at hb; have := x1 _ _ hb; rw [nl] at this; cases this)]
      exact x1 _ _ hb
    · have ex2 : Ex (fun b => if b = Dl then none else G b) (fun b => if b = Dl then none else (upd (upd G l (.lst ys)) Dl (.lst (ws ++ [.ref l]))) b) := fun b o hb => by
        by_cases c : b = Dl
        · simp [c] at hb
        · simp only [c, if_false] at hb ⊢
          rw [upd_ne c, upd_ne (fun z => by rw [z, nl] at hb; cases hb)]
          exact hb
      have hlx : (fun b => if b = Dl then none else (upd (upd G l (.lst ys)) Dl (.lst (ws ++ [.ref l]))) b) l = some (.lst ys) := by
        simp only [nlD, if_false]
        rw [upd_ne nlD, upd_same]
      have hys : RtAll K (fun b => if b = Dl then none else (upd (upd G l (.lst ys)) Dl (.lst (ws ++ [.ref l]))) b) ys xs := by
        have noD : ∀ {a xs}, SqT K G a xs → SqT K (fun b => if b = Dl then none else (upd (upd G l (.lst ys)) Dl (.lst (ws ++ [.ref l]))) b) a xs := fun {a xs} ht => by
          rcases ht with (ht | ⟨ob, ht⟩) | ht
          · have c1 : a ≠ Dl := ne_of ht hDl (fun z => by cases z)
            have c2 : a ≠ l := fun z => by rw [z, nl] at ht; cases ht
            exact .inl (.inl (by show (if a = Dl then none else _) = _; rw [if_neg c1, upd_ne c1, upd_ne c2]; exact ht))
          · have c1 : a ≠ Dl := ne_of ht hDl (fun z => by cases z)
            have c2 : a ≠ l := fun z => by rw [z, nl] at ht; cases ht
            exact .inl (.inr ⟨ob, by show (if a = Dl then none else _) = _; rw [if_neg c1, upd_ne c1, upd_ne c2]; exact ht⟩)
          · exact .inr ht
        exact hxs.sq noD
      rw [List.take_add_one, hx]
      exact (hR.mono ex2).snoc (SqL.of hlx) hys
  · rintro G ⟨ws, n1, x1, hDl, hl, hR⟩
    rw [hr.length, List.take_length] at hR
    refine q Dl ws G (fresh_back e1 n1) (e1.trans x1) hDl (hR.mono fun b o hb => ?_)
    by_cases c : b = Dl
    · simp [c] at hb
    · simpa [c] using hb⟩
end
end NF

namespace NF
open PySem PySem.Spec PyProof.Rows L2 Evl
theorem pi_listK {X : Cx} {K : PySem.W.Frag} {tg l : Expr} {tl : TE} (h : X.K = K) (hl : PE X l tl) : PI X tg l (iList K tl) := h ▸ pi_list hl
section
variable {K : PySem.W.Frag} {H H1 H2 : Hp} {σ : L2.St} {ta tb te tl : TE} {E : XK} {D : Ends} {tz : TS} {B : Nat}
theorem rt_map {v : Nat → V} {x : Nat → Rat} : ∀ {l : List Nat}, (∀ i ∈ l, Rt K H (v i) (x i)) → RtAll K H (l.map v) (l.map x)
  | [], _ => .nil
  | a :: l, h => .cons (h a (List.mem_cons_self ..)) (rt_map fun i hi => h i (List.mem_cons_of_mem _ hi))
theorem RtAll.exLst {st : Addr} {ys : List V} (e : Exs st H H1) (hs : H st = some (.lst ys)) {vs : List V} {xs : List Rat} (h : RtAll K H vs xs) : RtAll K H1 vs xs := h.sq fun {a xs} ht => by
  rcases ht with (ht | ⟨ob, ht⟩) | ht
  · exact .inl (.inl (e _ _ (ne_of ht hs (fun z => by cases z)) ht))
  · exact .inl (.inr ⟨ob, e _ _ (ne_of ht hs (fun z => by cases z)) ht⟩)
  · exact .inr ht
theorem RtAll.push : ∀ {vs : List V} {xs : List Rat} {v : V} {x : Rat}, RtAll K H vs xs → Rt K H v x → RtAll K H (vs ++ [v]) (xs ++ [x])
  | _, _, _, _, .nil, r => .cons r .nil
  | _, _, _, _, .cons h t, r => .cons h (RtAll.push t r)
/-- [fraction for w in a list] -/
theorem er_lcL {a : Addr} {ws : List V} {xs : List Rat} {j : Nat} {vs : List Nat} (h : Ev tl σ H (.ref a)) (ha : SqL K H a ws) (hl : ws.length = xs.length) (hz : ws.length ≤ 1000) (hw : ∀ x, wipe ((wipe σ vs).set j (some x)) vs = wipe σ vs)
    (he : ∀ (i : Nat) (w : V) (x : Rat) H1, Ex H H1 → ws[i]? = some w → xs[i]? = some x → EvF K te ((wipe σ vs).set j (some w)) H1 x) : EvR K (tLc (iList K tl) (gName j) tYes te vs) σ H xs := fun H0 e Q q => h H0 e _ fun H1 e1 => ⟨a, rfl, ⟨ws, ex_l (e.trans e1) ha⟩, fun Dl hD => by
  have E1 := e.trans e1
  refine lc_list (xs := ws) (fun i G => ∃ us, H1 Dl = none ∧ Ex H1 G ∧ G Dl = some (.lst us) ∧ us.length = i ∧ RtAll K G us (xs.take i)) ⟨[], hD, Ex.new hD, upd_same, rfl, .nil⟩ (fun i G _ p => p.elim fun us p => ex_l (E1.trans p.2.1) ha) ?_ ?_
  · rintro i w G hi ⟨us, n1, x1, hDl, hl1, hR⟩
    have hlt : i < ws.length := (List.getElem?_eq_some_iff.mp hi).1
    have hx : xs[i]? = some xs[i] := List.getElem?_eq_getElem (by omega)
    refine ⟨hw _, ?_⟩
    show te _ G _
    refine he i w xs[i] G (E1.trans x1) hi hx G (Ex.refl G) _ fun u G2 x2 ru => ?_
    have hD2 := x2 _ _ hDl
    refine ⟨us, hD2, Nat.lt_of_lt_of_le (show us.length < 1001 by omega) (by decide), us ++ [u], n1, fun b o hb => ?_, upd_same, by simp [hl1], ?_⟩
    · rw [upd_ne (ne_of_none hb n1)]
      exact (x1.trans x2) _ _ hb
    · rw [List.take_add_one, hx]
      exact ((hR.mono x2).push ru).exLst Exs.upd hD2
  · rintro G ⟨us, n1, x1, hDl, hl1, hR⟩
    rw [hl, List.take_length] at hR
    exact q Dl us G (fresh_back e1 n1) (e1.trans x1) hDl hR⟩
theorem ef_totR {xs : List Rat} (h : EvR K tl σ H xs) (hs : ∀ x ∈ xs, Sz B x) (hB : (xs.length + 2) * (B + 1) ≤ 4000) (h0 : 0 < B) : EvF K (tCall (spTot K) [.non] E (tCons tl tNil)) σ H (sumF 0 xs) := fun H1 e Q q =>
  h H1 e _ fun p us H2 _ e2 hp hx => ⟨p, us, xs, .non, 0, B, rfl, SqL.of hp, hx, .inl ⟨rfl, rfl⟩, ⟨Nat.pow_pos (by decide), by show 1 < 2 ^ B; exact Nat.one_lt_two_pow (by omega)⟩, hs, hB, fun u H' e3 r => q u H' (e2.trans e3) r⟩
/-- an item of a list of fractions, of a row of rows -/
theorem ef_at {a : Addr} {us : List V} {xs : List Rat} {x : Rat} {j : Nat} (h1 : Ev ta σ H (.ref a)) (h2 : Ev tb σ H (.int (j : Int))) (ha : SqL K H a us) (hr : RtAll K H us xs) (hj : xs[j]? = some x) : EvF K (tOp (rIxL K) ta tb) σ H x := fun H1 e Q q =>
  h1 H1 e _ fun H2 e2 => h2 H2 (e.trans e2) _ fun H3 e3 => by
    have E3 := (e.trans e2).trans e3
    have hl : j < us.length := by
      rw [hr.length]
      exact (List.getElem?_eq_some_iff.mp hj).1
    obtain ⟨x', e1, r1⟩ := hr.get (List.getElem?_eq_getElem hl)
    rw [hj] at e1
    cases e1
    exact ⟨a, us, j, us[j], rfl, rfl, ex_l E3 ha, atI_nat (List.getElem?_eq_getElem hl), q _ H3 (e2.trans e3) (r1.mono E3)⟩
theorem ev_row {a : Addr} {us : List V} {xss : List (List Rat)} {xs : List Rat} {j : Nat} (h1 : Ev ta σ H (.ref a)) (h2 : Ev tb σ H (.int (j : Int))) (ha : SqL K H a us) (hr : Rows K H us xss) (hj : xss[j]? = some xs) : ∃ p ws, Ev (tOp (rIxL K) ta tb) σ H (.ref p) ∧ SqL K H p ws ∧ RtAll K H ws xs := by
  have hl : j < us.length := by
    rw [hr.length]
    exact (List.getElem?_eq_some_iff.mp hj).1
  obtain ⟨p, ws, xs', e1, e2, h3, h4⟩ := hr.get (List.getElem?_eq_getElem hl)
  rw [hj] at e2
  cases e2
  exact ⟨p, ws, ev_op h1 h2 (rv_ixL ha (atI_nat (by rw [List.getElem?_eq_getElem hl, e1]))), h3, h4⟩
end
/-! ### a step of a machine -/
def dot (xss : List (List Rat)) (cs : List Rat) (to : Nat) : Rat := sumF 0 ((List.range xss.length).map fun r => cs.getD r 0 * (xss.getD r []).getD to 0)
def step1 (xss : List (List Rat)) (cs : List Rat) : List Rat := (List.range xss.length).map (dot xss cs)
def unit (n r : Nat) : List Rat := (List.range n).map fun i => if i = r then 1 else 0
def walk (xss : List (List Rat)) (r : Nat) : Nat → List Rat
  | 0 => unit xss.length r
  | k + 1 => step1 xss (walk xss r k)
theorem walk_len (xss : List (List Rat)) (r k : Nat) : (walk xss r k).length = xss.length := by
  cases k with
  | zero => simp [walk, unit]
  | succ k => simp [walk, step1]
def spStand (K : PySem.W.Frag) : Sp := fun vs H Q _ => ∃ n r : Nat, vs = [.int (n : Int), .int (r : Int)] ∧ n ≤ 6 ∧ ∀ p us H', H p = none → Ex H H' → H' p = some (.lst us) → RtAll K H' us (unit n r) → Q (.ref p) H'
def spStep (K : PySem.W.Frag) : Sp := fun vs H Q _ => ∃ (a b : Addr) (us ws : List V) (xss : List (List Rat)) (cs : List Rat), vs = [.ref a, .ref b] ∧ SqL K H a us ∧ Rows K H us xss ∧ SqL K H b ws ∧ RtAll K H ws cs ∧ xss.length ≤ 6 ∧ cs.length = xss.length ∧ (∀ xs ∈ xss, Shs xs xss.length) ∧ (∀ c ∈ cs, Sz 245 c) ∧
  ∀ p us' H', H p = none → Ex H H' → H' p = some (.lst us') → RtAll K H' us' (step1 xss cs) → Q (.ref p) H'
end NF

namespace NF
open PySem PySem.Spec PyProof.Rows L2 Evl
/-! ### the other laws' state: a list of two ints -/
def Bg (st : Addr) (H : Hp) : Prop := ∃ g m : Int, H st = some (.lst [.int g, .int m])
theorem Bg.mono {st : Addr} {H H1 : Hp} (e : Ex H H1) (h : Bg st H) : Bg st H1 := by
  obtain ⟨g, m, h⟩ := h
  exact ⟨g, m, e _ _ h⟩
def ExS (st : Addr) (H H' : Hp) : Prop := ∀ b o, b ≠ st → H b = some o → H' b = some o
theorem ExS.refl (st : Addr) (H : Hp) : ExS st H H := fun _ _ _ h => h
theorem ExS.trans {st : Addr} {H H1 H2 : Hp} (a : ExS st H H1) (b : ExS st H1 H2) : ExS st H H2 := fun c o n h => b c o n (a c o n h)
theorem ExS.of {st : Addr} {H H1 : Hp} (e : Ex H H1) : ExS st H H1 := fun c o _ h => e c o h
theorem ExS.upd {st : Addr} {H : Hp} {o : HO} : ExS st H (upd H st o) := fun c u n h => by rw [upd_ne n]; exact h
theorem ExS.ex {st : Addr} {H H1 : Hp} (h : H st = none) (e : ExS st H H1) : Ex H H1 := fun b o hb => e b o (ne_of_none hb h) hb
theorem ExS.tup {K : PySem.W.Frag} {st a : Addr} {H H1 : Hp} {xs : List V} (e : ExS st H H1) (hs : Bg st H) (h : SqT K H a xs) : SqT K H1 a xs := by
  obtain ⟨g, m, hs⟩ := hs
  rcases h with (h | ⟨o, h⟩) | h
  · exact .inl (.inl (e _ _ (ne_of h hs (fun z => by cases z)) h))
  · exact .inl (.inr ⟨o, e _ _ (ne_of h hs (fun z => by cases z)) h⟩)
  · exact .inr h
theorem Rt.exS {K : PySem.W.Frag} {st : Addr} {H H1 : Hp} {v : V} {x : Rat} (r : Rt K H v x) (e : ExS st H H1) (hs : Bg st H) : Rt K H1 v x := by
  obtain ⟨p, e1, h⟩ := r
  exact ⟨p, e1, e.tup hs h⟩
theorem RtAll.exS {K : PySem.W.Frag} {st : Addr} {H H1 : Hp} {vs : List V} {xs : List Rat} (h : RtAll K H vs xs) (e : ExS st H H1) (hs : Bg st H) : RtAll K H1 vs xs := h.sq fun ht => e.tup hs ht
def spBag (K : PySem.W.Frag) : Sp := fun vs H Q _ => ∃ (a : Addr) (ns : List Int) (k : Nat), vs = [.ref a, .int (k : Int)] ∧ SqL K H a (ns.map V.int) ∧ ns.length ≤ 1000 ∧ k ≤ 1000 ∧ ∀ st H', H st = none → Ex H H' → Bg st H' → Q (.ref st) H'
def spOut : Sp := fun vs H Q _ => ∃ (st : Addr) (many : Int), vs = [.ref st, .int many] ∧ Bg st H ∧ 0 < many ∧ many < 2 ^ 60 ∧ ∀ d H', 0 ≤ d → d < many → Bg st H' → ExS st H H' → Q (.int d) H'
def spLow (K : PySem.W.Frag) : Sp := fun vs H Q _ => ∃ (a b : Int) (B : Nat), vs = [.int a, .int b] ∧ 0 < b ∧ a.natAbs < 2 ^ B ∧ b.natAbs < 2 ^ B ∧ 0 < B ∧ B ≤ 9000 ∧ ∀ v H', Ex H H' → Rt K H' v (Rat.divInt a b) → Q v H'
section
variable {K : PySem.W.Frag} {H H1 H2 : Hp} {σ : L2.St} {ta tb te tl : TE} {E : XK} {D : Ends} {tz : TS} {B : Nat} {st : Addr}
theorem ef_low {a b : Int} (ha : Ev ta σ H (.int a)) (hb : Ev tb σ H (.int b)) (hn : 0 < b) (ba : a.natAbs < 2 ^ B) (bb : b.natAbs < 2 ^ B) (h0 : 0 < B) (h4 : B ≤ 9000) : EvF K (tCall (spLow K) [] E (tCons ta (tCons tb tNil))) σ H (Rat.divInt a b) := fun H1 e Q q =>
  ha H1 e _ fun H2 e2 => hb H2 (e.trans e2) _ fun H3 e3 => ⟨a, b, B, rfl, hn, ba, bb, h0, h4, fun u H' e4 ru => q u H' ((e2.trans e3).trans e4) ru⟩
theorem out_ev {i : Nat} {Q : VK} (many : Int) (h1 : σ[i]? = some (some (.ref st))) (hb : Ev tb σ H (.int many)) (hs : Bg st H) (h0 : 0 < many) (hm : many < 2 ^ 60) (q : ∀ d H', 0 ≤ d → d < many → Bg st H' → ExS st H H' → Q (.int d) H') : tCall spOut [] E (tCons (tVar i) (tCons tb tNil)) σ H Q :=
  ⟨_, h1, hb H (Ex.refl H) _ fun H1 e => ⟨st, many, rfl, hs.mono e, h0, hm, fun d H' a b c x => q d H' a b c ((ExS.of e).trans x)⟩⟩
end
end NF

namespace NF
/-! ### whole numbers of Nths -/
def Ml (N : Nat) (x : Rat) : Prop := ∃ t : Int, x * (N : Rat) = (t : Rat)
theorem Ml.add {N : Nat} {x y : Rat} (h : Ml N x) (g : Ml N y) : Ml N (x + y) := by
  obtain ⟨s, hs⟩ := h
  obtain ⟨t, ht⟩ := g
  exact ⟨s + t, by rw [Rat.add_mul, hs, ht, Rat.intCast_add]⟩
theorem Ml.mul {M N : Nat} {x y : Rat} (h : Ml M x) (g : Ml N y) : Ml (M * N) (x * y) := by
  obtain ⟨s, hs⟩ := h
  obtain ⟨t, ht⟩ := g
  refine ⟨s * t, ?_⟩
  rw [Rat.intCast_mul, ← hs, ← ht, Rat.natCast_mul]
  grind
theorem Ml.zero {N : Nat} : Ml N 0 := ⟨0, by simp⟩
theorem Ml.one {N : Nat} : Ml N 1 := ⟨(N : Int), by rw [Rat.one_mul]; rfl⟩
theorem Ml.up {M N : Nat} {x : Rat} (h : Ml M x) (d : M ∣ N) : Ml N x := by
  obtain ⟨s, hs⟩ := h
  obtain ⟨k, rfl⟩ := d
  refine ⟨s * k, ?_⟩
  rw [Rat.intCast_mul, ← hs, Rat.natCast_mul]
  have e : ((k : Int) : Rat) = (k : Rat) := rfl
  grind
theorem div_eq (t : Int) {b : Nat} (hb : 0 < b) : Rat.divInt t b * (b : Rat) = (t : Rat) := by
  have hb' : (b : Rat) ≠ 0 := by
    intro z
    have : b = 0 := by exact_mod_cast z
    omega
  rw [Rat.divInt_eq_div]
  have e : ((b : Int) : Rat) = (b : Rat) := rfl
  rw [e]
  grind
theorem ml_div (t : Int) {b : Nat} (hb : 0 < b) : Ml b (Rat.divInt t b) := ⟨t, div_eq t hb⟩
theorem Ml.eq {N : Nat} {x : Rat} (h : Ml N x) (hN : 0 < N) : ∃ t : Int, x = Rat.divInt t N := by
  obtain ⟨t, ht⟩ := h
  refine ⟨t, ?_⟩
  have h2 := div_eq t hN
  have hb' : (N : Rat) ≠ 0 := by
    intro z
    have : N = 0 := by exact_mod_cast z
    omega
  grind
theorem den_le {t : Int} {N : Nat} (hN : 0 < N) : (Rat.divInt t N).den ≤ N := by
  rw [Rat.den_divInt, if_neg (by omega)]
  exact Nat.le_trans (Nat.div_le_self ..) (by omega)
theorem num01 {x : Rat} (h0 : 0 ≤ x) (h1 : x ≤ 1) : 0 ≤ x.num ∧ x.num ≤ x.den := by
  constructor
  · exact Rat.num_nonneg.mpr h0
  · have h := (not_congr (lt_rt 1 x)).mp (by grind)
    have e1 : (1 : Rat).num = 1 := rfl
    have e2 : (1 : Rat).den = 1 := rfl
    rw [e1, e2] at h
    omega
theorem of01 {x : Rat} (h0 : 0 ≤ x.num) (h1 : x.num ≤ x.den) : 0 ≤ x ∧ x ≤ 1 := by
  constructor
  · exact Rat.num_nonneg.mp h0
  · have h := (not_congr (lt_rt 1 x)).mpr (by
      have e1 : (1 : Rat).num = 1 := rfl
      have e2 : (1 : Rat).den = 1 := rfl
      rw [e1, e2]
      omega)
    grind
theorem Ml.sz {N B : Nat} {x : Rat} (h : Ml N x) (hN : 0 < N) (h0 : 0 ≤ x) (h1 : x ≤ 1) (hb : N < 2 ^ B) : Sz B x := by
  obtain ⟨t, rfl⟩ := h.eq hN
  have hd := den_le (t := t) hN
  obtain ⟨a, b⟩ := num01 h0 h1
  constructor <;> omega
/-! ### sums -/
theorem sumF_snoc (x0 : Rat) (xs : List Rat) (x : Rat) : sumF x0 (xs ++ [x]) = sumF x0 xs + x := by simp [sumF]
theorem sumF_shift (f : Rat) : ∀ (x0 : Rat) (xs : List Rat), sumF (x0 + f) xs = sumF x0 xs + f
  | _, [] => rfl
  | x0, x :: xs => by
    show sumF (x0 + f + x) xs = sumF (x0 + x) xs + f
    rw [show x0 + f + x = x0 + x + f by grind]
    exact sumF_shift f (x0 + x) xs
theorem sumF_first (f : Rat) (xs : List Rat) : sumF f xs = sumF 0 xs + f := by
  rw [← sumF_shift, show (0 : Rat) + f = f by grind]
theorem sumF_cons (x : Rat) (xs : List Rat) : sumF 0 (x :: xs) = x + sumF 0 xs := by
  show sumF (0 + x) xs = _
  rw [sumF_first]
  grind
theorem sumF_app : ∀ (xs ys : List Rat), sumF 0 (xs ++ ys) = sumF 0 xs + sumF 0 ys
  | [], ys => by show sumF 0 ys = 0 + _; grind
  | x :: xs, ys => by
    rw [List.cons_append, sumF_cons, sumF_cons, sumF_app xs ys]
    grind
theorem sumF_rot (xs : List Rat) (k : Nat) : sumF 0 (xs.drop k ++ xs.take k) = sumF 0 xs := by
  rw [sumF_app]
  have h := sumF_app (xs.take k) (xs.drop k)
  rw [List.take_append_drop] at h
  grind
theorem ml_sum {N : Nat} : ∀ {xs : List Rat}, (∀ x ∈ xs, Ml N x) → Ml N (sumF 0 xs)
  | [], _ => Ml.zero
  | x :: xs, h => by
    rw [sumF_cons]
    exact (h x (List.mem_cons_self ..)).add (ml_sum fun y hy => h y (List.mem_cons_of_mem _ hy))
theorem sum_nn : ∀ {xs : List Rat}, (∀ x ∈ xs, 0 ≤ x) → 0 ≤ sumF 0 xs
  | [], _ => by decide
  | x :: xs, h => by
    rw [sumF_cons]
    have h1 := h x (List.mem_cons_self ..)
    have h2 := sum_nn fun y hy => h y (List.mem_cons_of_mem x hy)
    grind
theorem le_sum : ∀ {xs : List Rat}, (∀ x ∈ xs, 0 ≤ x) → ∀ x ∈ xs, x ≤ sumF 0 xs
  | [], _, _, hx => by cases hx
  | y :: ys, h, x, hx => by
    rw [sumF_cons]
    have h1 := h y (List.mem_cons_self ..)
    have h2 := sum_nn fun z hz => h z (List.mem_cons_of_mem y hz)
    rcases List.mem_cons.mp hx with rfl | hx
    · grind
    · have h3 := le_sum (fun z hz => h z (List.mem_cons_of_mem y hz)) x hx
      grind
/-- the sum of f 0 .. f (n - 1) -/
def Su (n : Nat) (f : Nat → Rat) : Rat := sumF 0 ((List.range n).map f)
theorem su_succ (n : Nat) (f : Nat → Rat) : Su (n + 1) f = Su n f + f n := by
  unfold Su
  rw [List.range_succ, List.map_append]
  exact sumF_snoc ..
theorem su_zero (f : Nat → Rat) : Su 0 f = 0 := rfl
theorem su_add (f g : Nat → Rat) : ∀ n, Su n (fun i => f i + g i) = Su n f + Su n g
  | 0 => by simp [su_zero]; grind
  | n + 1 => by
    rw [su_succ, su_succ, su_succ, su_add f g n]
    grind
theorem su_mul (c : Rat) (f : Nat → Rat) : ∀ n, Su n (fun i => c * f i) = c * Su n f
  | 0 => by simp [su_zero]
  | n + 1 => by
    rw [su_succ, su_succ, su_mul c f n]
    grind
theorem su_swap (f : Nat → Nat → Rat) (n : Nat) : ∀ m, Su n (fun j => Su m fun i => f i j) = Su m fun i => Su n fun j => f i j
  | 0 => by
    simp only [su_zero]
    have : ∀ n, Su n (fun _ => (0 : Rat)) = 0 := fun n => by
      induction n with
      | zero => rfl
      | succ n ih => rw [su_succ, ih]; grind
    exact this n
  | m + 1 => by
    simp only [su_succ]
    rw [su_add (fun j => Su m fun i => f i j) (fun j => f m j) n, su_swap f n m]
theorem su_congr {f g : Nat → Rat} : ∀ {n : Nat}, (∀ i, i < n → f i = g i) → Su n f = Su n g
  | 0, _ => rfl
  | n + 1, h => by
    rw [su_succ, su_succ, h n (by omega), su_congr fun i hi => h i (by omega)]
theorem su_list (xs : List Rat) : sumF 0 xs = Su xs.length fun i => xs.getD i 0 := by
  unfold Su
  congr 1
  apply List.ext_getElem?
  intro i
  by_cases h : i < xs.length
  · simp [h]
  · simp [h]
/-! ### the chances of a walk -/
theorem Shr.le {x : Rat} (h : Shr x) : 0 ≤ x ∧ x ≤ 1 := of01 h.1 h.2.1
theorem step_sum {xss : List (List Rat)} {cs : List Rat} (hl : cs.length = xss.length) (hs : ∀ xs ∈ xss, Shs xs xss.length) : sumF 0 (step1 xss cs) = sumF 0 cs := by
  show Su xss.length (fun to => Su xss.length fun r => cs.getD r 0 * (xss.getD r []).getD to 0) = _
  rw [su_swap (fun r to => cs.getD r 0 * (xss.getD r []).getD to 0), su_list cs, hl]
  refine su_congr fun r hr => ?_
  rw [su_mul]
  have hx : xss.getD r [] ∈ xss := by
    rw [List.getD_eq_getElem?_getD, List.getElem?_eq_getElem hr]
    exact List.getElem_mem hr
  obtain ⟨h1, _, h3⟩ := hs _ hx
  rw [su_list, h1] at h3
  rw [h3]
  grind
theorem getD_ok {P : Rat → Prop} {xs : List Rat} (h0 : P 0) (h : ∀ x ∈ xs, P x) (i : Nat) : P (xs.getD i 0) := by
  rw [List.getD_eq_getElem?_getD]
  by_cases hi : i < xs.length
  · rw [List.getElem?_eq_getElem hi]
    exact h _ (List.getElem_mem hi)
  · rw [List.getElem?_eq_none (by omega)]
    exact h0
theorem getD_row {P : Rat → Prop} {xss : List (List Rat)} (h0 : P 0) (h : ∀ xs ∈ xss, ∀ x ∈ xs, P x) (r i : Nat) : P ((xss.getD r []).getD i 0) := by
  rw [List.getD_eq_getElem?_getD (l := xss)]
  by_cases hi : r < xss.length
  · rw [List.getElem?_eq_getElem hi]
    exact getD_ok h0 (h _ (List.getElem_mem hi)) i
  · rw [List.getElem?_eq_none (by omega)]
    simpa using h0
theorem walk_ok {xss : List (List Rat)} {N r : Nat} (hs : ∀ xs ∈ xss, Shs xs xss.length) (hm : ∀ xs ∈ xss, ∀ x ∈ xs, Ml N x) (hr : r < xss.length) : ∀ k, sumF 0 (walk xss r k) = 1 ∧ ∀ c ∈ walk xss r k, 0 ≤ c ∧ c ≤ 1 ∧ Ml (N ^ k) c
  | 0 => by
    have e : sumF 0 (walk xss r 0) = 1 := by
      show Su xss.length (fun i => if i = r then 1 else 0) = 1
      have : ∀ n, Su n (fun i => if i = r then (1 : Rat) else 0) = if r < n then 1 else 0 := fun n => by
        induction n with
        | zero => rfl
        | succ n ih =>
          rw [su_succ, ih]
          by_cases h1 : r < n
          · rw [if_pos h1, if_neg (show n ≠ r by omega), if_pos (by omega)]
            grind
          · rw [if_neg h1]
            by_cases h2 : n = r
            · rw [if_pos h2, if_pos (by omega)]
              grind
            · rw [if_neg h2, if_neg (by omega)]
              grind
      rw [this, if_pos hr]
    refine ⟨e, fun c hc => ?_⟩
    obtain ⟨i, _, rfl⟩ := List.mem_map.mp hc
    split
    · exact ⟨by decide, by decide, Ml.one⟩
    · exact ⟨by decide, by decide, Ml.zero⟩
  | k + 1 => by
    obtain ⟨e, h⟩ := walk_ok hs hm hr k
    have e1 : sumF 0 (walk xss r (k + 1)) = 1 := by
      show sumF 0 (step1 xss (walk xss r k)) = 1
      rw [step_sum (walk_len xss r k) hs, e]
    have c0 : ∀ i, 0 ≤ (walk xss r k).getD i 0 := getD_ok (P := fun c => 0 ≤ c) (by decide) fun c hc => (h c hc).1
    have cm : ∀ i, Ml (N ^ k) ((walk xss r k).getD i 0) := getD_ok Ml.zero fun c hc => (h c hc).2.2
    have s0 : ∀ i j, 0 ≤ (xss.getD i []).getD j 0 := getD_row (P := fun c => 0 ≤ c) (by decide) fun xs hx x h => ((hs xs hx).2.1 x h).le.1
    have sm : ∀ i j, Ml N ((xss.getD i []).getD j 0) := getD_row Ml.zero hm
    have nn : ∀ c ∈ walk xss r (k + 1), 0 ≤ c := by
      intro c hc
      obtain ⟨to, _, rfl⟩ := List.mem_map.mp hc
      refine sum_nn fun x hx => ?_
      obtain ⟨i, _, rfl⟩ := List.mem_map.mp hx
      exact Rat.mul_nonneg (c0 i) (s0 i to)
    refine ⟨e1, fun c hc => ⟨nn c hc, ?_, ?_⟩⟩
    · have := le_sum nn c hc
      rw [e1] at this
      exact this
    · obtain ⟨to, _, rfl⟩ := List.mem_map.mp hc
      refine ml_sum fun x hx => ?_
      obtain ⟨i, _, rfl⟩ := List.mem_map.mp hx
      rw [Nat.pow_succ]
      exact (cm i).mul (sm i to)
/-- a bottom for all rows: those of rows multiplied -/
theorem rows_ml {b : Nat} : ∀ {xss : List (List Rat)}, (∀ xs ∈ xss, ∃ d : Nat, 0 < d ∧ d ≤ b ∧ ∀ x ∈ xs, Ml d x) → ∃ N : Nat, 0 < N ∧ N ≤ b ^ xss.length ∧ ∀ xs ∈ xss, ∀ x ∈ xs, Ml N x
  | [], _ => ⟨1, by decide, Nat.le_refl _, nofun⟩
  | xs :: xss, h => by
    obtain ⟨d, d0, db, hd⟩ := h xs (List.mem_cons_self ..)
    obtain ⟨N, n0, nb, hN⟩ := rows_ml fun ys hy => h ys (List.mem_cons_of_mem _ hy)
    refine ⟨d * N, Nat.mul_pos d0 n0, ?_, fun ys hy => ?_⟩
    · rw [List.length_cons, Nat.pow_succ, Nat.mul_comm]
      exact Nat.mul_le_mul nb db
    · rcases List.mem_cons.mp hy with rfl | hy
      · exact fun x hx => (hd x hx).up ⟨N, rfl⟩
      · exact fun x hx => (hN ys hy x hx).up ⟨d, Nat.mul_comm ..⟩
theorem small_ml {x : Rat} {d : Nat} (h0 : 0 < d) (h : d ≤ 12) (hx : Ml d x) : Ml 27720 x := by
  refine hx.up ?_
  have : d = 1 ∨ d = 2 ∨ d = 3 ∨ d = 4 ∨ d = 5 ∨ d = 6 ∨ d = 7 ∨ d = 8 ∨ d = 9 ∨ d = 10 ∨ d = 11 ∨ d = 12 := by omega
  rcases this with rfl | rfl | rfl | rfl | rfl | rfl | rfl | rfl | rfl | rfl | rfl | rfl <;> decide
/-- the machines that the laws draw: their bottoms are small, or there are few steps -/
def Bot (b : Nat) (xss : List (List Rat)) : Prop := ∀ xs ∈ xss, ∃ d : Nat, 0 < d ∧ d ≤ b ∧ ∀ x ∈ xs, Ml d x
theorem walk_small {xss : List (List Rat)} {r k : Nat} (hs : ∀ xs ∈ xss, Shs xs xss.length) (hb : Bot 12 xss) (hr : r < xss.length) (hk : k ≤ 12) : ∀ c ∈ walk xss r k, Sz 245 c := by
  have hm : ∀ xs ∈ xss, ∀ x ∈ xs, Ml 27720 x := fun xs hx x h => by
    obtain ⟨d, d0, db, hd⟩ := hb xs hx
    exact small_ml d0 db (hd x h)
  intro c hc
  obtain ⟨h0, h1, h2⟩ := (walk_ok hs hm hr k).2 c hc
  refine h2.sz (Nat.pow_pos (by decide)) h0 h1 ?_
  exact Nat.lt_of_le_of_lt (Nat.pow_le_pow_right (by decide) hk) (by decide)
theorem walk_great {xss : List (List Rat)} {r k : Nat} (hs : ∀ xs ∈ xss, Shs xs xss.length) (hb : Bot 999 xss) (h6 : xss.length ≤ 6) (hr : r < xss.length) (hk : k ≤ 4) : ∀ c ∈ walk xss r k, Sz 245 c := by
  obtain ⟨N, n0, nb, hN⟩ := rows_ml hb
  intro c hc
  obtain ⟨h0, h1, h2⟩ := (walk_ok hs hN hr k).2 c hc
  refine h2.sz (Nat.pow_pos n0) h0 h1 ?_
  have a1 : N ≤ 999 ^ 6 := Nat.le_trans nb (Nat.pow_le_pow_right (by decide) h6)
  exact Nat.lt_of_le_of_lt (Nat.le_trans (Nat.pow_le_pow_left a1 k) (Nat.pow_le_pow_right (by decide) hk)) (by decide)
/-- behind one step: the room's shares -/
theorem walk_one {xss : List (List Rat)} {r : Nat} {xs : List Rat} (hx : xss[r]? = some xs) (hs : ∀ xs ∈ xss, Shs xs xss.length) : walk xss r 1 = xs := by
  obtain ⟨hr, e⟩ := List.getElem?_eq_some_iff.mp hx
  have hl : xs.length = xss.length := (hs xs (e ▸ List.getElem_mem hr)).1
  show (List.range xss.length).map (dot xss (unit xss.length r)) = xs
  have hd : ∀ to, dot xss (unit xss.length r) to = xs.getD to 0 := fun to => by
    show Su xss.length (fun i => (unit xss.length r).getD i 0 * (xss.getD i []).getD to 0) = _
    have e1 : Su xss.length (fun i => (unit xss.length r).getD i 0 * (xss.getD i []).getD to 0) = Su xss.length (fun i => if i = r then xs.getD to 0 else 0) := su_congr fun i hi => by
      have : (unit xss.length r).getD i 0 = if i = r then 1 else 0 := by
        unfold unit
        simp [List.getD_eq_getElem?_getD, hi]
      rw [this]
      by_cases c : i = r
      · subst c
        rw [if_pos rfl, if_pos rfl, List.getD_eq_getElem?_getD (l := xss), hx]
        grind
      · rw [if_neg c, if_neg c]
        grind
    rw [e1]
    have : ∀ n, Su n (fun i => if i = r then xs.getD to 0 else 0) = if r < n then xs.getD to 0 else 0 := fun n => by
      induction n with
      | zero => rfl
      | succ n ih =>
        rw [su_succ, ih]
        by_cases h1 : r < n
        · rw [if_pos h1, if_neg (show n ≠ r by omega), if_pos (by omega)]
          grind
        · rw [if_neg h1]
          by_cases h2 : n = r
          · rw [if_pos h2, if_pos (by omega)]
            grind
          · rw [if_neg h2, if_neg (by omega)]
            grind
    rw [this, if_pos hr]
  rw [← hl]
  apply List.ext_getElem?
  intro i
  by_cases h : i < xs.length
  · rw [List.getElem?_map, List.getElem?_range h, Option.map_some, hl, hd, List.getD_eq_getElem?_getD, List.getElem?_eq_getElem h]
    rfl
  · rw [List.getElem?_eq_none (by simpa using h), List.getElem?_eq_none (by omega)]
end NF

namespace NF
open PySem PySem.Spec PyProof.Rows L2 Evl
/-! ### "".join of signs -/
theorem foldl_cps : ∀ (cs : List Nat) (acc : Array Nat), ((cs.map fun c => (⟨#[c]⟩ : Str)).foldl (fun (acc : Array Nat) p => acc ++ (Str.ofString "").cps ++ p.cps) acc).toList = acc.toList ++ cs
  | [], acc => by simp
  | c :: cs, acc => by
    rw [List.map_cons, List.foldl_cons, foldl_cps cs]
    have : (Str.ofString "").cps = #[] := by decide +kernel
    simp [this]
theorem glue_cps (cs : List Nat) : (Txt.join (Str.ofString "") (cs.map fun c => ⟨#[c]⟩)).cps.toList = cs := by
  cases cs with
  | nil => rfl
  | cons c cs =>
    show ((cs.map fun c => (⟨#[c]⟩ : Str)).foldl (fun (acc : Array Nat) p => acc ++ (Str.ofString "").cps ++ p.cps) #[c]).toList = _
    rw [foldl_cps]
    rfl
theorem mk_glue {cs : List Nat} (h1 : 1 ≤ cs.length) (h4 : cs.length ≤ 4) (hc : ∀ c ∈ cs, 97 ≤ c ∧ c ≤ 122) : NF.Mk (Txt.join (Str.ofString "") (cs.map fun c => ⟨#[c]⟩)) := by
  have e := glue_cps cs
  have el : (Txt.join (Str.ofString "") (cs.map fun c => ⟨#[c]⟩)).cps.size = cs.length := by
    rw [← Array.length_toList, e]
  exact ⟨by omega, by omega, by rw [e]; exact hc⟩
/-! ### raw steps -/
section
variable {K : PySem.W.Frag} {H H1 H2 : Hp} {σ : L2.St} {ta tb te tl : TE} {v w u : V} {x y : Rat} {E : XK} {D : Ends} {tz t1 t2 : TS} {tc : TT} {tA : TA} {Q : VK} {l st : Addr} {xs ys : List V}
theorem q_raw {i : Nat} (h : te σ H fun x H1 => tz D (σ.set i (some x)) H1) : tSeq (tAsg te (gName i)) tz D σ H := h
theorem s_raw (h : te σ H D.rt) : tRet te D σ H := h
theorem a_raw {i : Nat} (h : te σ H fun x H1 => D.nx (σ.set i (some x)) H1) : tAsg te (gName i) D σ H := h
theorem op_raw {r : R2} (h : ta σ H fun x H1 => tb σ H1 fun y H2 => r x y H2 Q) : tOp r ta tb σ H Q := h
theorem call_raw {sp : Sp} {dvs : List V} (h : tA σ H fun vs H1 => sp (vs ++ dvs) H1 Q E) : tCall sp dvs E tA σ H Q := h
theorem cons_raw {Q : List V → Hp → Prop} (h : ta σ H fun x H1 => tA σ H1 fun xs H2 => Q (x :: xs) H2) : tCons ta tA σ H Q := h
theorem nil_raw {Q : List V → Hp → Prop} (h : Q [] H) : tNil σ H Q := h
theorem c_raw (h : Q v H) : tC v σ H Q := h
theorem v_raw {i : Nat} (e : σ[i]? = some (some v)) (h : Q v H) : tVar i σ H Q := ⟨v, e, h⟩
theorem cb_raw {r : List V → Hp → VK → Prop} (h : tA σ H fun vs H1 => r vs H1 Q) : tCB r tA σ H Q := h
theorem lst_raw (h : tA σ H fun xs H1 => xs.length ≤ sizeLine ∧ ∀ p, H1 p = none → Q (.ref p) (upd H1 p (.lst xs))) : tLst tA σ H Q := h
theorem if_raw (h : tc σ H fun b H1 => if b = true then t1 { D with nx := tz D } σ H1 else t2 { D with nx := tz D } σ H1) : tSeq (tIfS tc t1 t2) tz D σ H := h
theorem test_raw {Q : Bool → Hp → Prop} (h : te σ H fun x H' => ∃ k, x = .bl k ∧ Q k H') : tTest te σ H Q := h
theorem not_raw {Q : Bool → Hp → Prop} (h : tc σ H fun b H1 => Q (!b) H1) : tNot tc σ H Q := h
theorem app_eq {Q : Hp → Prop} : (fun (y : V) (H2 : Hp) => rAppend (.ref l) [y] H2 fun _ H3 => Q H3) = fun y H2 => ∃ xs, H2 l = some (.lst xs) ∧ xs.length < sizeLine ∧ Q (upd H2 l (.lst (xs ++ [y]))) := by
  funext y H2
  apply propext
  constructor
  · rintro ⟨l', xs, y', e1, e2, h1, h2, h3⟩
    cases e1
    cases e2
    exact ⟨xs, h1, h2, h3⟩
  · rintro ⟨xs, h1, h2, h3⟩
    exact ⟨l, xs, y, rfl, rfl, h1, h2, h3⟩
theorem qapp_raw {i : Nat} (e : σ[i]? = some (some (.ref l))) (hl : H l = some (.lst xs)) (h : te σ H fun y H2 => ∃ xs, H2 l = some (.lst xs) ∧ xs.length < sizeLine ∧ tz D σ (upd H2 l (.lst (xs ++ [y])))) : tSeq (tDrop (tBM K "list" rAppend (tVar i) (tCons te tNil))) tz D σ H := by
  refine ⟨_, e, .inl ⟨rfl, xs, SqL.of hl⟩, ?_⟩
  show te σ H fun y H2 => rAppend (.ref l) [y] H2 fun _ H3 => tz D σ H3
  rw [app_eq]
  exact h
theorem sapp_raw {i : Nat} (e : σ[i]? = some (some (.ref l))) (hl : H l = some (.lst xs)) (h : te σ H fun y H2 => ∃ xs, H2 l = some (.lst xs) ∧ xs.length < sizeLine ∧ D.nx σ (upd H2 l (.lst (xs ++ [y])))) : tDrop (tBM K "list" rAppend (tVar i) (tCons te tNil)) D σ H :=
  qapp_raw (K := K) (tz := fun D => D.nx) (D := D) e hl h
theorem sz_lt' {n : Nat} (h : n < 100000) : n < sizeLine := Nat.lt_of_lt_of_le h (by decide)
theorem q_appF {i : Nat} (e : σ[i]? = some (some (.ref l))) (hl : H l = some (.lst xs)) (h : EvF K te σ H x) (hx : xs.length < 100000) (k : ∀ u H1, Ex H H1 → Rt K H1 u x → tz D σ (upd H1 l (.lst (xs ++ [u])))) : tSeq (tDrop (tBM K "list" rAppend (tVar i) (tCons te tNil))) tz D σ H :=
  qapp_raw e hl (h H (Ex.refl H) _ fun u H1 e1 r => ⟨xs, e1 _ _ hl, sz_lt' hx, k u H1 e1 r⟩)
theorem s_appF {i : Nat} (e : σ[i]? = some (some (.ref l))) (hl : H l = some (.lst xs)) (h : EvF K te σ H x) (hx : xs.length < 100000) (k : ∀ u H1, Ex H H1 → Rt K H1 u x → D.nx σ (upd H1 l (.lst (xs ++ [u])))) : tDrop (tBM K "list" rAppend (tVar i) (tCons te tNil)) D σ H :=
  sapp_raw e hl (h H (Ex.refl H) _ fun u H1 e1 r => ⟨xs, e1 _ _ hl, sz_lt' hx, k u H1 e1 r⟩)
theorem el_cat (ha : EvL ta σ H xs) (hb : EvL tb σ H ys) (hl : xs.length + ys.length ≤ 100000) : EvL (tOp rCat ta tb) σ H (xs ++ ys) := fun H1 e Q q =>
  ha H1 e _ fun p H2 np e2 hp => hb H2 (e.trans e2) _ fun p' H3 np' e3 hp' => ⟨p, p', xs, ys, rfl, rfl, e3 _ _ hp, hp', Nat.le_trans hl (by decide), fun r nr => q r _ (fresh_back (e2.trans e3) nr) ((e2.trans e3).trans (Ex.new nr)) upd_same⟩
/-! ### fractions in lists -/
theorem RtAll.append : ∀ {vs ws : List V} {xs ys : List Rat}, RtAll K H vs xs → RtAll K H ws ys → RtAll K H (vs ++ ws) (xs ++ ys)
  | _, _, _, _, .nil, h => h
  | _, _, _, _, .cons r t, h => .cons r (RtAll.append t h)
theorem RtAll.drop : ∀ {vs : List V} {xs : List Rat} (k : Nat), RtAll K H vs xs → RtAll K H (vs.drop k) (xs.drop k)
  | _, _, 0, h => h
  | _, _, k + 1, .nil => .nil
  | _, _, k + 1, .cons _ t => RtAll.drop k t
theorem RtAll.take : ∀ {vs : List V} {xs : List Rat} (k : Nat), RtAll K H vs xs → RtAll K H (vs.take k) (xs.take k)
  | _, _, 0, _ => .nil
  | _, _, k + 1, .nil => .nil
  | _, _, k + 1, .cons r t => .cons r (RtAll.take k t)
theorem cut_rot {α : Type} {k : Nat} : True := trivial
theorem cutV_hi {vs : List V} {k : Nat} (h : k ≤ vs.length) : cutV vs (some (k : Int)) none = vs.drop k := by
  unfold cutV HT.sIx
  simp only
  rw [if_neg (by omega), Int.toNat_natCast, Nat.min_eq_left h, ← List.length_drop, List.take_length]
theorem cutV_lo {vs : List V} {k : Nat} (h : k ≤ vs.length) : cutV vs none (some (k : Int)) = vs.take k := by
  unfold cutV HT.sIx
  simp only
  rw [if_neg (by omega), Int.toNat_natCast, Nat.min_eq_left h]
  simp
/-! ### a heap without some of its objects -/
def Off (S : List Addr) (H : Hp) : Hp := fun b => if b ∈ S then none else H b
theorem Off.ex {S : List Addr} (h : ∀ b o, b ∉ S → H b = some o → H1 b = some o) : Ex (Off S H) (Off S H1) := fun b o e => by
  unfold Off at e ⊢
  by_cases c : b ∈ S
  · rw [if_pos c] at e
    cases e
  · rw [if_neg c] at e ⊢
    exact h b o c e
theorem Off.le {S : List Addr} : Ex (Off S H) H := fun b o e => by
  unfold Off at e
  by_cases c : b ∈ S
  · rw [if_pos c] at e
    cases e
  · rw [if_neg c] at e
    exact e
theorem Off.lst {S : List Addr} {a : Addr} {us : List V} (n : a ∉ S) (h : SqL K H a us) : SqL K (Off S H) a us := by
  have e : ∀ {o}, H a = some o → Off S H a = some o := fun h => by
    unfold Off
    rw [if_neg n]
    exact h
  rcases h with (h | ⟨ob, h⟩) | h
  · exact .inl (.inl (e h))
  · exact .inl (.inr ⟨ob, e h⟩)
  · exact .inr h
theorem Off.rt {S : List Addr} (hS : ∀ b ∈ S, ∃ xs, H b = some (.lst xs)) {vs : List V} {xs : List Rat} (h : RtAll K H vs xs) : RtAll K (Off S H) vs xs := h.sq fun {a zs} ht => by
  have e : ∀ {o}, (∀ xs, o ≠ .lst xs) → H a = some o → Off S H a = some o := fun hn h => by
    unfold Off
    rw [if_neg fun c => ?_]
    · exact h
    · obtain ⟨xs, hx⟩ := hS a c
      rw [hx] at h
      cases h
      exact hn _ rfl
  rcases ht with (h | ⟨ob, h⟩) | h
  · exact .inl (.inl (e (fun _ z => by cases z) h))
  · exact .inl (.inr ⟨ob, e (fun _ z => by cases z) h⟩)
  · exact .inr h
/-! ### what stays where the state changes -/
theorem SqL.exS {a : Addr} {us : List V} (e : ExS st H H1) (hs : Bg st H) (hn : ∀ g m : Int, us ≠ [.int g, .int m]) (h : SqL K H a us) : SqL K H1 a us := by
  obtain ⟨g, m, hs⟩ := hs
  rcases h with (h | ⟨ob, h⟩) | h
  · exact .inl (.inl (e _ _ (fun z => by rw [z, hs] at h; cases h; exact hn _ _ rfl) h))
  · exact .inl (.inr ⟨ob, e _ _ (ne_of h hs (fun z => by cases z)) h⟩)
  · exact .inr h
theorem RtAll.noInt {us : List V} {xs : List Rat} {g m : Int} (h : RtAll K H us xs) : us ≠ [.int g, .int m] := by
  rintro rfl
  cases h with
  | cons r _ =>
    obtain ⟨p, e, _⟩ := r
    cases e
theorem Rows.exS (e : ExS st H H1) (hs : Bg st H) : ∀ {vs : List V} {xss : List (List Rat)}, Rows K H vs xss → Rows K H1 vs xss
  | _, _, .nil => .nil
  | _, _, .cons h r t => .cons (SqL.exS e hs (fun _ _ => r.noInt) h) (r.exS e hs) (Rows.exS e hs t)
theorem Rows.noInt {us : List V} {xss : List (List Rat)} {g m : Int} (h : Rows K H us xss) : us ≠ [.int g, .int m] := by
  rintro rfl
  cases h
theorem strs_noInt {zs : List Str} {g m : Int} : zs.map V.str ≠ [.int g, .int m] := by
  intro h
  cases zs with
  | nil => cases h
  | cons z zs => cases h
theorem MaAt.exS {C m : Addr} {zs : List Str} {xss : List (List Rat)} (h : MaAt K C H m zs xss) (e : ExS st H H1) (hs : Bg st H) : MaAt K C H1 m zs xss := by
  obtain ⟨dx, am, as, us, h1, h2, h3, h4⟩ := h
  obtain ⟨g, n, hst⟩ := id hs
  refine ⟨dx, am, as, us, e _ _ (ne_of h1 hst (fun z => by cases z)) h1, e _ _ (fun z => ?_) h2, e _ _ (fun z => ?_) h3, h4.exS e hs⟩
  · rw [z, hst] at h2
    have h2' := HO.lst.inj (Option.some.inj h2)
    exact strs_noInt h2'.symm
  · rw [z, hst] at h3
    have h3' := HO.lst.inj (Option.some.inj h3)
    exact h4.noInt h3'.symm
theorem Bg.new {p : Addr} {o : HO} (h : Bg st H) (np : H p = none) : Bg st (upd H p o) := h.mono (Ex.new np)
theorem Bg.upd {p : Addr} {o : HO} (h : Bg st H) (n : p ≠ st) : Bg st (upd H p o) := by
  obtain ⟨g, m, h⟩ := h
  exact ⟨g, m, by rw [upd_ne n.symm]; exact h⟩
/-! ### what the laws draw -/
def spWord : Sp := fun vs H Q _ => ∃ st : Addr, vs = [.ref st] ∧ Bg st H ∧ ∀ z H', NF.Mk z → Bg st H' → ExS st H H' → Q (.str z) H'
def spGoes (K : PySem.W.Frag) : Sp := fun vs H Q _ => ∃ (st : Addr) (n wide : Nat), vs = [.ref st, .int (n : Int), .int (wide : Int)] ∧ Bg st H ∧ 1 ≤ n ∧ n ≤ 6 ∧ 6 ≤ wide ∧ wide ≤ 999 ∧
  ∀ p us xs H', H p = none → Bg st H' → ExS st H H' → H' p = some (.lst us) → RtAll K H' us xs → Shs xs n → (∃ d : Nat, 0 < d ∧ d ≤ wide ∧ ∀ x ∈ xs, Ml d x) → Q (.ref p) H'
/-- names and rows of a machine in the heap -/
def KitAt (K : PySem.W.Frag) (H : Hp) (a b : Addr) (zs : List Str) (us : List V) (xss : List (List Rat)) : Prop := H a = some (.lst (zs.map V.str)) ∧ H b = some (.lst us) ∧ Rows K H us xss ∧ Good zs xss
theorem KitAt.mono {a b : Addr} {zs : List Str} {us : List V} {xss : List (List Rat)} (h : KitAt K H a b zs us xss) (e : Ex H H1) : KitAt K H1 a b zs us xss := ⟨e _ _ h.1, e _ _ h.2.1, h.2.2.1.mono e, h.2.2.2⟩
theorem KitAt.exS {a b : Addr} {zs : List Str} {us : List V} {xss : List (List Rat)} (h : KitAt K H a b zs us xss) (e : ExS st H H1) (hs : Bg st H) : KitAt K H1 a b zs us xss := by
  obtain ⟨h1, h2, h3, h4⟩ := h
  obtain ⟨g, n, hst⟩ := id hs
  refine ⟨e _ _ (fun z => ?_) h1, e _ _ (fun z => ?_) h2, h3.exS e hs, h4⟩
  · rw [z, hst] at h1
    exact strs_noInt (HO.lst.inj (Option.some.inj h1)).symm
  · rw [z, hst] at h2
    exact h3.noInt (HO.lst.inj (Option.some.inj h2)).symm
def spKit (K : PySem.W.Frag) : Sp := fun vs H Q _ => ∃ (st : Addr) (wide : Nat), vs = [.ref st, .int 6, .int (wide : Int)] ∧ Bg st H ∧ 6 ≤ wide ∧ wide ≤ 999 ∧
  ∀ p a b zs us xss H', H p = none → H a = none → H b = none → Bg st H' → ExS st H H' → H' p = some (.tup [.ref a, .ref b]) → KitAt K H' a b zs us xss → Bot wide xss → Q (.ref p) H'
theorem word_ev {i : Nat} (h1 : σ[i]? = some (some (.ref st))) (hs : Bg st H) (q : ∀ z H', NF.Mk z → Bg st H' → ExS st H H' → Q (.str z) H') : tCall spWord [] E (tCons (tVar i) tNil) σ H Q := ⟨_, h1, st, rfl, hs, q⟩
theorem goes_ev {i j k n wide : Nat} (h1 : σ[i]? = some (some (.ref st))) (h2 : σ[j]? = some (some (.int (n : Int)))) (h3 : σ[k]? = some (some (.int (wide : Int)))) (hs : Bg st H) (n1 : 1 ≤ n) (n6 : n ≤ 6) (w6 : 6 ≤ wide) (w9 : wide ≤ 999)
    (q : ∀ p us xs H', H p = none → Bg st H' → ExS st H H' → H' p = some (.lst us) → RtAll K H' us xs → Shs xs n → (∃ d : Nat, 0 < d ∧ d ≤ wide ∧ ∀ x ∈ xs, Ml d x) → Q (.ref p) H') : tCall (spGoes K) [] E (tCons (tVar i) (tCons (tVar j) (tCons (tVar k) tNil))) σ H Q :=
  ⟨_, h1, _, h2, _, h3, st, n, wide, rfl, hs, n1, n6, w6, w9, q⟩
end
/-! ### the mathematics of a row -/
theorem shr_div {p : Int} {b : Nat} (h0 : 0 ≤ p) (h1 : p ≤ b) (hb : 0 < b) (h9 : b ≤ 999) : Shr (Rat.divInt p b) := by
  have h := div_eq p hb
  have hb' : (0 : Rat) < (b : Rat) := by exact_mod_cast hb
  have p0 : (0 : Rat) ≤ (p : Rat) := by exact_mod_cast h0
  have p1 : (p : Rat) ≤ (b : Rat) := by
    have : (p : Rat) ≤ ((b : Int) : Rat) := by exact_mod_cast h1
    exact this
  have x0 : 0 ≤ Rat.divInt p b := by
    rw [← Rat.num_nonneg, Rat.num_divInt]
    apply Int.ediv_nonneg
    · rw [Int.sign_eq_one_of_pos (by omega)]
      omega
    · omega
  have x1 : Rat.divInt p b ≤ 1 := by
    apply Rat.not_lt.mp
    intro c
    have : (1 : Rat) * b < Rat.divInt p b * b := Rat.mul_lt_mul_of_pos_right c hb'
    grind
  obtain ⟨a, c⟩ := num01 x0 x1
  exact ⟨a, c, by have := den_le (t := p) hb; omega⟩
end NF

namespace NF
open PySem PySem.Spec PyProof.Rows L2 Evl
/-! ### lists of fractions compared -/
theorem eqv_rts : ∀ (xs : List Rat), PyData.eqvAll (xs.map fd) (xs.map fd) = true
  | [] => by simp [PyData.eqvAll]
  | x :: xs => by
    have := eqv_rts xs
    have e : PyData.eqv (fd x) (fd x) = true := by
      unfold fd
      rw [eqv_rt]
      simp
    simp [PyData.eqvAll, this, e]
theorem eqv_rtL (xs : List Rat) : PyData.eqv (.list (xs.map fd)) (.list (xs.map fd)) = true := by
  simp [PyData.eqv, eqv_rts]
theorem shaped_rts (xs : List Rat) : SeqAt.shaped (.list (xs.map fd)) = true := by
  have h1 : PyData.canLayAll0 (xs.map fd) = true := by
    induction xs with
    | nil => rfl
    | cons x xs ih =>
      rw [List.map_cons]
      simp only [PyData.canLayAll0, ih, Bool.and_true]
      rfl
  have h2 : (PyData.list (xs.map fd)).depth ≤ 2 := by
    induction xs with
    | nil => show 1 ≤ 2; decide
    | cons x xs ih =>
      have := ih (by simp only [List.map_cons, PyData.canLayAll0, Bool.and_eq_true] at h1; exact h1.2)
      have hx : (fd x).depth ≤ 1 := by show 1 ≤ 1; decide
      simp only [PyData.depth, List.map_cons, PyData.depthAll] at *
      omega
  unfold SeqAt.shaped
  simp [PyData.canLay0, h1]
  omega
section
variable {K : PySem.W.Frag} {H H1 H2 : Hp} {σ : L2.St} {ta tb te tl : TE} {v w u : V} {x y : Rat} {E : XK} {D : Ends} {tz t1 t2 : TS} {tc : TT} {tA : TA} {Q : VK} {l st C m : Addr} {xs ys : List Rat} {zs : List Str} {xss : List (List Rat)}
/-- a list of fractions, old or new -/
def EvLs (K : PySem.W.Frag) (te : TE) (σ : L2.St) (H : Hp) (xs : List Rat) : Prop := ∀ H1, Ex H H1 → ∀ Q : VK, (∀ p us H2, Ex H1 H2 → SqL K H2 p us → RtAll K H2 us xs → Q (.ref p) H2) → te σ H1 Q
theorem EvR.ls (h : EvR K te σ H xs) : EvLs K te σ H xs := fun H1 e Q q => h H1 e _ fun p us H2 _ e2 hp hr => q p us H2 e2 (SqL.of hp) hr
theorem els_of {a : Addr} {us : List V} (h : Ev te σ H (.ref a)) (ha : SqL K H a us) (hr : RtAll K H us xs) : EvLs K te σ H xs := fun H1 e Q q =>
  h H1 e _ fun H2 e2 => q a us H2 e2 (ex_l (e.trans e2) ha) (hr.mono (e.trans e2))
theorem els_row {a : Addr} {us : List V} {j : Nat} (h1 : Ev ta σ H (.ref a)) (h2 : Ev tb σ H (.int (j : Int))) (ha : SqL K H a us) (hr : Rows K H us xss) (hj : xss[j]? = some xs) : EvLs K (tOp (rIxL K) ta tb) σ H xs := by
  obtain ⟨p, ws, h3, h4, h5⟩ := ev_row h1 h2 ha hr hj
  exact els_of h3 h4 h5
theorem ev_neLs (ha : EvLs K ta σ H xs) (hb : EvLs K tb σ H xs) : Ev (tOp (rNeD K) ta tb) σ H (.bl false) := fun H1 e Q q =>
  ha H1 e _ fun p us H2 e2 hp hr => hb H2 (e.trans e2) _ fun p' us' H3 e3 hp' hr' => ⟨_, _, .lst (ex_l e3 hp) (dp_rts (hr.mono e3)), .lst hp' (dp_rts hr'), shaped_rts _, shaped_rts _, by
    rw [eqv_rtL]
    exact q H3 (e2.trans e3)⟩
/-- [fraction for i in range(n)] -/
theorem er_lcR {n j : Nat} {vs : List Nat} (h : EvA tA σ H [.int (n : Int)]) (hl : xs.length = n) (hn : n ≤ 1000) (hw : ∀ x, wipe ((wipe σ vs).set j (some x)) vs = wipe σ vs)
    (he : ∀ (i : Nat) (x : Rat) H1, Ex H H1 → xs[i]? = some x → EvF K te ((wipe σ vs).set j (some (.int (i : Int)))) H1 x) : EvR K (tLc (iRng1 tA) (gName j) tYes te vs) σ H xs := fun H0 e Q q => h H0 e _ fun H1 e1 => ⟨(n : Int), rfl, by omega, by omega, fun Dl hD => by
  have E1 := e.trans e1
  refine lc_range (lo := 0) (n := (n : Int).toNat) (fun i G => ∃ us, H1 Dl = none ∧ Ex H1 G ∧ G Dl = some (.lst us) ∧ us.length = i ∧ RtAll K G us (xs.take i)) ⟨[], hD, Ex.new hD, upd_same, rfl, .nil⟩ ?_ ?_
  · rintro i G hi ⟨us, n1, x1, hDl, hl1, hR⟩
    rw [Int.toNat_natCast] at hi
    have hx : xs[i]? = some xs[i] := List.getElem?_eq_getElem (by omega)
    refine ⟨hw _, ?_⟩
    show te _ G _
    have hz : (0 : Int) + (i : Int) = (i : Int) := Int.zero_add _
    rw [hz]
    refine he i xs[i] G (E1.trans x1) hx G (Ex.refl G) _ fun u G2 x2 ru => ?_
    have hD2 := x2 _ _ hDl
    refine ⟨us, hD2, Nat.lt_of_lt_of_le (show us.length < 1001 by omega) (by decide), us ++ [u], n1, fun b o hb => ?_, upd_same, by simp [hl1], ?_⟩
    · rw [upd_ne (ne_of_none hb n1)]
      exact (x1.trans x2) _ _ hb
    · rw [List.take_add_one, hx]
      exact ((hR.mono x2).push ru).exLst Exs.upd hD2
  · rintro G ⟨us, n1, x1, hDl, hl1, hR⟩
    rw [Int.toNat_natCast, ← hl, List.take_length] at hR
    exact q Dl us G (fresh_back e1 n1) (e1.trans x1) hDl hR⟩
theorem asg_raw {g : TG} (h : te σ H fun x H1 => g x σ H1 fun σ2 H2 => tz D σ2 H2) : tSeq (tAsg te g) tz D σ H := h
theorem drop_raw (h : te σ H fun _ H1 => tz D σ H1) : tSeq (tDrop te) tz D σ H := h
theorem bag_ev {i j : Nat} {a : Addr} {ns : List Int} {k : Nat} (h1 : σ[i]? = some (some (.ref a))) (h2 : σ[j]? = some (some (.int (k : Int)))) (ha : SqL K H a (ns.map V.int)) (hl : ns.length ≤ 1000) (hk : k ≤ 1000) (q : ∀ st H', H st = none → Ex H H' → Bg st H' → Q (.ref st) H') :
    tCall (spBag K) [] E (tCons (tVar i) (tCons (tVar j) tNil)) σ H Q := ⟨_, h1, _, h2, a, ns, k, rfl, ha, hl, hk, q⟩
theorem kit_ev {i wide : Nat} (h1 : σ[i]? = some (some (.ref st))) (hb : Ev tb σ H (.int (wide : Int))) (hs : Bg st H) (w6 : 6 ≤ wide) (w9 : wide ≤ 999)
    (q : ∀ p a b zs us xss H', H p = none → H a = none → H b = none → Bg st H' → ExS st H H' → H' p = some (.tup [.ref a, .ref b]) → KitAt K H' a b zs us xss → Bot wide xss → Q (.ref p) H') : tCall (spKit K) [] E (tCons (tVar i) (tCons (tC (.int 6)) (tCons tb tNil))) σ H Q :=
  ⟨_, h1, hb H (Ex.refl H) _ fun H1 e1 => ⟨st, wide, rfl, hs.mono e1, w6, w9, fun p a b zs us xss H' np na nb hs' x' hp hk hB => q p a b zs us xss H' (fresh_back e1 np) (fresh_back e1 na) (fresh_back e1 nb) hs' ((ExS.of e1).trans x') hp hk hB⟩⟩
theorem ev_min2 {i j : Int} (ha : Ev ta σ H (.int i)) (hb : Ev tb σ H (.int j)) : Ev (tCB (fun xs H Q => ∃ i j, xs = [V.int i, V.int j] ∧ Q (.int (if j < i then j else i)) H) (tCons ta (tCons tb tNil))) σ H (.int (if j < i then j else i)) := fun H1 e Q q =>
  ha H1 e _ fun H2 e2 => hb H2 (e.trans e2) _ fun H3 e3 => ⟨i, j, rfl, q H3 (e2.trans e3)⟩
theorem ev_intB {b : Bool} (h : Ev ta σ H (.bl b)) : Ev (tCB (fun xs H Q => (∃ i, xs = [V.int i] ∧ Q (.int i) H) ∨ ∃ k, xs = [V.bl k] ∧ Q (.int (if k = true then 1 else 0)) H) (tCons ta tNil)) σ H (.int (if b = true then 1 else 0)) := fun H1 e Q q =>
  h H1 e _ fun H2 e2 => .inr ⟨b, rfl, q H2 e2⟩
theorem Ex.updN {p : Addr} {o : HO} (e : Ex H H1) (n : H p = none) : Ex H (upd H1 p o) := fun b ob hb => by
  rw [upd_ne (ne_of_none hb n)]
  exact e _ _ hb
end
/-! ### C(..), f(a, k = v) -/
structure CalK (P : Program) (w : World) (K : PySem.W.Frag) (mg : Str → Option Value) (base : Heap) (k : Nat) (x : Str) (C : Addr) (ps : List Str) (sp : Sp) : Prop where
  ex : ∃ (f : Addr) (fd : FuncData), L2.Mk K C f ∧ FnOk P w K mg base CX0 k f fd ps sp ∧ Binds K fd ps []
  nm : mg x = some (.ref C)
theorem pe_calK {X : Cx} {j k : Nat} {x : Str} {C : Addr} {ps : List Str} {sp : Sp} {e : Expr} {es : List Expr} {t : TA} {p pos : Pos} (M : CalK X.prog X.w X.K X.mg X.base k x C ps sp) (hr : Room j X.A) (hk : k + 1 ≤ j) (hg : Gl X x)
    (ha : PA X (e :: es) t) (hdb : (x == ("__debug__" : Str)) = false := by decide) (he : starEach (e :: es) X.env = (false, eval e X.env) :: starEach es X.env := by rfl) (hpl : (backTo pos (starEach es X.env)).any (·.1) = false := by rfl) :
    PE X (.Call (.Name x p) (e :: es) [] pos) (tMake C sp [] E0 t) := by
  obtain ⟨f, fd, m, F, b⟩ := M.ex
  exact pe_make m F (hr.mono hk) hg M.nm b .nil pass0 ha hdb he hpl
structure CaN (P : Program) (w : World) (K : PySem.W.Frag) (mg : Str → Option Value) (base : Heap) (k : Nat) (x : Str) (ps : List Str) (n : Nat) (ks : List Str) (gV : List V → List V → List V) (sp : Sp) : Prop where
  ex : ∃ (f : Addr) (fd : FuncData) (g : List Value → List Value → List Value), FnOk P w K mg base CX0 k f fd ps sp ∧ mg x = some (.ref f) ∧ PySem.W.keepIn K (.ref f) = true ∧ KBn K fd ps n ks g gV
theorem pe_caN {X : Cx} {j k n : Nat} {x : Str} {ps ks : List Str} {gV : List V → List V → List V} {sp : Sp} {e : Expr} {es : List Expr} {kws : List Keyword} {t tk : TA} {p pos : Pos} (C : CaN X.prog X.w X.K X.mg X.base k x ps n ks gV sp) (hr : Room j X.A) (hk : k ≤ j) (hg : Gl X x)
    (ha : PA X (e :: es) t) (hkw : PK X kws tk) (hall : ((backToKw pos (keywordEach kws X.env)).all (·.1.isSome)) = true := by rfl) (hks : (backToKw pos (keywordEach kws X.env)).filterMap (·.1) = ks := by rfl) (hdb : (x == ("__debug__" : Str)) = false := by decide)
    (he : starEach (e :: es) X.env = (false, eval e X.env) :: starEach es X.env := by rfl) (hpl : ((backTo pos (starEach (e :: es) X.env)).any (·.1) || (backToKw pos (keywordEach kws X.env)).any (·.1.isNone)) = false := by rfl) :
    PE X (.Call (.Name x p) (e :: es) kws pos) (tCallN n ks.length sp gV E0 t tk) := by
  obtain ⟨f, fd, g, F, hm, kp, b⟩ := C.ex
  exact pe_callN F (hr.mono hk) hg hm kp b pass0 ha hkw hall hks hdb he hpl
end NF

namespace NF
open PySem PySem.Spec PyProof.Rows L2 Evl
def topS (i : Nat) : Stmt := PySem.Challenge.pw_neartwins_k08_where_it_goes.main.body.getD i (.Pass ⟨0, 0, 0, 0⟩)
abbrev s_greatest_divisor : Stmt := topS 10
theorem sc_greatest_divisor : FnScope ["one", "other"] ["one", "other"] (defScope s_greatest_divisor) := ⟨rfl, rfl, rfl, by decide +kernel, rfl, by decide +kernel, by decide +kernel⟩
abbrev s_reduced : Stmt := topS 12
theorem sc_reduced : FnScope ["top", "bottom", "divisor"] ["top", "bottom"] (defScope s_reduced) := ⟨rfl, rfl, rfl, by decide +kernel, rfl, by decide +kernel, by decide +kernel⟩
abbrev s_plus : Stmt := topS 13
theorem sc_plus : FnScope ["one", "other"] ["one", "other"] (defScope s_plus) := ⟨rfl, rfl, rfl, by decide +kernel, rfl, by decide +kernel, by decide +kernel⟩
abbrev s_times : Stmt := topS 14
theorem sc_times : FnScope ["one", "other"] ["one", "other"] (defScope s_times) := ⟨rfl, rfl, rfl, by decide +kernel, rfl, by decide +kernel, by decide +kernel⟩
section
variable {P : Program} {w : World} {K : PySem.W.Frag} {mg : Str → Option Value} {base : Heap} {f : Addr} {fd : FuncData}
theorem ok_gcd (F : Fun K "greatest_divisor" "greatest_divisor" s_greatest_divisor f fd) (n_abs : mg "abs" = none) : FnOk P w K mg base CX0 1 f fd ["one", "other"] spGcd := by
  refine F.ok sc_greatest_divisor (fun vs H Q E h => ?_) (fun cdv A outer s H vs Q E hr h => ?_)
  · obtain ⟨a, b, rfl, _⟩ := h
    rfl
  · obtain ⟨a, b, rfl, q⟩ := h
    refine ⟨_, (pss_cons (ps_while PassesOwn.never (pt_cmpR op_ne (pv 1) pe_int (nomark _)) (pss_one (ps_par (i := 0) (j := 1) (by rfl) sc_greatest_divisor.nd rfl rfl (by decide) rfl rfl (pa_cons (pv 1) (pa_cons (pe_op op_modN (pv 0) (pv 1)) pa_nil)) (by rfl))))
      (pss_one (ps_ret (pe_callB call_abs (by rfl) n_abs PyProof.Rows.boot_abs (pa_cons (pv 0) pa_nil))))), ?_⟩
    refine q_while (fun m σ' H' => ∃ c d : Int, σ' = [some (.int c), some (.int d)] ∧ d.natAbs = m ∧ Int.gcd c d = Int.gcd a b ∧ Ex H H') b.natAbs ⟨a, b, rfl, rfl, rfl, Ex.refl H⟩ ?_
    rintro m σ' H' ⟨c, d, rfl, rfl, eg, ex⟩
    refine ⟨_, et_test (ev_op (ev_var rfl) ev_c (rv_ne rfl)), fun hb H1 e1 => ?_, fun hb H1 e1 => ?_⟩
    · have hd : d ≠ 0 := by
        intro z
        subst z
        simp at hb
      obtain ⟨g1, g2⟩ := gcd_step (a := c) hd
      refine ⟨fun σ2 H2 => ∃ c' d' : Int, σ2 = [some (.int c'), some (.int d')] ∧ d'.natAbs < d.natAbs ∧ Int.gcd c' d' = Int.gcd a b ∧ Ex H H2, ?_, ?_⟩
      · rintro σ2 H2 ⟨c', d', e, l, g, x⟩
        exact ⟨_, l, c', d', e, rfl, g, x⟩
      · exact s_par (ea_cons (ev_var rfl) (ea_cons (ev_op (ev_var rfl) (ev_var rfl) (rv_I hd)) ea_nil)) fun H2 e2 => ⟨d, c.fmod d, rfl, g2, by rw [g1, eg], (ex.trans e1).trans e2⟩
    · have hd : d = 0 := by
        by_cases z : d = 0
        · exact z
        · simp [z] at hb
      subst hd
      have ea : RC (fun xs H Q => ∃ i, xs = [V.int i] ∧ Q (V.int (if i < 0 then -i else i)) H) [V.int c] H1 (V.int (if c < 0 then -c else c)) := fun H1 _ Q' q' => ⟨c, rfl, q' H1 (Ex.refl H1)⟩
      refine s_ret (v := .int (Int.gcd a b)) (ev_is (ev_cb (ea_cons (ev_var rfl) ea_nil) ea) ?_) fun H2 e2 => q H2 ((ex.trans e1).trans e2)
      rw [← eg, Int.gcd_zero_right]
      congr 1
      split <;> omega
theorem ok_red (F : Fun K "reduced" "reduced" s_reduced f fd) (C_greatest_divisor : Cal P w K mg base 1 "greatest_divisor" ["one", "other"] [] spGcd) : FnOk P w K mg base CX0 2 f fd ["top", "bottom"] (spRed K) := by
  refine F.ok sc_reduced (fun vs H Q E h => ?_) (fun cdv A outer s H vs Q E hr h => ?_)
  · obtain ⟨a, b, _, rfl, _⟩ := h
    rfl
  · obtain ⟨a, b, B, rfl, hb0, ha, hb, hB0, hB, q⟩ := h
    refine ⟨_, (pss_cons (ps_set (i := 2) sc_reduced.nd rfl (.inl rfl) (pe_cal C_greatest_divisor hr (by decide) (by rfl) (pa_cons (pv 0) (pa_cons (pv 1) pa_nil))))
      (pss_cons (ps_if (pt_cmpR op_lt (pv 1) pe_int (nomark _)) (pss_one (ps_set (i := 2) sc_reduced.nd rfl (.inl rfl) (pe_un un_neg (pv 2)))) pss_nil)
      (pss_one (ps_ret (pe_tup (pa_cons (pe_op op_fdivX (pv 0) (pv 2)) (pa_cons (pe_op op_fdivX (pv 1) (pv 2)) pa_nil))))))), ?_⟩
    have hg : 0 < Int.gcd a b := Int.gcd_pos_of_ne_zero_right _ hb0
    have hgb : ((Int.gcd a b : Nat) : Int).natAbs < 2 ^ B := by
      have h1 : Int.gcd a b ≤ b.natAbs := Nat.le_of_dvd (by omega) (Int.gcd_dvd_natAbs_right a b)
      omega
    refine q_asg (ev_gcd (ev_var rfl) (ev_var rfl)) fun H1 e1 => ?_
    refine q_ifAsg (v := .int (if b < 0 then -(Int.gcd a b : Int) else Int.gcd a b)) (et_test (ev_op (ev_var rfl) ev_c rv_I0)) (fun hb => ?_) (fun hb => ?_) fun H2 e2 => ?_
    · have hl : b < 0 := of_decide_eq_true hb
      rw [if_pos hl]
      exact ev_un (ev_var rfl) ru_neg
    · have hl : ¬ b < 0 := of_decide_eq_false hb
      rw [if_neg hl]
      rfl
    · have hd0 : (if b < 0 then -(Int.gcd a b : Int) else Int.gcd a b) ≠ 0 := by split <;> omega
      have hdb : (if b < 0 then -(Int.gcd a b : Int) else Int.gcd a b).natAbs < 2 ^ B := by split <;> omega
      refine s_retU (eu_tup (ea_cons (ev_op (ev_var rfl) (ev_var rfl) (rv_I (divX hd0 hdb hB0 hB))) (ea_cons (ev_op (ev_var rfl) (ev_var rfl) (rv_I (divX hd0 hdb hB0 hB))) ea_nil)) (by show 2 ≤ 100000; decide)) fun p H3 _ e3 hp => ?_
      refine q _ _ ((e1.trans e2).trans e3) (Rt.of hp ?_ ?_)
      · by_cases hl : b < 0
        · rw [if_pos hl]
          exact (red_neg hl).1
        · rw [if_neg hl]
          exact (red_pos (by omega)).1
      · by_cases hl : b < 0
        · rw [if_pos hl]
          exact (red_neg hl).2
        · rw [if_neg hl]
          exact (red_pos (by omega)).2
theorem ok_plus (F : Fun K "plus" "plus" s_plus f fd) (C_reduced : Cal P w K mg base 2 "reduced" ["top", "bottom"] [] (spRed K)) : FnOk P w K mg base CX0 3 f fd ["one", "other"] (sp2 K (fun _ _ => True) (· + ·)) := by
  refine F.ok sc_plus (fun vs H Q E h => ?_) (fun cdv A outer s H vs Q E hr h => ?_)
  · obtain ⟨_, _, _, _, _, rfl, _⟩ := h
    rfl
  · obtain ⟨v, w, x, y, B, rfl, rx, ry, _, sx, sy, h0, hB, q⟩ := h
    refine ⟨_, (pss_one (ps_ret (pe_cal C_reduced hr (by decide) (by rfl) (pa_cons (pe_op op_add (pe_op op_mulW (pe_ix ix_tup (pv 0) pe_int (fun _ _ => rfl)) (pe_ix ix_tup (pv 1) pe_int (fun _ _ => rfl))) (pe_op op_mulW (pe_ix ix_tup (pv 1) pe_int (fun _ _ => rfl)) (pe_ix ix_tup (pv 0) pe_int (fun _ _ => rfl)))) (pa_cons (pe_op op_mulW (pe_ix ix_tup (pv 0) pe_int (fun _ _ => rfl)) (pe_ix ix_tup (pv 1) pe_int (fun _ _ => rfl))) pa_nil))))), ?_⟩
    have m1 := rv_I (H := H) (g := fun i j => V.int (i * j)) (wide_mul sx.num sy.den h0 h0 (by omega))
    have m2 := rv_I (H := H) (g := fun i j => V.int (i * j)) (wide_mul sy.num sx.den h0 h0 (by omega))
    have m3 := rv_I (H := H) (g := fun i j => V.int (i * j)) (wide_mul sx.den sy.den h0 h0 (by omega))
    have a1 : EvF K (tVar 0) (start ["one", "other"] [v, w]) H x := ef_var rfl rx
    have a2 : EvF K (tVar 1) (start ["one", "other"] [v, w]) H y := ef_var rfl ry
    refine s_retF (EvF.to (ef_red (B := 2 * B + 1) (ev_op (ev_op (ev_ix0 a1) (ev_ix1 a2) m1) (ev_op (ev_ix0 a2) (ev_ix1 a1) m2) rv_I0) (ev_op (ev_ix1 a1) (ev_ix1 a2) m3) (den_mul0 x y)
      (bits_up (bits_add (bits_mul sx.num sy.den) (bits_mul sy.num sx.den)) (by omega)) (bits_up (bits_mul sx.den sy.den) (by omega)) (by omega) (by omega)) (add_rt x y).symm) fun u H1 e1 r => q u H1 e1 r
theorem ok_times (F : Fun K "times" "times" s_times f fd) (C_reduced : Cal P w K mg base 2 "reduced" ["top", "bottom"] [] (spRed K)) : FnOk P w K mg base CX0 3 f fd ["one", "other"] (sp2 K (fun _ _ => True) (· * ·)) := by
  refine F.ok sc_times (fun vs H Q E h => ?_) (fun cdv A outer s H vs Q E hr h => ?_)
  · obtain ⟨_, _, _, _, _, rfl, _⟩ := h
    rfl
  · obtain ⟨v, w, x, y, B, rfl, rx, ry, _, sx, sy, h0, hB, q⟩ := h
    refine ⟨_, (pss_one (ps_ret (pe_cal C_reduced hr (by decide) (by rfl) (pa_cons (pe_op op_mulW (pe_ix ix_tup (pv 0) pe_int (fun _ _ => rfl)) (pe_ix ix_tup (pv 1) pe_int (fun _ _ => rfl))) (pa_cons (pe_op op_mulW (pe_ix ix_tup (pv 0) pe_int (fun _ _ => rfl)) (pe_ix ix_tup (pv 1) pe_int (fun _ _ => rfl))) pa_nil))))), ?_⟩
    have m1 := rv_I (H := H) (g := fun i j => V.int (i * j)) (wide_mul sx.num sy.num h0 h0 (by omega))
    have m3 := rv_I (H := H) (g := fun i j => V.int (i * j)) (wide_mul sx.den sy.den h0 h0 (by omega))
    have a1 : EvF K (tVar 0) (start ["one", "other"] [v, w]) H x := ef_var rfl rx
    have a2 : EvF K (tVar 1) (start ["one", "other"] [v, w]) H y := ef_var rfl ry
    refine s_retF (EvF.to (ef_red (B := 2 * B + 1) (ev_op (ev_ix0 a1) (ev_ix0 a2) m1) (ev_op (ev_ix1 a1) (ev_ix1 a2) m3) (den_mul0 x y)
      (bits_up (bits_mul sx.num sy.num) (by omega)) (bits_up (bits_mul sx.den sy.den) (by omega)) (by omega) (by omega)) (mul_rt x y).symm) fun u H1 e1 r => q u H1 e1 r
end
end NF

namespace NF
open PySem PySem.Spec PyProof.Rows L2 Evl
abbrev s_is_whole : Stmt := topS 8
theorem sc_is_whole : FnScope ["thing"] ["thing"] (defScope s_is_whole) := ⟨rfl, rfl, rfl, by decide +kernel, rfl, by decide +kernel, by decide +kernel⟩
abbrev s_is_fraction : Stmt := topS 11
theorem sc_is_fraction : FnScope ["thing", "top", "bottom"] ["thing"] (defScope s_is_fraction) := ⟨rfl, rfl, rfl, by decide +kernel, rfl, by decide +kernel, by decide +kernel⟩
abbrev s_total : Stmt := topS 15
theorem sc_total : FnScope ["some", "start", "result", "each"] ["some", "start"] (defScope s_total) := ⟨rfl, rfl, rfl, by decide +kernel, rfl, by decide +kernel, by decide +kernel⟩
section
variable {P : Program} {w : World} {K : PySem.W.Frag} {mg : Str → Option Value} {base : Heap} {f : Addr} {fd : FuncData}
theorem ok_whole (F : Fun K "is_whole" "is_whole" s_is_whole f fd) (n_isinstance : mg "isinstance" = none) (n_int : mg "int" = none) (n_bool : mg "bool" = none) : FnOk P w K mg base CX0 1 f fd ["thing"] (spWhole K) := by
  refine F.ok sc_is_whole (fun vs H Q E h => ?_) (fun cdv A outer s H vs Q E hr h => ?_)
  · obtain ⟨_, _, _, _, rfl, _⟩ := h
    rfl
  · obtain ⟨v, t, b1, b2, rfl, ty, k1, k2, q⟩ := h
    refine ⟨_, (pss_one (ps_ret (pe_and (pe_callB call_isi (by rfl) n_isinstance PyProof.Rows.boot_isinstance (pa_cons (pv 0) (pa_cons (c_ty (n := "int") n_int (by rfl) (by decide +kernel) (by decide)) pa_nil))) (pe_one (pe_not (pe_callB call_isi (by rfl) n_isinstance PyProof.Rows.boot_isinstance (pa_cons (pv 0) (pa_cons (c_ty (n := "bool") n_bool (by rfl) (by decide +kernel) (by decide)) pa_nil)))))))), ?_⟩
    exact s_ret (ev_andV (ev_isi (ev_var rfl) ty k1) fun _ => ev_notV (ev_isi (ev_var rfl) ty k2)) q
theorem ok_isF (F : Fun K "is_fraction" "is_fraction" s_is_fraction f fd) (n_isinstance : mg "isinstance" = none) (n_tuple : mg "tuple" = none) (n_len : mg "len" = none) (C_is_whole : Cal P w K mg base 1 "is_whole" ["thing"] [] (spWhole K))
    (C_greatest_divisor : Cal P w K mg base 1 "greatest_divisor" ["one", "other"] [] spGcd) : FnOk P w K mg base CX0 2 f fd ["thing"] (spIsF K) := by
  refine F.ok sc_is_fraction (fun vs H Q E h => ?_) (fun cdv A outer s H vs Q E hr h => ?_)
  · obtain ⟨_, _, rfl, _⟩ := h
    rfl
  · obtain ⟨v, x, rfl, ⟨p, rfl, hp⟩, q⟩ := h
    refine ⟨_, (pss_cons (ps_if (PW.pt (pw_or (pt_not (pt_val (pe_callB call_isi (by rfl) n_isinstance PyProof.Rows.boot_isinstance (pa_cons (pv 0) (pa_cons (c_ty (n := "tuple") n_tuple (by rfl) (by decide +kernel) (by decide)) pa_nil))))) (pw_or1 (pt_cmpR op_ne (pe_callB call_len_seq (by rfl) n_len PySem.boot_len (pa_cons (pv 0) pa_nil)) pe_int (nomark _))))) (pss_one (ps_ret pe_bl)) pss_nil)
      (pss_cons (ps_asg (pv 0) (pg_tup rfl (pgs_cons (pg_name (i := 1) sc_is_fraction.nd rfl (.inl rfl)) (pgs_cons (pg_name (i := 2) sc_is_fraction.nd rfl (.inl rfl)) pgs_nil))))
      (pss_cons (ps_if (PW.pt (pw_or (pt_not (pt_val (pe_cal C_is_whole hr (by decide) (by rfl) (pa_cons (pv 1) pa_nil)))) (pw_or (pt_not (pt_val (pe_cal C_is_whole hr (by decide) (by rfl) (pa_cons (pv 2) pa_nil)))) (pw_or1 (pt_cmpR op_lt (pv 2) pe_int (nomark _)))))) (pss_one (ps_ret pe_bl)) pss_nil)
      (pss_one (ps_ret (pe_cmpR op_eq (pe_cal C_greatest_divisor hr (by decide) (by rfl) (pa_cons (pv 1) (pa_cons (pv 2) pa_nil))) pe_int (nomark _))))))), ?_⟩
    have el : RC (fun xs H Q => ∃ p ys, xs = [V.ref p] ∧ (SqL K H p ys ∨ SqT K H p ys) ∧ Q (.int ys.length) H) [V.ref p] H (.int 2) := fun H1 e Q' q' => ⟨p, _, rfl, .inr (ex_t e hp), q' H1 (Ex.refl H1)⟩
    refine q_when (et_or (et_not (et_B (ev_isi (ev_var rfl) (ty_tup hp) kit_tt))) fun _ => et_test (ev_op (ev_cb (ea_cons (ev_var rfl) ea_nil) el) ev_c (rv_ne rfl))) (fun hb => ?_) fun _ H1 e1 => ?_
    · simp at hb
    · refine ⟨.ref p, rfl, p, _, rfl, ex_t e1 hp, rfl, _, _, rfl, _, _, rfl, rfl, ?_⟩
      refine q_when (et_or (et_not (et_B (ev_wholeI (ev_var rfl)))) fun _ => et_or (et_not (et_B (ev_wholeI (ev_var rfl)))) fun _ => et_test (ev_op (ev_var rfl) ev_c rv_I0)) (fun hb => ?_) fun _ H2 e2 => ?_
      · have := denp x
        simp at hb
        omega
      · refine s_ret (ev_is (ev_op (ev_gcd (ev_var rfl) (ev_var rfl)) ev_c (rv_eq rfl)) ?_) fun H3 e3 => q H3 ((e1.trans e2).trans e3)
        rw [cop x]
        rfl
theorem ok_total {dvs : List V} {aN : Addr} (F : FunD K "total" "total" (defArgs s_total) (defBody s_total) (defScope s_total) dvs [] f fd) (m_NOUGHT : mg "NOUGHT" = some (.ref aN)) (hN : ∀ H, SqT K H aN [.int 0, .int 1])
    (C_plus : Cal P w K mg base 3 "plus" ["one", "other"] [] (sp2 K (fun _ _ => True) (· + ·))) : FnOk P w K mg base CX0 4 f fd ["some", "start"] (spTot K) := by
  refine F.ok sc_total (fun vs H Q E h => ?_) (fun cdv A outer s H vs Q E hr h => ?_)
  · obtain ⟨_, _, _, _, _, _, rfl, _⟩ := h
    rfl
  · obtain ⟨a, us, xs, w, x0, B, rfl, ha, hx, hw, s0, hs, hB, q⟩ := h
    refine ⟨_, PSs.nox ((pss_cons (ps_set (i := 2) sc_total.nd rfl (.inl rfl) (pe_ifExp (pt_cmpR op_isN (pv 1) pe_non (nomark _)) (pe_glob (v := .ref aN) (by rfl) m_NOUGHT rfl) (pv 1)))
      (pss_cons (ps_for PassesOwn.never rfl (pi_list (pv 0)) (pg_name (i := 3) sc_total.nd rfl (.inl rfl)) (pss_one (ps_set (i := 2) sc_total.nd rfl (.inl rfl) (pe_cal C_plus hr (by decide) (by rfl) (pa_cons (pv 2) (pa_cons (pv 3) pa_nil))))))
      (pss_one (ps_ret (pv 2)))))), ?_⟩
    have en : EvF K (tC (.ref aN)) (start ["some", "start", "result", "each"] [.ref a, w]) H 0 := fun H1 e Q q => q _ H1 (Ex.refl H1) ⟨aN, rfl, hN H1⟩
    have hf : EvF K (tIf (tTest (tOp (fun x y H Q => y = .non ∧ Q (.bl (decide (x = .non))) H) (tVar 1) (tC .non))) (tC (.ref aN)) (tVar 1)) (start ["some", "start", "result", "each"] [.ref a, w]) H x0 := by
      refine ef_if (b := decide (w = .non)) (et_test (ev_op (ev_var rfl) ev_c fun H1 _ _ q => ⟨rfl, q H1 (Ex.refl H1)⟩)) (fun hb => ?_) (fun hb => ?_)
      · rcases hw with ⟨_, e0⟩ | ⟨p, e, _⟩
        · subst e0
          exact en
        · rw [of_decide_eq_true hb] at e
          cases e
      · rcases hw with ⟨e, _⟩ | hw
        · exact absurd e (of_decide_eq_false hb)
        · exact ef_var rfl hw
    refine q_asgF hf fun u H1 e1 ru => ?_
    refine q_forLn (xs := us) (ev_var rfl) (ex_l e1 ha) (fun i σ' H' => ∃ v y, σ' = [some (.ref a), some w, some v, y] ∧ Ex H H' ∧ Rt K H' v (sumF x0 (xs.take i))) (fun H2 e2 => ⟨u, none, rfl, e1.trans e2, ru.mono e2⟩) ?_ ?_ ?_
    · rintro i σ' H' _ ⟨v, y, rfl, e, _⟩
      exact ex_l e ha
    · rintro i x σ' H' hi ⟨v, y, rfl, e, r⟩
      obtain ⟨z, hz, rz⟩ := (hx.mono e).get hi
      have hl : i < xs.length := (List.getElem?_eq_some_iff.mp hz).1
      have hm : z ∈ xs := List.mem_of_getElem? hz
      have hb1 : (i + 1) * (B + 1) ≤ (xs.length + 2) * (B + 1) := Nat.mul_le_mul_right _ (by omega)
      have hb2 : B + 1 ≤ (i + 1) * (B + 1) := Nat.le_mul_of_pos_left _ (by omega)
      refine s_asgF (K := K) (x := sumF x0 (xs.take i) + z) (ef_2 (f := (· + ·)) (B := (i + 1) * (B + 1)) (ef_var rfl r) (ef_var rfl rz) True.intro (sz_sum s0 hs i (by omega)) ((hs z hm).mono (by omega)) (by omega) (by omega)) fun u2 H2 e2 r2 => ?_
      refine ⟨u2, some x, rfl, e.trans e2, ?_⟩
      rw [sumF_take hz]
      exact r2
    · rintro σ' H' ⟨v, y, rfl, e, r⟩
      rw [hx.length, List.take_length] at r
      exact s_ret (ev_var rfl) fun H2 e2 => q v H2 (e.trans e2) (r.mono e2)
end
end NF

namespace NF
open PySem PySem.Spec PyProof.Rows L2 Evl
abbrev s_is_mark : Stmt := topS 23
theorem sc_is_mark : FnScope ["thing", "sign"] ["thing"] (defScope s_is_mark) := ⟨rfl, rfl, rfl, by decide +kernel, rfl, by decide +kernel, by decide +kernel⟩
abbrev s_is_share : Stmt := topS 24
theorem sc_is_share : FnScope ["thing"] ["thing"] (defScope s_is_share) := ⟨rfl, rfl, rfl, by decide +kernel, rfl, by decide +kernel, by decide +kernel⟩
abbrev s_are_room_shares : Stmt := topS 25
theorem sc_are_room_shares : FnScope ["many", "thing", "each"] ["many", "thing"] (defScope s_are_room_shares) := ⟨rfl, rfl, rfl, by decide +kernel, rfl, by decide +kernel, by decide +kernel⟩
abbrev s_check_marks : Stmt := topS 26
theorem sc_check_marks : FnScope ["marks", "number", "mark"] ["marks"] (defScope s_check_marks) := ⟨rfl, rfl, rfl, by decide +kernel, rfl, by decide +kernel, by decide +kernel⟩
abbrev s_check_shares : Stmt := topS 27
theorem sc_check_shares : FnScope ["many", "shares", "number", "row"] ["many", "shares"] (defScope s_check_shares) := ⟨rfl, rfl, rfl, by decide +kernel, rfl, by decide +kernel, by decide +kernel⟩
section
variable {K : PySem.W.Frag} {H H1 H2 : Hp} {σ : L2.St} {ta tb tc td te tl : TE} {t : TT} {v w u : V} {x y z : Rat} {E : XK} {D : Ends} {tu tz : TS} {B : Nat}
theorem s_forEn {a : Addr} {us : List V} {j1 j2 : Nat} {S : L2.St → Prop} (h : Ev tl σ H (.ref a)) (ha : SqL K H a us) (hS : S σ)
    (hs : ∀ (i : Nat) x σ' H', us[i]? = some x → S σ' → Ex H H' → tu { D with nx := fun σ2 H2 => S σ2 ∧ Ex H H2, ct := fun σ2 H2 => S σ2 ∧ Ex H H2, bk := D.nx } ((σ'.set j1 (some (.int (i : Int)))).set j2 (some x)) H') (hd : ∀ σ' H', S σ' → Ex H H' → D.nx σ' H') :
    tFor (iEnum K (tCons tl tNil)) (gTup K 2 (gCons (gName j1) (gCons (gName j2) gNil))) tu D σ H := h H (Ex.refl H) _ fun H1 e1 => by
  refine ⟨a, us, rfl, ex_l e1 ha, fun i m σ' G => m = us.length - i ∧ i ≤ us.length ∧ S σ' ∧ Ex H G, ⟨_, rfl, Nat.zero_le _, hS, e1⟩, ?_⟩
  rintro i m σ' G ⟨rfl, hi, s, e⟩
  by_cases hlt : i < us.length
  · refine .inr ⟨⟨us, us[i], ex_l e ha, List.getElem?_eq_getElem hlt⟩, fun σ2 H2 => S σ2 ∧ Ex H H2, fun σ2 H2 z => ⟨us.length - (i + 1), by omega, rfl, hlt, z.1, z.2⟩, ?_⟩
    rintro v G' ⟨T, y, rfl, nT, rfl, fy⟩
    exact ⟨T, _, rfl, SqT.of upd_same, rfl, _, _, rfl, _, _, rfl, rfl, hs i y σ' _ (fy us (ex_l e ha)) s (e.trans (Ex.new nT))⟩
  · exact .inl ⟨⟨us, ex_l e ha, by omega⟩, hd σ' G s e⟩
theorem ty_lst {p : Addr} {xs : List V} (h : SqL K H p xs) : TyX K H (.ref p) (.type "list") := by
  rcases h with (h | ⟨o, h⟩) | ⟨o, its, n, e, c, _⟩
  · exact .base (.lst h)
  · exact .base (.frz h)
  · exact .kList e c
theorem ev_isFr (h : EvF K ta σ H x) : Ev (tCall (spIsF K) [] E (tCons ta tNil)) σ H (.bl true) := fun H1 e Q q =>
  h H1 e _ fun v H2 e2 r => ⟨v, x, rfl, r, fun H' e3 => q H' (e2.trans e3)⟩
theorem ev_share (h : EvF K ta σ H x) (hx : Shr x) : Ev (tCall (spShare K) [] E (tCons ta tNil)) σ H (.bl true) := fun H1 e Q q =>
  h H1 e _ fun v H2 e2 r => ⟨v, x, rfl, r, hx, fun H' e3 => q H' (e2.trans e3)⟩
theorem ev_mark {s : Str} (h : Ev ta σ H (.str s)) (hs : Mk s) : Ev (tCall (spMark K) [] E (tCons ta tNil)) σ H (.bl true) := fun H1 e Q q =>
  h H1 e _ fun H2 e2 => ⟨s, rfl, hs, fun H' e3 => q H' (e2.trans e3)⟩
theorem ev_room {a : Addr} {us : List V} {xs : List Rat} {n : Nat} (h1 : Ev ta σ H (.int (n : Int))) (h2 : Ev tb σ H (.ref a)) (ha : SqL K H a us) (hr : RtAll K H us xs) (hs : Shs xs n) (hn : n ≤ 6) : Ev (tCall (spRoom K) [] E (tCons ta (tCons tb tNil))) σ H (.bl true) := fun H1 e Q q =>
  h1 H1 e _ fun H2 e2 => h2 H2 (e.trans e2) _ fun H3 e3 => ⟨a, us, xs, n, rfl, ex_l ((e.trans e2).trans e3) ha, hr.mono ((e.trans e2).trans e3), hs, hn, fun H' e4 => q H' ((e2.trans e3).trans e4)⟩
theorem ef_tot1 {us : List V} {xs : List Rat} {a : Addr} (h : Ev tl σ H (.ref a)) (ha : SqL K H a us) (hx : RtAll K H us xs) (hs : ∀ x ∈ xs, Sz B x) (hB : (xs.length + 2) * (B + 1) ≤ 4000) (h0 : 0 < B) : EvF K (tCall (spTot K) [.non] E (tCons tl tNil)) σ H (sumF 0 xs) := fun H1 e Q q =>
  h H1 e _ fun H2 e2 => ⟨a, us, xs, .non, 0, B, rfl, ex_l (e.trans e2) ha, hx.mono (e.trans e2), .inl ⟨rfl, rfl⟩, ⟨Nat.pow_pos (by decide), by show 1 < 2 ^ B; exact Nat.one_lt_two_pow (by omega)⟩, hs, hB, fun u H' e3 r => q u H' (e2.trans e3) r⟩
theorem le_sign {c : Nat} (h : 97 ≤ c ∧ c ≤ 122) : (!decide ([c] < (Str.ofString "a").cps.toList)) = true ∧ (!decide ((Str.ofString "z").cps.toList < [c])) = true := by
  have ea : (Str.ofString "a").cps.toList = [97] := by decide +kernel
  have ez : (Str.ofString "z").cps.toList = [122] := by decide +kernel
  rw [ea, ez]
  have h1 : ¬ c < 97 := by omega
  have h2 : ¬ 122 < c := by omega
  constructor
  · simp [List.cons_lt_cons_iff, h1]
  · simp [List.cons_lt_cons_iff, h2]
end
section
variable {P : Program} {w : World} {K : PySem.W.Frag} {mg : Str → Option Value} {base : Heap} {f : Addr} {fd : FuncData}
theorem ok_mark (F : Fun K "is_mark" "is_mark" s_is_mark f fd) (n_isinstance : mg "isinstance" = none) (n_str : mg "str" = none) (n_len : mg "len" = none) (n_all : mg "all" = none) {tk : Tok} (m_LONGEST_MARK : mg "LONGEST_MARK" = some (.int 4 tk)) : FnOk P w K mg base CX0 1 f fd ["thing"] (spMark K) := by
  refine F.ok sc_is_mark (fun vs H Q E h => ?_) (fun cdv A outer s H vs Q E hr h => ?_)
  · obtain ⟨_, rfl, _⟩ := h
    rfl
  · obtain ⟨s0, rfl, ⟨h1, h4, hc⟩, q⟩ := h
    refine ⟨_, (pss_cons (ps_if (PW.pt (pw_or (pt_not (pt_val (pe_callB call_isi (by rfl) n_isinstance PyProof.Rows.boot_isinstance (pa_cons (pv 0) (pa_cons (c_ty (n := "str") n_str (by rfl) (by decide +kernel) (by decide)) pa_nil))))) (pw_or1 (pt_not (pt_chain op_le op_le pe_int (pe_callB call_len_str (by rfl) n_len PySem.boot_len (pa_cons (pv 0) pa_nil)) (pe_glob (v := .int 4) (by rfl) m_LONGEST_MARK ⟨_, rfl⟩)))))) (pss_one (ps_ret pe_bl)) pss_nil)
      (pss_one (ps_ret (pe_callB (cr_all rfl) (by rfl) n_all PyProof.Rows.boot_all (pa_cons (pe_lc (own := [("sign", 1)]) (by rfl) sc_is_mark.nd (pi_str (pv 0)) (blkOk_by (own := [("sign", 1)]) (N := ["thing", "sign"]) (sc := defScope s_is_mark) (by decide +kernel)) (fun _ _ _ _ _ => (pg_name (i := 1) sc_is_mark.nd rfl (.inl rfl))) (fun _ _ _ _ _ => pts_nil) (fun _ _ _ _ _ => (pe_chain op_le_str op_le_str pe_str (pv 1) pe_str))) pa_nil))))), ?_⟩
    have el : RC (fun xs H Q => ∃ z, xs = [V.str z] ∧ z.length ≤ sizeLine ∧ Q (.int z.length) H) [V.str s0] H (.int s0.cps.size) := fun H1 _ Q' q' => ⟨s0, rfl, sz_of (by show s0.cps.size ≤ 100000; omega), q' H1 (Ex.refl H1)⟩
    refine q_when (b := false) (et_is (et_or (et_not (et_B (ev_isi (ev_var rfl) (.base (.str s0)) (show kitB "str" "str" = some true by decide +kernel)))) fun _ => et_not (et_test (ev_chain (k := true) (k2 := true) ev_c (ev_cb (ea_cons (ev_var rfl) ea_nil) el) ?c1 (fun _ => ev_c) fun _ => ?c2))) rfl) nofun fun _ H1 e1 => ?_
    case c1 =>
      have : decide ((1 : Int) ≤ s0.cps.size) = true := decide_eq_true (by omega)
      have z := rv_I0 (H := H) (g := fun i j => V.bl (decide (i ≤ j))) (i := 1) (j := s0.cps.size)
      rw [this] at z
      exact z
    case c2 =>
      have : decide ((s0.cps.size : Int) ≤ 4) = true := decide_eq_true (by omega)
      have z := rv_I0 (H := H) (g := fun i j => V.bl (decide (i ≤ j))) (i := s0.cps.size) (j := 4)
      rw [this] at z
      exact z
    refine s_ret (ev_allT (n := s0.cps.size) (el_lcS (fun _ => true) (fun _ => .bl true) (ev_var rfl) (by omega) (fun _ => rfl) (fun i c H2 e2 hi => fun H3 e3 Q' q' => q' H3 (Ex.refl H3)) fun i c H2 e2 hi _ => ?_)) fun H2 e2 => q H2 (e1.trans e2)
    have hm : c ∈ s0.cps.toList := by
      rw [Array.mem_toList_iff]
      exact Array.mem_of_getElem? hi
    obtain ⟨l1, l2⟩ := le_sign (hc c hm)
    exact ev_chain (k := true) (k2 := true) ev_c (ev_var rfl) (fun H3 _ Q' q' => ⟨_, _, rfl, rfl, by show Q' (.bl (!decide ([c] < _))) H3; rw [l1]; exact q' H3 (Ex.refl H3)⟩) (fun _ => ev_c) fun _ H3 _ Q' q' => ⟨_, _, rfl, rfl, by show Q' (.bl (!decide (_ < [c]))) H3; rw [l2]; exact q' H3 (Ex.refl H3)⟩
theorem ok_share (F : Fun K "is_share" "is_share" s_is_share f fd) (C_is_fraction : Cal P w K mg base 2 "is_fraction" ["thing"] [] (spIsF K)) {tk : Tok} (m_GREATEST_BOTTOM : mg "GREATEST_BOTTOM" = some (.int 999 tk)) : FnOk P w K mg base CX0 3 f fd ["thing"] (spShare K) := by
  refine F.ok sc_is_share (fun vs H Q E h => ?_) (fun cdv A outer s H vs Q E hr h => ?_)
  · obtain ⟨_, _, rfl, _⟩ := h
    rfl
  · obtain ⟨v, x, rfl, rx, ⟨h1, h2, h3⟩, q⟩ := h
    refine ⟨_, (pss_one (ps_ret (pe_and (pe_cal C_is_fraction hr (by decide) (by rfl) (pa_cons (pv 0) pa_nil)) (pe_one (pe_chain3 op_le op_le op_le pe_int (pe_ix ix_tup (pv 0) pe_int (fun _ _ => rfl)) (pe_ix ix_tup (pv 0) pe_int (fun _ _ => rfl)) (pe_glob (v := .int 999) (by rfl) m_GREATEST_BOTTOM ⟨_, rfl⟩)))))), ?_⟩
    have le : ∀ {i j : Int}, i ≤ j → RV (rI0 fun i j => V.bl (decide (i ≤ j))) (.int i) (.int j) H (.bl true) := fun {i j} hij => by
      have z := rv_I0 (H := H) (g := fun i j => V.bl (decide (i ≤ j))) (i := i) (j := j)
      rw [decide_eq_true hij] at z
      exact z
    refine s_ret (ev_is (w := .bl true) (ev_andV (ev_isFr (ef_var (K := K) rfl rx)) fun _ => ev_chain3 ev_c (ev_ix0 (ef_var (K := K) rfl rx)) (le h1) (ev_ix1 (ef_var (K := K) rfl rx)) (le h2) ev_c (le (by omega))) rfl) q
theorem ok_room {aO : Addr} (F : Fun K "are_room_shares" "are_room_shares" s_are_room_shares f fd) (n_isinstance : mg "isinstance" = none) (n_list : mg "list" = none) (n_len : mg "len" = none) (n_all : mg "all" = none) (C_is_share : Cal P w K mg base 3 "is_share" ["thing"] [] (spShare K)) (C_total1 : Cal P w K mg base 4 "total" ["some", "start"] [.non] (spTot K))
    (m_ONE : mg "ONE" = some (.ref aO)) (hO : ∀ H, SqT K H aO [.int 1, .int 1]) : FnOk P w K mg base CX0 5 f fd ["many", "thing"] (spRoom K) := by
  refine F.ok sc_are_room_shares (fun vs H Q E h => ?_) (fun cdv A outer s H vs Q E hr h => ?_)
  · obtain ⟨_, _, _, _, rfl, _⟩ := h
    rfl
  · obtain ⟨a, us, xs, n, rfl, ha, hx, ⟨hl, hs, h1⟩, hn, q⟩ := h
    refine ⟨_, (pss_cons (ps_if (PW.pt (pw_or (pt_not (pt_val (pe_callB call_isi (by rfl) n_isinstance PyProof.Rows.boot_isinstance (pa_cons (pv 1) (pa_cons (c_ty (n := "list") n_list (by rfl) (by decide +kernel) (by decide)) pa_nil))))) (pw_or1 (pt_cmpR op_ne (pe_callB call_len_seq (by rfl) n_len PySem.boot_len (pa_cons (pv 1) pa_nil)) (pv 0) (nomark _))))) (pss_one (ps_ret pe_bl)) pss_nil)
      (pss_one (ps_ret (pe_and (pe_callB (cr_all rfl) (by rfl) n_all PyProof.Rows.boot_all (pa_cons (pe_lc (own := [("each", 2)]) (by rfl) sc_are_room_shares.nd (pi_list (pv 1)) (blkOk_by (own := [("each", 2)]) (N := ["many", "thing", "each"]) (sc := defScope s_are_room_shares) (by decide +kernel)) (fun _ _ _ _ _ => (pg_name (i := 2) sc_are_room_shares.nd rfl (.inl rfl))) (fun _ _ _ _ _ => pts_nil) (fun _ _ _ _ _ => (pe_cal C_is_share hr (by decide) (by rfl) (pa_cons (pv 2) pa_nil)))) pa_nil)) (pe_one (pe_cmpR (op_eqD hr.units) (pe_cal C_total1 hr (by decide) (by rfl) (pa_cons (pv 1) pa_nil)) (pe_glob (v := .ref aO) (by rfl) m_ONE rfl) (nomark _))))))), ?_⟩
    have lu : us.length = n := by rw [hx.length, hl]
    have hB : (xs.length + 2) * (10 + 1) ≤ 4000 := by
      have : (xs.length + 2) * (10 + 1) ≤ 8 * (10 + 1) := Nat.mul_le_mul_right _ (by omega)
      omega
    refine q_when (b := false) (et_is (et_or (et_not (et_B (ev_isi (ev_var rfl) (ty_lst ha) (show kitB "list" "list" = some true by decide +kernel)))) fun _ => et_test (ev_op (ev_len (ev_var rfl) ha) (ev_var rfl) (rv_ne rfl))) (by simp [lu])) nofun fun _ H1 e1 => ?_
    have eo : EvF K (tC (.ref aO)) [some (.int (n : Int)), some (.ref a), none] H1 1 := fun H2 e Q q => q _ H2 (Ex.refl H2) ⟨aO, rfl, hO H2⟩
    refine s_ret (ev_is (w := .bl true) (ev_andV (ev_allT (K := K) (n := us.length) (el_lcL (K := K) (fun _ => true) (fun _ => .bl true) (ev_var rfl) (ex_l e1 ha) (by omega) (fun _ => rfl) (fun i x H2 e2 hi => fun H3 e3 Q' q' => q' H3 (Ex.refl H3)) fun i x H2 e2 hi _ => ?_)) fun _ => ev_eqF (ef_tot1 (B := 10) (ev_var rfl) (ex_l e1 ha) (hx.mono e1) (fun x hx' => (hs x hx').sz) hB (by decide)) eo) (by rw [h1]; rfl)) fun H2 e2 => q H2 (e1.trans e2)
    obtain ⟨z, hz, rz⟩ := (hx.mono (e1.trans e2)).get hi
    exact ev_share (ef_var (K := K) rfl rz) (hs z (List.mem_of_getElem? hz))
theorem ok_marks (F : Fun K "check_marks" "check_marks" s_check_marks f fd) (n_isinstance : mg "isinstance" = none) (n_list : mg "list" = none) (n_len : mg "len" = none) (n_enumerate : mg "enumerate" = none) (C_is_mark : Cal P w K mg base 1 "is_mark" ["thing"] [] (spMark K)) {tk : Tok} (m_MOST_ROOMS : mg "MOST_ROOMS" = some (.int 6 tk)) :
    FnOk P w K mg base CX0 2 f fd ["marks"] (spMarks K) := by
  refine F.ok sc_check_marks (fun vs H Q E h => ?_) (fun cdv A outer s H vs Q E hr h => ?_)
  · obtain ⟨_, _, rfl, _⟩ := h
    rfl
  · obtain ⟨a, zs, rfl, ha, h1, h6, hz, q⟩ := h
    refine ⟨_, (pss_cons (ps_if (PW.pt (pw_or (pt_not (pt_val (pe_callB call_isi (by rfl) n_isinstance PyProof.Rows.boot_isinstance (pa_cons (pv 0) (pa_cons (c_ty (n := "list") n_list (by rfl) (by decide +kernel) (by decide)) pa_nil))))) (pw_or1 (pt_not (pt_chain op_le op_le pe_int (pe_callB call_len_seq (by rfl) n_len PySem.boot_len (pa_cons (pv 0) pa_nil)) (pe_glob (v := .int 6) (by rfl) m_MOST_ROOMS ⟨_, rfl⟩)))))) (pss_one ps_never) pss_nil)
      (pss_one (ps_for PassesOwn.never rfl (pi_enum (by rfl) n_enumerate (pa_cons (pv 0) pa_nil)) (pg_tup rfl (pgs_cons (pg_name (i := 1) sc_check_marks.nd rfl (.inl rfl)) (pgs_cons (pg_name (i := 2) sc_check_marks.nd rfl (.inl rfl)) pgs_nil))) (pss_one (ps_if (pt_not (pt_val (pe_cal C_is_mark hr (by decide) (by rfl) (pa_cons (pv 2) pa_nil)))) (pss_one ps_never) pss_nil))))), ?_⟩
    have le : ∀ {i j : Int}, i ≤ j → RV (rI0 fun i j => V.bl (decide (i ≤ j))) (.int i) (.int j) H (.bl true) := fun {i j} hij => by
      have z := rv_I0 (H := H) (g := fun i j => V.bl (decide (i ≤ j))) (i := i) (j := j)
      rw [decide_eq_true hij] at z
      exact z
    refine q_when (b := false) (et_is (et_or (et_not (et_B (ev_isi (ev_var rfl) (ty_lst ha) (show kitB "list" "list" = some true by decide +kernel)))) fun _ => et_not (et_test (ev_chain (k := true) (k2 := true) ev_c (ev_len (ev_var rfl) ha) (le (by rw [List.length_map]; omega)) (fun _ => ev_c) fun _ => le (by rw [List.length_map]; omega)))) rfl) nofun fun _ H1 e1 => ?_
    refine s_forEn (K := K) (S := fun σ2 => ∃ y1 y2, σ2 = [some (.ref a), y1, y2]) (ev_var rfl) (ex_l e1 ha) ⟨none, none, rfl⟩ ?_ ?_
    · rintro i x σ' H2 hi ⟨y1, y2, rfl⟩ e2
      rw [List.getElem?_map] at hi
      cases hq : zs[i]? with
      | none =>
        rw [hq] at hi
        cases hi
      | some zq =>
        rw [hq] at hi
        cases hi
        exact s_when (b := false) (et_is (et_not (et_B (ev_mark (K := K) (ev_var rfl) (hz zq (List.mem_of_getElem? hq))))) rfl) nofun fun _ H3 e3 => ⟨⟨_, _, rfl⟩, e2.trans e3⟩
    · rintro σ' H2 ⟨y1, y2, rfl⟩ e2
      exact q H2 (e1.trans e2)
theorem ok_shares (F : Fun K "check_shares" "check_shares" s_check_shares f fd) (n_isinstance : mg "isinstance" = none) (n_list : mg "list" = none) (n_len : mg "len" = none) (n_enumerate : mg "enumerate" = none) (C_are_room_shares : Cal P w K mg base 5 "are_room_shares" ["many", "thing"] [] (spRoom K)) : FnOk P w K mg base CX0 6 f fd ["many", "shares"] (spShares K) := by
  refine F.ok sc_check_shares (fun vs H Q E h => ?_) (fun cdv A outer s H vs Q E hr h => ?_)
  · obtain ⟨_, _, _, _, rfl, _⟩ := h
    rfl
  · obtain ⟨a, us, xss, n, rfl, ha, hr', hl, hn, hs, q⟩ := h
    refine ⟨_, (pss_cons (ps_if (PW.pt (pw_or (pt_not (pt_val (pe_callB call_isi (by rfl) n_isinstance PyProof.Rows.boot_isinstance (pa_cons (pv 1) (pa_cons (c_ty (n := "list") n_list (by rfl) (by decide +kernel) (by decide)) pa_nil))))) (pw_or1 (pt_cmpR op_ne (pe_callB call_len_seq (by rfl) n_len PySem.boot_len (pa_cons (pv 1) pa_nil)) (pv 0) (nomark _))))) (pss_one ps_never) pss_nil)
      (pss_one (ps_for PassesOwn.never rfl (pi_enum (by rfl) n_enumerate (pa_cons (pv 1) pa_nil)) (pg_tup rfl (pgs_cons (pg_name (i := 2) sc_check_shares.nd rfl (.inl rfl)) (pgs_cons (pg_name (i := 3) sc_check_shares.nd rfl (.inl rfl)) pgs_nil))) (pss_one (ps_if (pt_not (pt_val (pe_cal C_are_room_shares hr (by decide) (by rfl) (pa_cons (pv 0) (pa_cons (pv 3) pa_nil))))) (pss_one ps_never) pss_nil))))), ?_⟩
    have lu : us.length = n := by rw [hr'.length, hl]
    refine q_when (b := false) (et_is (et_or (et_not (et_B (ev_isi (ev_var rfl) (ty_lst ha) (show kitB "list" "list" = some true by decide +kernel)))) fun _ => et_test (ev_op (ev_len (ev_var rfl) ha) (ev_var rfl) (rv_ne rfl))) (by simp [lu])) nofun fun _ H1 e1 => ?_
    refine s_forEn (K := K) (S := fun σ2 => ∃ y1 y2, σ2 = [some (.int (n : Int)), some (.ref a), y1, y2]) (ev_var rfl) (ex_l e1 ha) ⟨none, none, rfl⟩ ?_ ?_
    · rintro i x σ' H2 hi ⟨y1, y2, rfl⟩ e2
      obtain ⟨p, vs, xs, rfl, hx, hp, hxs⟩ := (hr'.mono (e1.trans e2)).get hi
      exact s_when (b := false) (et_is (et_not (et_B (ev_room (K := K) (ev_var rfl) (ev_var rfl) hp hxs (hs xs (List.mem_of_getElem? hx)) hn))) rfl) nofun fun _ H3 e3 => ⟨⟨_, _, rfl⟩, e2.trans e3⟩
    · rintro σ' H2 ⟨y1, y2, rfl⟩ e2
      exact q H2 (e1.trans e2)
end
end NF

namespace NF
open PySem PySem.Spec PyProof.Rows L2 Evl
abbrev s_is_whole_within : Stmt := topS 9
theorem sc_is_whole_within : FnScope ["thing", "least", "most"] ["thing", "least", "most"] (defScope s_is_whole_within) := ⟨rfl, rfl, rfl, by decide +kernel, rfl, by decide +kernel, by decide +kernel⟩
abbrev s_Machine___len__ : Stmt := inClass (topS 30) 6
theorem sc_Machine___len__ : FnScope ["self"] ["self"] (defScope s_Machine___len__) := ⟨rfl, rfl, rfl, by decide +kernel, rfl, by decide +kernel, by decide +kernel⟩
abbrev s_Machine_shares : Stmt := inClass (topS 30) 2
theorem sc_Machine_shares : FnScope ["self", "row"] ["self"] (defScope s_Machine_shares) := ⟨rfl, rfl, rfl, by decide +kernel, rfl, by decide +kernel, by decide +kernel⟩
abbrev s_check_machine : Stmt := topS 28
theorem sc_check_machine : FnScope ["thing"] ["thing"] (defScope s_check_machine) := ⟨rfl, rfl, rfl, by decide +kernel, rfl, by decide +kernel, by decide +kernel⟩
abbrev s_check_room : Stmt := topS 29
theorem sc_check_room : FnScope ["machine", "room"] ["machine", "room"] (defScope s_check_room) := ⟨rfl, rfl, rfl, by decide +kernel, rfl, by decide +kernel, by decide +kernel⟩
abbrev s_Machine___init__ : Stmt := inClass (topS 30) 0
theorem sc_Machine___init__ : FnScope ["self", "marks", "shares", "row"] ["self", "marks", "shares"] (defScope s_Machine___init__) := ⟨rfl, rfl, rfl, by decide +kernel, rfl, by decide +kernel, by decide +kernel⟩
section
variable {X : Cx} {C : Addr} {j k : Nat} {m : Str} {ps : List Str} {sp : Sp} {o : Expr} {ta : TE} {pos apos : Pos} {pl : Sem Bool}
theorem pe_calM0 (M : CalM X.prog X.w X.K X.mg X.base C k m ps sp) (hr : Room j X.A) (hk : k ≤ j) (he : PE X o ta)
    (ht : eval (.Call (.Attribute o m apos) [] [] pos) X.env = (do
      let ov ← eval o X.env
      standAt apos.atName
      let (g, first) ← holding [ov] (getMethod ov m pl)
      callWith pos g first (backTo pos (starEach [] X.env)) (backToKw pos (keywordEach [] X.env))) := by rfl) : PE X (.Call (.Attribute o m apos) [] [] pos) (tMeth C m sp [] E0 ta tNil) := by
  obtain ⟨f, fd, hm, F, b⟩ := M.ex
  exact pe_meth0 he M.cl hm F (hr.mono hk) b .nil pass0 ht
end
structure Txt (K : PySem.W.Frag) (mg : Str → Option Value) (C : Addr) : Prop where
  cl : Cls K C
  nm : NoAttr K C "kept_marks"
  ns : NoAttr K C "kept_shares"
section
variable {K : PySem.W.Frag} {H H1 H2 : Hp} {σ : L2.St} {ta tb te tl : TE} {v w u : V} {E : XK} {C a dx m : Addr} {fs : List (Str × V)} {f : Str} {zs : List Str} {xss : List (List Rat)} {D : Ends} {tz : TS}
theorem ev_fld (h : Ev ta σ H (.ref a)) (ha : H a = some (.ins C dx fs)) (cl : Cls K C) (na : NoAttr K C f) (hl : fs.lookup f = some v) : Ev (tFld K ta f) σ H v := fun H1 e Q q =>
  h H1 e _ fun H2 e2 => ⟨a, C, dx, fs, v, rfl, (e.trans e2) _ _ ha, cl, na, hl, q H2 e2⟩
def spLen (K : PySem.W.Frag) (C : Addr) : Sp := fun vs H Q _ => ∃ (m : Addr) (zs : List Str) (xss : List (List Rat)), vs = [.ref m] ∧ MaAt K C H m zs xss ∧ ∀ H', Ex H H' → Q (.int (zs.length : Int)) H'
theorem ev_lenO (h : Ev ta σ H (.ref m)) (hm : MaAt K C H m zs xss) (h6 : zs.length ≤ 6) : Ev (tCB (rLenO C (spLen K C)) (tCons ta tNil)) σ H (.int (zs.length : Int)) := fun H1 e Q q =>
  h H1 e _ fun H2 e2 => by
    have hm2 := hm.mono (e.trans e2)
    obtain ⟨dx, am, as, us, h1, _⟩ := id hm2
    exact ⟨m, dx, _, rfl, h1, m, zs, xss, rfl, hm2, fun H' e3 => ⟨_, rfl, by omega, by omega, q H' (e2.trans e3)⟩⟩
def spWithin (K : PySem.W.Frag) : Sp := fun vs H Q _ => ∃ i l h : Int, vs = [.int i, .int l, .int h] ∧ l ≤ i ∧ i ≤ h ∧ ∀ H', Ex H H' → Q (.bl true) H'
theorem ev_within {tc : TE} {i l h : Int} (h1 : Ev ta σ H (.int i)) (h2 : Ev tb σ H (.int l)) (h3 : Ev tc σ H (.int h)) (hl : l ≤ i) (hh : i ≤ h) : Ev (tCall (spWithin K) [] E (tCons ta (tCons tb (tCons tc tNil)))) σ H (.bl true) := fun H1 e Q q =>
  h1 H1 e _ fun H2 e2 => h2 H2 (e.trans e2) _ fun H3 e3 => h3 H3 ((e.trans e2).trans e3) _ fun H4 e4 => ⟨i, l, h, rfl, hl, hh, fun H' e5 => q H' (((e2.trans e3).trans e4).trans e5)⟩
def spCMach (K : PySem.W.Frag) (C : Addr) : Sp := fun vs H Q _ => ∃ (m : Addr) (zs : List Str) (xss : List (List Rat)), vs = [.ref m] ∧ MaAt K C H m zs xss ∧ ∀ H', Ex H H' → Q .non H'
def spCRoom (K : PySem.W.Frag) (C : Addr) : Sp := fun vs H Q _ => ∃ (m : Addr) (zs : List Str) (xss : List (List Rat)) (r : Nat), vs = [.ref m, .int (r : Int)] ∧ MaAt K C H m zs xss ∧ zs.length ≤ 6 ∧ r < zs.length ∧ ∀ H', Ex H H' → Q .non H'
def spSharesM (K : PySem.W.Frag) (C : Addr) : Sp := fun vs H Q _ => ∃ (m : Addr) (zs : List Str) (xss : List (List Rat)), vs = [.ref m] ∧ MaAt K C H m zs xss ∧ xss.length ≤ 6 ∧ ∀ p us H', H p = none → Ex H H' → H' p = some (.lst us) → Rows K H' us xss → Q (.ref p) H'
def spInit (K : PySem.W.Frag) (C : Addr) : Sp := fun vs H Q _ => ∃ (x dx a b : Addr) (zs : List Str) (us : List V) (xss : List (List Rat)), vs = [.ref x, .ref a, .ref b] ∧ H x = some (.ins C dx []) ∧ SqL K H a (zs.map V.str) ∧ SqL K H b us ∧ Rows K H us xss ∧ Good zs xss ∧
  ∀ H', (∀ p o, H p = some o → p ≠ x → H' p = some o) → MaAt K C H' x zs xss → Q .non H'
theorem fld_raw {tv : TE} (h : tv σ H fun y H1 => ta σ H1 fun x H2 => ∃ a C dx fs, x = .ref a ∧ H2 a = some (.ins C dx fs) ∧ Cls K C ∧ NoAttr K C f ∧ fs.length < 1000 ∧ tz D σ (upd H2 a (.ins C dx (putF f y fs)))) : tSeq (sFld K ta tv f) tz D σ H := h
theorem fld_last {tv : TE} (h : tv σ H fun y H1 => ta σ H1 fun x H2 => ∃ a C dx fs, x = .ref a ∧ H2 a = some (.ins C dx fs) ∧ Cls K C ∧ NoAttr K C f ∧ fs.length < 1000 ∧ D.nx σ (upd H2 a (.ins C dx (putF f y fs)))) : sFld K ta tv f D σ H := h
theorem ev_cmarks {a : Addr} (h : Ev ta σ H (.ref a)) (ha : SqL K H a (zs.map V.str)) (h1 : 1 ≤ zs.length) (h6 : zs.length ≤ 6) (hz : ∀ z ∈ zs, NF.Mk z) : Ev (tCall (spMarks K) [] E (tCons ta tNil)) σ H .non := fun H1 e Q q =>
  h H1 e _ fun H2 e2 => ⟨a, zs, rfl, ex_l (e.trans e2) ha, h1, h6, hz, fun H' e3 => q H' (e2.trans e3)⟩
theorem ev_cshares {a : Addr} {us : List V} {n : Nat} (h1 : Ev ta σ H (.int (n : Int))) (h : Ev tb σ H (.ref a)) (ha : SqL K H a us) (hr : Rows K H us xss) (hl : xss.length = n) (hn : n ≤ 6) (hs : ∀ xs ∈ xss, Shs xs n) : Ev (tCall (spShares K) [] E (tCons ta (tCons tb tNil))) σ H .non := fun H1 e Q q =>
  h1 H1 e _ fun H2 e2 => h H2 (e.trans e2) _ fun H3 e3 => ⟨a, us, xss, n, rfl, ex_l ((e.trans e2).trans e3) ha, hr.mono ((e.trans e2).trans e3), hl, hn, hs, fun H' e4 => q H' ((e2.trans e3).trans e4)⟩
theorem el_listOf {xs : List V} {p : Addr} (h : Ev ta σ H (.ref p)) (hp : SqL K H p xs) : EvL (tCB (fun xs H Q => ∃ p ys, xs = [V.ref p] ∧ (SqL K H p ys ∨ SqT K H p ys) ∧ ∀ l, H l = none → Q (.ref l) (upd H l (.lst ys))) (tCons ta tNil)) σ H xs := fun H1 e Q q =>
  h H1 e _ fun H2 e2 => ⟨p, xs, rfl, .inl (ex_l (e.trans e2) hp), fun l nl => q l _ (fresh_back e2 nl) (e2.trans (Ex.new nl)) upd_same⟩
end
section
variable {P : Program} {w : World} {K : PySem.W.Frag} {mg : Str → Option Value} {base : Heap} {f : Addr} {fd : FuncData} {cM : Addr}
theorem ok_within (F : Fun K "is_whole_within" "is_whole_within" s_is_whole_within f fd) (C_is_whole : Cal P w K mg base 1 "is_whole" ["thing"] [] (spWhole K)) : FnOk P w K mg base CX0 2 f fd ["thing", "least", "most"] (spWithin K) := by
  refine F.ok sc_is_whole_within (fun vs H Q E h => ?_) (fun cdv A outer s H vs Q E hr h => ?_)
  · obtain ⟨_, _, _, rfl, _⟩ := h
    rfl
  · obtain ⟨i, l, h, rfl, hl, hh, q⟩ := h
    refine ⟨_, (pss_one (ps_ret (pe_and (pe_cal C_is_whole hr (by decide) (by rfl) (pa_cons (pv 0) pa_nil)) (pe_one (pe_chain op_le op_le (pv 1) (pv 0) (pv 2)))))), ?_⟩
    have le : ∀ {i j : Int}, i ≤ j → RV (rI0 fun i j => V.bl (decide (i ≤ j))) (.int i) (.int j) H (.bl true) := fun {i j} hij => by
      have z := rv_I0 (H := H) (g := fun i j => V.bl (decide (i ≤ j))) (i := i) (j := j)
      rw [decide_eq_true hij] at z
      exact z
    exact s_ret (ev_is (w := .bl true) (ev_andV (ev_wholeI (ev_var rfl)) fun _ => ev_chain (k := true) (k2 := true) (ev_var rfl) (ev_var rfl) (le hl) (fun _ => ev_var rfl) fun _ => le hh) rfl) q
theorem ok_len (F : Fun K "__len__" "Machine.__len__" s_Machine___len__ f fd) (T : Txt K mg cM) (n_len : mg "len" = none) : FnOk P w K mg base CX0 1 f fd ["self"] (spLen K cM) := by
  refine F.ok sc_Machine___len__ (fun vs H Q E h => ?_) (fun cdv A outer s H vs Q E hr h => ?_)
  · obtain ⟨_, _, _, rfl, _⟩ := h
    rfl
  · obtain ⟨m, zs, xss, rfl, ⟨dx, am, as, us, h1, h2, h3, h4⟩, q⟩ := h
    refine ⟨_, (pss_one (ps_ret (pe_callB call_len_seq (by rfl) n_len PySem.boot_len (pa_cons (pe_fld (pv 0) rfl) pa_nil)))), ?_⟩
    refine s_ret (ev_is (ev_len (K := K) (ev_fld (ev_var rfl) h1 T.cl T.nm rfl) (SqL.of h2)) (by rw [List.length_map])) q
theorem ok_sharesM (F : Fun K "shares" "Machine.shares" s_Machine_shares f fd) (T : Txt K mg cM) (n_list : mg "list" = none) : FnOk P w K mg base CX0 1 f fd ["self"] (spSharesM K cM) := by
  refine F.ok sc_Machine_shares (fun vs H Q E h => ?_) (fun cdv A outer s H vs Q E hr h => ?_)
  · obtain ⟨_, _, _, rfl, _⟩ := h
    rfl
  · obtain ⟨m, zs, xss, rfl, ⟨dx, am, as, us, h1, h2, h3, h4⟩, hl, q⟩ := h
    refine ⟨_, (pss_one (ps_ret (pe_lc (own := [("row", 1)]) (by rfl) sc_Machine_shares.nd (pi_list (pe_fld (pv 0) rfl)) (blkOk_by (own := [("row", 1)]) (N := ["self", "row"]) (sc := defScope s_Machine_shares) (by decide +kernel)) (fun _ _ _ _ _ => (pg_name (i := 1) sc_Machine_shares.nd rfl (.inl rfl))) (fun _ _ _ _ _ => pts_nil) (fun _ _ _ _ _ => (pe_callTy (call_listK (K := K) rfl) (by rfl) n_list PyProof.Rows.boot_list (pa_cons (pv 1) pa_nil)))))), ?_⟩
    exact er_copy (K := K) (ev_fld (ev_var rfl) h1 T.cl T.ns rfl) (SqL.of h3) h4 (by rw [h4.length]; omega) (fun _ => rfl) (fun _ => rfl) H (Ex.refl H) _ fun p vs H2 np e2 hp hR => q p vs H2 np e2 hp hR
theorem ok_cmach (F : Fun K "check_machine" "check_machine" s_check_machine f fd) (n_isinstance : mg "isinstance" = none) (T : Txt K mg cM) (g_Machine : mg "Machine" = some (.ref cM)) (t1 : PySem.W.findIn K (.ref cM) "__class__" = some (some (.builtin "object.__class__"))) (t2 : PySem.W.specialIn K (.builtin "object.__class__") "__get__" = some (some (.builtin "getset_descriptor.__get__")))
    (t3 : PySem.W.takesIn K (.builtin "object.__class__") = some true) (t4 : PySem.W.mroIn K cM (.type "object") = some true) (t5 : PySem.W.kitOne K (.ref cM) (.ref cM) = some true) : FnOk P w K mg base CX0 1 f fd ["thing"] (spCMach K cM) := by
  refine F.ok sc_check_machine (fun vs H Q E h => ?_) (fun cdv A outer s H vs Q E hr h => ?_)
  · obtain ⟨_, _, _, rfl, _⟩ := h
    rfl
  · obtain ⟨m, zs, xss, rfl, ⟨dx, am, as, us, h1, _⟩, q⟩ := h
    refine ⟨_, (pss_one (ps_if (pt_not (pt_val (pe_callB call_isi (by rfl) n_isinstance PyProof.Rows.boot_isinstance (pa_cons (pv 0) (pa_cons (pe_glob (v := .ref cM) (by rfl) g_Machine rfl) pa_nil))))) (pss_one ps_never) pss_nil)), ?_⟩
    have ei : Ev (tCB (rIsi K) (tCons (tVar 0) (tCons (tC (.ref cM)) tNil))) (start ["thing"] [.ref m]) H (.bl true) := fun H1 e Q q => ⟨_, rfl, _, _, _, _, _, rfl, .own cM, .base (.ins (e _ _ h1) T.cl t1 t2 t3 t4), t5, q H1 (Ex.refl H1)⟩
    exact s_when (b := false) (et_is (et_not (et_B ei)) rfl) nofun fun _ H1 e1 => q H1 e1
theorem ok_croom (F : Fun K "check_room" "check_room" s_check_room f fd) (n_len : mg "len" = none) (L_M : LenO P w K mg base cM 1 (spLen K cM)) (C_is_whole_within : Cal P w K mg base 2 "is_whole_within" ["thing", "least", "most"] [] (spWithin K)) : FnOk P w K mg base CX0 3 f fd ["machine", "room"] (spCRoom K cM) := by
  refine F.ok sc_check_room (fun vs H Q E h => ?_) (fun cdv A outer s H vs Q E hr h => ?_)
  · obtain ⟨_, _, _, _, rfl, _⟩ := h
    rfl
  · obtain ⟨m, zs, xss, r, rfl, hm, h6, hr6, q⟩ := h
    refine ⟨_, (pss_one (ps_if (pt_not (pt_val (pe_cal C_is_whole_within hr (by decide) (by rfl) (pa_cons (pv 1) (pa_cons pe_int (pa_cons (pe_op op_sub (pe_callB (call_lenO L_M hr (by decide)) (by rfl) n_len PySem.boot_len (pa_cons (pv 0) pa_nil)) pe_int) pa_nil)))))) (pss_one ps_never) pss_nil)), ?_⟩
    exact s_when (b := false) (et_is (et_not (et_B (ev_within (K := K) (ev_var rfl) ev_c (ev_op (ev_lenO (ev_var rfl) hm h6) ev_c rv_I0) (by omega) (by omega)))) rfl) nofun fun _ H1 e1 => q H1 e1
theorem ok_init (F : Fun K "__init__" "Machine.__init__" s_Machine___init__ f fd) (T : Txt K mg cM) (n_len : mg "len" = none) (n_list : mg "list" = none) (C_check_marks : Cal P w K mg base 2 "check_marks" ["marks"] [] (spMarks K)) (C_check_shares : Cal P w K mg base 6 "check_shares" ["many", "shares"] [] (spShares K)) :
    FnOk P w K mg base CX0 7 f fd ["self", "marks", "shares"] (spInit K cM) := by
  refine F.ok sc_Machine___init__ (fun vs H Q E h => ?_) (fun cdv A outer s H vs Q E hr h => ?_)
  · obtain ⟨_, _, _, _, _, _, _, rfl, _⟩ := h
    rfl
  · obtain ⟨x, dx, a, b, zs, us, xss, rfl, hx, ha, hb, hR, ⟨g1, g2, g3, g4, g5⟩, q⟩ := h
    refine ⟨_, (pss_cons (ps_expr (pe_cal C_check_marks hr (by decide) (by rfl) (pa_cons (pv 1) pa_nil)))
      (pss_cons (ps_expr (pe_cal C_check_shares hr (by decide) (by rfl) (pa_cons (pe_callB call_len_seq (by rfl) n_len PySem.boot_len (pa_cons (pv 1) pa_nil)) (pa_cons (pv 2) pa_nil))))
      (pss_cons (ps_fld (pv 0) (pe_callTy (call_listK (K := K) rfl) (by rfl) n_list PyProof.Rows.boot_list (pa_cons (pv 1) pa_nil)) rfl)
      (pss_one (ps_fld (pv 0) (pe_lc (own := [("row", 3)]) (by rfl) sc_Machine___init__.nd (pi_list (pv 2)) (blkOk_by (own := [("row", 3)]) (N := ["self", "marks", "shares", "row"]) (sc := defScope s_Machine___init__) (by decide +kernel)) (fun _ _ _ _ _ => (pg_name (i := 3) sc_Machine___init__.nd rfl (.inl rfl))) (fun _ _ _ _ _ => pts_nil) (fun _ _ _ _ _ => (pe_callTy (call_listK (K := K) rfl) (by rfl) n_list PyProof.Rows.boot_list (pa_cons (pv 3) pa_nil)))) rfl))))), ?_⟩
    refine q_drop (ev_cmarks (K := K) (ev_var rfl) ha g1 g2 g3) fun H1 e1 => ?_
    refine q_drop (ev_cshares (K := K) (n := zs.length) (ev_is (ev_len (K := K) (ev_var rfl) (ex_l e1 ha)) (by rw [List.length_map])) (ev_var rfl) (ex_l e1 hb) (hR.mono e1) g4 g2 g5) fun H2 e2 => ?_
    have E2 := e1.trans e2
    refine fld_raw ?_
    refine el_listOf (K := K) (ev_var rfl) (ex_l E2 ha) H2 (Ex.refl H2) _ fun p3 H3 n3 e3 h3 => ?_
    refine ⟨.ref x, rfl, x, cM, dx, [], rfl, (E2.trans e3) _ _ hx, T.cl, T.nm, by show 0 < 1000; decide, ?_⟩
    have hx3 := (E2.trans e3) _ _ hx
    have X4 : Exs x H3 (upd H3 x (.ins cM dx [("kept_marks", .ref p3)])) := Exs.upd
    have R4 := ((hR.mono E2).mono e3).exN X4 hx3 (fun _ z => by cases z) (fun _ _ z => by cases z) (fun _ z => by cases z) (fun _ _ z => by cases z)
    have b4 : SqL K (upd H3 x (.ins cM dx [("kept_marks", .ref p3)])) b us := by
      rcases ex_l (E2.trans e3) hb with (h | ⟨o, h⟩) | h
      · exact .inl (.inl (X4 _ _ (ne_of h hx3 (fun z => by cases z)) h))
      · exact .inl (.inr ⟨o, X4 _ _ (ne_of h hx3 (fun z => by cases z)) h⟩)
      · exact .inr h
    refine fld_last ?_
    refine er_copy (K := K) (H := upd H3 x (.ins cM dx [("kept_marks", .ref p3)])) (ev_var rfl) b4 R4 (by rw [R4.length, g4]; omega) (fun _ => rfl) (fun _ => rfl) _ (Ex.refl _) _ fun p5 vs5 H5 n5 e5 h5 R5 => ?_
    have hx5 := e5 _ _ (upd_same (H := H3) (a := x) (o := .ins cM dx [("kept_marks", .ref p3)]))
    refine ⟨.ref x, rfl, x, cM, dx, _, rfl, hx5, T.cl, T.ns, by show 1 < 1000; decide, ?_⟩
    have X6 : Exs x H5 (upd H5 x (.ins cM dx (putF "kept_shares" (.ref p5) [("kept_marks", .ref p3)]))) := Exs.upd
    have n3x : p3 ≠ x := fun z => by
      rw [z] at n3
      rw [E2 _ _ hx] at n3
      cases n3
    have n5x : p5 ≠ x := fun z => by
      rw [z, upd_same] at n5
      cases n5
    refine q _ (fun p o hp np => X6 _ _ np (e5 _ _ (X4 _ _ np ((E2.trans e3) _ _ hp)))) ⟨dx, p3, p5, vs5, ?_, X6 _ _ n3x (e5 _ _ (X4 _ _ n3x h3)), X6 _ _ n5x h5, R5.exN X6 hx5 (fun _ z => by cases z) (fun _ _ z => by cases z) (fun _ z => by cases z) (fun _ _ z => by cases z)⟩
    rw [upd_same]
    rfl
end
end NF

namespace NF
open PySem PySem.Spec PyProof.Rows L2 Evl
abbrev s_standing_in : Stmt := topS 33
theorem sc_standing_in : FnScope ["many", "room", "each"] ["many", "room"] (defScope s_standing_in) := ⟨rfl, rfl, rfl, by decide +kernel, rfl, by decide +kernel, by decide +kernel⟩
abbrev s_stepped : Stmt := topS 34
theorem sc_stepped : FnScope ["shares", "chances", "rooms", "room", "to"] ["shares", "chances"] (defScope s_stepped) := ⟨rfl, rfl, rfl, by decide +kernel, rfl, by decide +kernel, by decide +kernel⟩
section
variable {P : Program} {w : World} {K : PySem.W.Frag} {mg : Str → Option Value} {base : Heap} {f : Addr} {fd : FuncData} {cM aO aN : Addr}
theorem ok_stand (F : Fun K "standing_in" "standing_in" s_standing_in f fd) (n_range : mg "range" = none) (m_ONE : mg "ONE" = some (.ref aO)) (hO : ∀ H, SqT K H aO [.int 1, .int 1]) (m_NOUGHT : mg "NOUGHT" = some (.ref aN)) (hN : ∀ H, SqT K H aN [.int 0, .int 1]) : FnOk P w K mg base CX0 1 f fd ["many", "room"] (spStand K) := by
  refine F.ok sc_standing_in (fun vs H Q E h => ?_) (fun cdv A outer s H vs Q E hr h => ?_)
  · obtain ⟨_, _, rfl, _⟩ := h
    rfl
  · obtain ⟨n, r, rfl, hn, q⟩ := h
    refine ⟨_, (pss_one (ps_ret (pe_lc (own := [("each", 2)]) (by rfl) sc_standing_in.nd (pi_range1 (by rfl) n_range (pa_cons (pv 0) pa_nil)) (blkOk_by (own := [("each", 2)]) (N := ["many", "room", "each"]) (sc := defScope s_standing_in) (by decide +kernel)) (fun _ _ _ _ _ => (pg_name (i := 2) sc_standing_in.nd rfl (.inl rfl))) (fun _ _ _ _ _ => pts_nil) (fun _ _ _ _ _ => (pe_ifExp (pt_cmpR op_eq (pv 2) (pv 1) (nomark _)) (pe_glob (v := .ref aO) (by rfl) m_ONE rfl) (pe_glob (v := .ref aN) (by rfl) m_NOUGHT rfl)))))), ?_⟩
    refine s_retL (el_lcR1 (n := (n : Int)) (fun _ => true) (fun i => if i = r then .ref aO else .ref aN) (ea_cons (ev_var rfl) ea_nil) (by omega) (fun _ => rfl) (fun i H1 e1 hi => fun H3 e3 Q' q' => q' H3 (Ex.refl H3)) fun i H1 e1 hi _ => ?_) fun p H1 np e1 hp => ?_
    · refine ev_if (b := decide (V.int (i : Int) = V.int (r : Int))) (et_test (ev_op (ev_var rfl) (ev_var rfl) (rv_eq rfl))) (fun hb => ?_) (fun hb => ?_)
      · have : i = r := by
          have := V.int.inj (of_decide_eq_true hb)
          omega
        rw [if_pos this]
        exact ev_c
      · have : i ≠ r := fun z => of_decide_eq_false hb (by rw [z])
        rw [if_neg this]
        exact ev_c
    · rw [given_all] at hp
      refine q p _ H1 np e1 hp ?_
      rw [Int.toNat_natCast]
      refine rt_map fun i _ => ?_
      split
      · exact ⟨aO, rfl, hO H1⟩
      · exact ⟨aN, rfl, hN H1⟩
theorem rg_get {n i : Nat} {w : V} (h : (rgV 0 (n : Int))[i]? = some w) : w = .int (i : Int) ∧ i < n := by
  unfold rgV at h
  rw [List.getElem?_map] at h
  cases hq : (List.range ((n : Int) - 0).toNat)[i]? with
  | none =>
    rw [hq] at h
    cases h
  | some k =>
    rw [hq] at h
    obtain ⟨h1, h2⟩ := List.getElem?_eq_some_iff.mp hq
    rw [List.getElem_range] at h2
    rw [List.length_range] at h1
    subst h2
    have := Option.some.inj h
    rw [← this]
    refine ⟨?_, by omega⟩
    show V.int (0 + (i : Int)) = _
    rw [Int.zero_add]
theorem ok_step (F : Fun K "stepped" "stepped" s_stepped f fd) (n_range : mg "range" = none) (n_list : mg "list" = none) (n_len : mg "len" = none) (C_total1 : Cal P w K mg base 4 "total" ["some", "start"] [.non] (spTot K)) (C_times : Cal P w K mg base 3 "times" ["one", "other"] [] (sp2 K (fun _ _ => True) (· * ·))) :
    FnOk P w K mg base CX0 5 f fd ["shares", "chances"] (spStep K) := by
  refine F.ok sc_stepped (fun vs H Q E h => ?_) (fun cdv A outer s H vs Q E hr h => ?_)
  · obtain ⟨_, _, _, _, _, _, rfl, _⟩ := h
    rfl
  · obtain ⟨a, b, us, ws, xss, cs, rfl, ha, hR, hb, hc, h6, hl, hs, hz, q⟩ := h
    refine ⟨_, (pss_cons (ps_set (i := 2) sc_stepped.nd rfl (.inr rfl) (pe_listRg rfl (by rfl) n_list (prg_1 (by rfl) n_range (pe_callB call_len_seq (by rfl) n_len PySem.boot_len (pa_cons (pv 0) pa_nil)))))
      (pss_one (ps_ret (pe_lc (own := [("to", 4)]) (by rfl) sc_stepped.nd (pi_list (pv 2)) (blkOk_by (own := [("to", 4)]) (N := ["shares", "chances", "rooms", "room", "to"]) (sc := defScope s_stepped) (by decide +kernel)) (fun _ _ _ _ _ => (pg_name (i := 4) sc_stepped.nd rfl (.inr rfl))) (fun _ _ _ _ _ => pts_nil) (fun _ _ _ _ _ => (pe_cal C_total1 hr (by decide) (by rfl) (pa_cons (pe_lc (own := [("room", 3)]) (by rfl) sc_stepped.nd (pi_listK (K := K) rfl (pv 2)) (blkOk_by (own := [("room", 3)]) (N := ["shares", "chances", "rooms", "room", "to"]) (by rfl)) (fun _ _ _ _ _ => (pg_name (i := 3) sc_stepped.nd rfl (.inl rfl))) (fun _ _ _ _ _ => pts_nil) (fun _ _ _ _ _ => (pe_cal C_times hr (by decide) (by rfl) (pa_cons (pe_ix (ix_listK (K := K) rfl) (pv 1) (pv 3) (fun _ _ => rfl)) (pa_cons (pe_ix (ix_listK (K := K) rfl) (pe_ix (ix_listK (K := K) rfl) (pv 0) (pv 3) (fun _ _ => rfl)) (pv 4) (fun _ _ => rfl)) pa_nil))))) pa_nil))))))), ?_⟩
    have hlu : us.length = xss.length := hR.length
    have er : EvL (tLstRg (tRg1 (tCB (rLenS K) (tCons (tVar 0) tNil)))) (start ["shares", "chances", "rooms", "room", "to"] [.ref a, .ref b]) H (rgV 0 (xss.length : Int)) := fun H1 e Q q =>
      ev_len (K := K) (ev_var rfl) ha H1 e _ fun H2 e2 => ⟨_, rfl, RgOk.of_le (by omega) (by omega) (by omega) (by omega), fun l nl => q l _ (fresh_back e2 nl) (e2.trans (Ex.new nl)) (by rw [hlu]; exact upd_same)⟩
    refine q_asgL er fun p1 H1 n1 e1 h1 => ?_
    have lrg : (rgV 0 (xss.length : Int)).length = xss.length := by
      rw [rgV_length]
      omega
    have szc : ∀ r, Sz 245 (cs.getD r 0) := fun r => by
      rw [List.getD_eq_getElem?_getD]
      cases hq : cs[r]? with
      | none => exact ⟨by decide, by decide⟩
      | some c => exact hz c (List.mem_of_getElem? hq)
    refine er_lcL (K := K) (xs := step1 xss cs) (ev_var rfl) (SqL.of h1) (by rw [lrg]; simp [step1]) (by omega) (fun _ => rfl) ?_ H1 (Ex.refl H1) _ fun p us' H2 np e2 hp hr2 => q p us' H2 (fresh_back e1 np) (e1.trans e2) hp hr2
    intro to wt x H3 e3 hto hx
    obtain ⟨rfl, hlt⟩ := rg_get hto
    have hxe : x = dot xss cs to := by
      unfold step1 at hx
      rw [List.getElem?_map, List.getElem?_range hlt] at hx
      exact (Option.some.inj hx).symm
    subst hxe
    have E3 := e1.trans e3
    have szs : ∀ r, r < xss.length → ∃ xs, xss[r]? = some xs ∧ xss.getD r [] = xs ∧ ∃ y, xs[to]? = some y ∧ xs.getD to 0 = y ∧ Sz 245 y := fun r hr' => by
      have hm : xss[r] ∈ xss := List.getElem_mem hr'
      obtain ⟨s1, s2, s3⟩ := hs _ hm
      have ht : to < xss[r].length := by omega
      refine ⟨xss[r], List.getElem?_eq_getElem hr', by rw [List.getD_eq_getElem?_getD, List.getElem?_eq_getElem hr']; rfl, xss[r][to], List.getElem?_eq_getElem ht, by rw [List.getD_eq_getElem?_getD, List.getElem?_eq_getElem ht]; rfl, ((s2 _ (List.getElem_mem ht)).sz).mono (by decide)⟩
    refine ef_totR (B := 491) (xs := (List.range xss.length).map fun r => cs.getD r 0 * (xss.getD r []).getD to 0) ?_ ?_ ?_ (by decide)
    · refine er_lcL (K := K) (ev_var rfl) (SqL.of (e3 _ _ h1)) (by rw [lrg]; simp) (by omega) (fun _ => rfl) ?_
      intro r wr y H4 e4 hro hy
      obtain ⟨rfl, hrl⟩ := rg_get hro
      obtain ⟨xs, g1, g2, y0, g3, g4, g5⟩ := szs r hrl
      have hye : y = cs.getD r 0 * y0 := by
        rw [List.getElem?_map, List.getElem?_range hrl] at hy
        have := (Option.some.inj hy).symm
        rw [this]
        show cs.getD r 0 * (xss.getD r []).getD to 0 = _
        rw [g2, g4]
      subst hye
      have hcr : cs[r]? = some (cs.getD r 0) := by
        rw [List.getD_eq_getElem?_getD, List.getElem?_eq_getElem (show r < cs.length by omega)]
        rfl
      have E4 := E3.trans e4
      obtain ⟨pr, wr2, er1, er2, er3⟩ := ev_row (K := K) (σ := [some (.ref a), some (.ref b), some (.ref p1), some (.int (r : Int)), some (.int (to : Int))]) (ta := tVar 0) (tb := tVar 3) (ev_var rfl) (ev_var rfl) (ex_l E4 ha) (hR.mono E4) g1
      exact ef_2 (f := (· * ·)) (B := 245) (ef_at (K := K) (ev_var rfl) (ev_var rfl) (ex_l E4 hb) (hc.mono E4) hcr) (ef_at (K := K) er1 (ev_var rfl) er2 er3 g3) True.intro (szc r) g5 (by decide) (by decide)
    · intro y hy
      obtain ⟨r, hr1, rfl⟩ := List.mem_map.mp hy
      obtain ⟨xs, g1, g2, y0, g3, g4, g5⟩ := szs r (List.mem_range.mp hr1)
      rw [g2, g4]
      exact (szc r).mul g5
    · rw [List.length_map, List.length_range]
      have : (xss.length + 2) * (491 + 1) ≤ 8 * (491 + 1) := Nat.mul_le_mul_right _ (by omega)
      omega
end
end NF

namespace NF
open PySem PySem.Spec PyProof.Rows L2 Evl
abbrev s_Machine_shares_of : Stmt := inClass (topS 30) 4
theorem sc_Machine_shares_of : FnScope ["self", "room"] ["self", "room"] (defScope s_Machine_shares_of) := ⟨rfl, rfl, rfl, by decide +kernel, rfl, by decide +kernel, by decide +kernel⟩
abbrev s_where : Stmt := topS 35
theorem sc_where : FnScope ["machine", "room", "steps", "shares", "chances", "step"] ["machine", "room", "steps"] (defScope s_where) := ⟨rfl, rfl, rfl, by decide +kernel, rfl, by decide +kernel, by decide +kernel⟩
section
variable {K : PySem.W.Frag} {H H1 H2 : Hp} {σ : L2.St} {ta tb te tl : TE} {v w u : V} {E : XK} {C a m : Addr} {zs : List Str} {xss : List (List Rat)} {D : Ends} {tz : TS}
theorem ev_cmach (h : Ev ta σ H (.ref m)) (hm : MaAt K C H m zs xss) : Ev (tCall (spCMach K C) [] E (tCons ta tNil)) σ H .non := fun H1 e Q q =>
  h H1 e _ fun H2 e2 => ⟨m, zs, xss, rfl, hm.mono (e.trans e2), fun H' e3 => q H' (e2.trans e3)⟩
theorem ev_croom {r : Nat} (h : Ev ta σ H (.ref m)) (h2 : Ev tb σ H (.int (r : Int))) (hm : MaAt K C H m zs xss) (h6 : zs.length ≤ 6) (hr : r < zs.length) : Ev (tCall (spCRoom K C) [] E (tCons ta (tCons tb tNil))) σ H .non := fun H1 e Q q =>
  h H1 e _ fun H2 e2 => h2 H2 (e.trans e2) _ fun H3 e3 => ⟨m, zs, xss, r, rfl, hm.mono ((e.trans e2).trans e3), h6, hr, fun H' e4 => q H' ((e2.trans e3).trans e4)⟩
theorem er_sharesM (h : Ev ta σ H (.ref m)) (hm : MaAt K C H m zs xss) (h6 : xss.length ≤ 6) : EvRows K (tMeth C "shares" (spSharesM K C) [] E ta tNil) σ H xss := fun H1 e Q q =>
  h H1 e _ fun H2 e2 => by
    have hm2 := hm.mono (e.trans e2)
    obtain ⟨dx, am, as, us, h1, _⟩ := id hm2
    exact ⟨m, dx, _, rfl, h1, rfl, m, zs, xss, rfl, hm2, h6, fun p vs H' np e3 hp hR => q p vs H' (fresh_back e2 np) (e2.trans e3) hp hR⟩
theorem er_stand {n r : Nat} (h : Ev ta σ H (.int (n : Int))) (h2 : Ev tb σ H (.int (r : Int))) (h6 : n ≤ 6) : EvR K (tCall (spStand K) [] E (tCons ta (tCons tb tNil))) σ H (unit n r) := fun H1 e Q q =>
  h H1 e _ fun H2 e2 => h2 H2 (e.trans e2) _ fun H3 e3 => ⟨n, r, rfl, h6, fun p us H' np e4 hp hR => q p us H' (fresh_back (e2.trans e3) np) ((e2.trans e3).trans e4) hp hR⟩
theorem er_step {b : Addr} {us ws : List V} {cs : List Rat} (h : Ev ta σ H (.ref a)) (h2 : Ev tb σ H (.ref b)) (ha : SqL K H a us) (hR : Rows K H us xss) (hb : SqL K H b ws) (hc : RtAll K H ws cs) (h6 : xss.length ≤ 6) (hl : cs.length = xss.length) (hs : ∀ xs ∈ xss, Shs xs xss.length) (hz : ∀ c ∈ cs, Sz 245 c) :
    EvR K (tCall (spStep K) [] E (tCons ta (tCons tb tNil))) σ H (step1 xss cs) := fun H1 e Q q =>
  h H1 e _ fun H2 e2 => h2 H2 (e.trans e2) _ fun H3 e3 => by
    have E3 := (e.trans e2).trans e3
    exact ⟨a, b, us, ws, xss, cs, rfl, ex_l E3 ha, hR.mono E3, ex_l E3 hb, hc.mono E3, h6, hl, hs, hz, fun p us' H' np e4 hp hr => q p us' H' (fresh_back (e2.trans e3) np) ((e2.trans e3).trans e4) hp hr⟩
theorem q_asgR {i : Nat} {xs : List Rat} (h : EvR K te σ H xs) (k : ∀ p us H1, H p = none → Ex H H1 → H1 p = some (.lst us) → RtAll K H1 us xs → tz D (σ.set i (some (.ref p))) H1) : tSeq (tAsg te (gName i)) tz D σ H := h H (Ex.refl H) _ fun p us H1 np e hp r => k p us H1 np e hp r
theorem s_asgR {i : Nat} {xs : List Rat} (h : EvR K te σ H xs) (k : ∀ p us H1, H p = none → Ex H H1 → H1 p = some (.lst us) → RtAll K H1 us xs → D.nx (σ.set i (some (.ref p))) H1) : tAsg te (gName i) D σ H := h H (Ex.refl H) _ fun p us H1 np e hp r => k p us H1 np e hp r
theorem q_asgRows {i : Nat} (h : EvRows K te σ H xss) (k : ∀ p us H1, H p = none → Ex H H1 → H1 p = some (.lst us) → Rows K H1 us xss → tz D (σ.set i (some (.ref p))) H1) : tSeq (tAsg te (gName i)) tz D σ H := h H (Ex.refl H) _ fun p us H1 np e hp r => k p us H1 np e hp r
def spWhere (K : PySem.W.Frag) (C : Addr) : Sp := fun vs H Q _ => ∃ (m : Addr) (zs : List Str) (xss : List (List Rat)) (r k : Nat), vs = [.ref m, .int (r : Int), .int (k : Int)] ∧ MaAt K C H m zs xss ∧ Good zs xss ∧ r < zs.length ∧ k ≤ 12 ∧ (∀ j, j ≤ k → ∀ c ∈ walk xss r j, Sz 245 c) ∧
  ∀ p us H', H p = none → Ex H H' → H' p = some (.lst us) → RtAll K H' us (walk xss r k) → Q (.ref p) H'
def spSharesOf (K : PySem.W.Frag) (C : Addr) : Sp := fun vs H Q _ => ∃ (m : Addr) (zs : List Str) (xss : List (List Rat)) (r : Nat) (xs : List Rat), vs = [.ref m, .int (r : Int)] ∧ MaAt K C H m zs xss ∧ Good zs xss ∧ r < zs.length ∧ xss[r]? = some xs ∧
  ∀ p us H', H p = none → Ex H H' → H' p = some (.lst us) → RtAll K H' us xs → Q (.ref p) H'
end
section
variable {P : Program} {w : World} {K : PySem.W.Frag} {mg : Str → Option Value} {base : Heap} {f : Addr} {fd : FuncData} {cM : Addr}
theorem ok_sharesOf (F : Fun K "shares_of" "Machine.shares_of" s_Machine_shares_of f fd) (T : Txt K mg cM) (n_list : mg "list" = none) (C_check_room : Cal P w K mg base 3 "check_room" ["machine", "room"] [] (spCRoom K cM)) : FnOk P w K mg base CX0 4 f fd ["self", "room"] (spSharesOf K cM) := by
  refine F.ok sc_Machine_shares_of (fun vs H Q E h => ?_) (fun cdv A outer s H vs Q E hr h => ?_)
  · obtain ⟨_, _, _, _, _, rfl, _⟩ := h
    rfl
  · obtain ⟨m, zs, xss, r, xs, rfl, hm, ⟨g1, g2, g3, g4, g5⟩, hr6, hx, q⟩ := h
    refine ⟨_, (pss_cons (ps_expr (pe_cal C_check_room hr (by decide) (by rfl) (pa_cons (pv 0) (pa_cons (pv 1) pa_nil))))
      (pss_one (ps_ret (pe_callTy (call_listK (K := K) rfl) (by rfl) n_list PyProof.Rows.boot_list (pa_cons (pe_ix ix_list (pe_fld (pv 0) rfl) (pv 1) (fun _ _ => rfl)) pa_nil))))), ?_⟩
    refine q_drop (ev_croom (K := K) (ev_var rfl) (ev_var rfl) hm g2 hr6) fun H1 e1 => ?_
    obtain ⟨dx, am, as, us, h1, h2, h3, h4⟩ := hm.mono e1
    obtain ⟨p, ws, ev, hp, hr⟩ := ev_row (K := K) (σ := start ["self", "room"] [.ref m, .int (r : Int)]) (ta := tFld K (tVar 0) "kept_shares") (tb := tVar 1) (ev_fld (ev_var rfl) h1 T.cl T.ns rfl) (ev_var rfl) (SqL.of h3) h4 hx
    exact s_retL (el_listOf (K := K) ev hp) fun p2 H2 n2 e2 h2' => q p2 ws H2 (fresh_back e1 n2) (e1.trans e2) h2' (hr.mono e2)
theorem ok_where {dvs : List V} (F : FunD K "where" "where" (defArgs s_where) (defBody s_where) (defScope s_where) dvs [] f fd) (n_range : mg "range" = none) (n_len : mg "len" = none) {tk : Tok} (m_MOST_STEPS : mg "MOST_STEPS" = some (.int 12 tk)) (L_M : LenO P w K mg base cM 1 (spLen K cM)) (M_shares : CalM P w K mg base cM 1 "shares" ["self"] (spSharesM K cM))
    (C_check_machine : Cal P w K mg base 1 "check_machine" ["thing"] [] (spCMach K cM)) (C_check_room : Cal P w K mg base 3 "check_room" ["machine", "room"] [] (spCRoom K cM)) (C_is_whole_within : Cal P w K mg base 2 "is_whole_within" ["thing", "least", "most"] [] (spWithin K)) (C_standing_in : Cal P w K mg base 1 "standing_in" ["many", "room"] [] (spStand K))
    (C_stepped : Cal P w K mg base 5 "stepped" ["shares", "chances"] [] (spStep K)) : FnOk P w K mg base CX0 6 f fd ["machine", "room", "steps"] (spWhere K cM) := by
  refine F.ok sc_where (fun vs H Q E h => ?_) (fun cdv A outer s H vs Q E hr h => ?_)
  · obtain ⟨_, _, _, _, _, rfl, _⟩ := h
    rfl
  · obtain ⟨m, zs, xss, r, k, rfl, hm, ⟨g1, g2, g3, g4, g5⟩, hr6, hk, hz, q⟩ := h
    refine ⟨_, PSs.nox ((pss_cons (ps_expr (pe_cal C_check_machine hr (by decide) (by rfl) (pa_cons (pv 0) pa_nil)))
      (pss_cons (ps_expr (pe_cal C_check_room hr (by decide) (by rfl) (pa_cons (pv 0) (pa_cons (pv 1) pa_nil))))
      (pss_cons (ps_if (pt_not (pt_val (pe_cal C_is_whole_within hr (by decide) (by rfl) (pa_cons (pv 2) (pa_cons pe_int (pa_cons (pe_glob (v := .int 12) (by rfl) m_MOST_STEPS ⟨_, rfl⟩) pa_nil)))))) (pss_one ps_never) pss_nil)
      (pss_cons (ps_set (i := 3) sc_where.nd rfl (.inl rfl) (pe_calM0 M_shares hr (by decide) (pv 0)))
      (pss_cons (ps_set (i := 4) sc_where.nd rfl (.inl rfl) (pe_cal C_standing_in hr (by decide) (by rfl) (pa_cons (pe_callB (call_lenO L_M hr (by decide)) (by rfl) n_len PySem.boot_len (pa_cons (pv 0) pa_nil)) (pa_cons (pv 1) pa_nil))))
      (pss_cons (ps_for PassesOwn.never rfl (pi_range1 (by rfl) n_range (pa_cons (pv 2) pa_nil)) (pg_name (i := 5) sc_where.nd rfl (.inl rfl)) (pss_one (ps_set (i := 4) sc_where.nd rfl (.inl rfl) (pe_cal C_stepped hr (by decide) (by rfl) (pa_cons (pv 3) (pa_cons (pv 4) pa_nil))))))
      (pss_one (ps_ret (pv 4)))))))))), ?_⟩
    refine q_drop (ev_cmach (K := K) (ev_var rfl) hm) fun H1 e1 => ?_
    refine q_drop (ev_croom (K := K) (ev_var rfl) (ev_var rfl) (hm.mono e1) g2 hr6) fun H2 e2 => ?_
    refine q_when (b := false) (et_is (et_not (et_B (ev_within (K := K) (ev_var rfl) ev_c ev_c (by omega) (by omega)))) rfl) nofun fun _ H3 e3 => ?_
    have E3 := (e1.trans e2).trans e3
    refine q_asgRows (er_sharesM (K := K) (ev_var rfl) (hm.mono E3) (by omega)) fun ps us H4 n4 e4 h4 hR => ?_
    refine q_asgR (er_stand (K := K) (n := zs.length) (r := r) (ev_lenO (ev_var rfl) (hm.mono (E3.trans e4)) g2) (ev_var rfl) g2) fun pc cu H5 n5 e5 h5 hc => ?_
    have E4 := E3.trans e4
    refine q_forR1 (n := (k : Int)) (ea_cons (ev_var rfl) ea_nil) (by omega) (fun i σ' H' => ∃ pc cu y5, σ' = [some (.ref m), some (.int (r : Int)), some (.int (k : Int)), some (.ref ps), some (.ref pc), y5] ∧ Ex H4 H' ∧ H pc = none ∧ H' pc = some (.lst cu) ∧ RtAll K H' cu (walk xss r i)) (fun H6 e6 => ⟨pc, cu, none, rfl, e5.trans e6, fresh_back E4 n5, e6 _ _ h5, by
      show RtAll K H6 cu (unit xss.length r)
      rw [g4]
      exact hc.mono e6⟩) ?_ ?_
    · rintro i σ' H6 hi ⟨pc', cu', y5, rfl, e6, n6, h6, hc6⟩
      refine s_asgR (er_step (K := K) (ev_var rfl) (ev_var rfl) (SqL.of (e6 _ _ h4)) (hR.mono e6) (SqL.of h6) hc6 (by omega) (walk_len xss r i) (by rw [g4]; exact g5) (hz i (by omega))) fun p7 u7 H7 n7 e7 h7 hc7 => ?_
      exact ⟨p7, u7, _, rfl, e6.trans e7, fresh_back (E4.trans e6) n7, h7, hc7⟩
    · rintro σ' H6 ⟨pc', cu', y5, rfl, e6, n6, h6, hc6⟩
      rw [Int.toNat_natCast] at hc6
      exact s_ret (ev_var rfl) fun H7 e7 => q pc' cu' H7 n6 ((E4.trans e6).trans e7) (e7 _ _ h6) (hc6.mono e7)
end
end NF

namespace NF
open PySem PySem.Spec PyProof.Rows L2 Evl
abbrev s__law_bag : Stmt := topS 37
theorem sc__law_bag : FnScope ["_law_script", "_law_k", "_law_cell", "_law_great"] ["_law_script", "_law_k"] (defScope s__law_bag) := ⟨rfl, rfl, rfl, by decide +kernel, rfl, by decide +kernel, by decide +kernel⟩
abbrev s__law_out : Stmt := topS 38
theorem sc__law_out : FnScope ["_law_bag_here", "_law_many", "_law_found"] ["_law_bag_here", "_law_many"] (defScope s__law_out) := ⟨rfl, rfl, rfl, by decide +kernel, rfl, by decide +kernel, by decide +kernel⟩
abbrev s__law_low : Stmt := topS 39
theorem sc__law_low : FnScope ["_law_top", "_law_bottom", "_law_one", "_law_other"] ["_law_top", "_law_bottom"] (defScope s__law_low) := ⟨rfl, rfl, rfl, by decide +kernel, rfl, by decide +kernel, by decide +kernel⟩
abbrev s__law_add : Stmt := topS 40
theorem sc__law_add : FnScope ["_law_one", "_law_other"] ["_law_one", "_law_other"] (defScope s__law_add) := ⟨rfl, rfl, rfl, by decide +kernel, rfl, by decide +kernel, by decide +kernel⟩
abbrev s__law_mul : Stmt := topS 41
theorem sc__law_mul : FnScope ["_law_one", "_law_other"] ["_law_one", "_law_other"] (defScope s__law_mul) := ⟨rfl, rfl, rfl, by decide +kernel, rfl, by decide +kernel, by decide +kernel⟩
section
variable {P : Program} {w : World} {K : PySem.W.Frag} {mg : Str → Option Value} {base : Heap} {f : Addr} {fd : FuncData}
theorem ok_bag (F : Fun K "_law_bag" "_law_bag" s__law_bag f fd) (n_len : mg "len" = none) : FnOk P w K mg base CX0 1 f fd ["_law_script", "_law_k"] (spBag K) := by
  refine F.ok sc__law_bag (fun vs H Q E h => ?_) (fun cdv A outer s H vs Q E hr h => ?_)
  · obtain ⟨_, _, _, rfl, _⟩ := h
    rfl
  · obtain ⟨a, ns, k, rfl, ha, hl, hk, q⟩ := h
    refine ⟨_, (pss_cons (ps_set (i := 2) sc__law_bag.nd rfl (.inl rfl) pe_int)
      (pss_cons (ps_if (pt_cmpR op_lt (pv 1) (pe_callB call_len_seq (by rfl) n_len PySem.boot_len (pa_cons (pv 0) pa_nil)) (nomark _)) (pss_one (ps_set (i := 2) sc__law_bag.nd rfl (.inl rfl) (pe_ix ix_list (pv 0) (pv 1) (fun _ _ => rfl)))) pss_nil)
      (pss_cons (ps_set (i := 3) sc__law_bag.nd rfl (.inl rfl) pe_int)
      (pss_cons (ps_if (pt_cmpR op_ge (pv 2) (pe_op op_pow pe_int pe_int) (nomark _)) (pss_one (ps_set (i := 3) sc__law_bag.nd rfl (.inl rfl) (pv 2))) pss_nil)
      (pss_one (ps_ret (pe_lst (pa_cons (pv 3) (pa_cons (pe_op op_modN (pe_op op_pow (pe_op op_add (pe_op op_add (pe_op op_modN (pv 2) pe_int) (pe_op op_mul pe_int (pv 1))) pe_int) pe_int) pe_int) pa_nil))))))))), ?_⟩
    refine q_asg ev_c fun H1 e1 => ?_
    refine q_ifAsg (v := .int (ns.getD k 0)) (et_test (ev_op (ev_var rfl) (ev_len (ev_var rfl) (ex_l e1 ha)) rv_I0)) (fun hb => ?_) (fun hb => ?_) fun H2 e2 => ?_
    · have hlt : k < ns.length := by
        have := of_decide_eq_true hb
        rw [List.length_map] at this
        omega
      refine ev_op (ev_var rfl) (ev_var rfl) (rv_ixL (ex_l e1 ha) (atI_nat ?_))
      rw [List.getElem?_map, List.getElem?_eq_getElem hlt, List.getD_eq_getElem?_getD, List.getElem?_eq_getElem hlt]
      rfl
    · have hlt : ¬ k < ns.length := fun z => of_decide_eq_false hb (by rw [List.length_map]; omega)
      rw [List.getD_eq_getElem?_getD, List.getElem?_eq_none (by omega)]
      rfl
    generalize ns.getD k 0 = c
    refine q_asg ev_c fun H3 e3 => ?_
    refine q_ifAsg (v := .int (if 10 ^ 18 ≤ c then c else 0)) (et_test (ev_op (ev_var rfl) (ev_op ev_c ev_c (rv_I ⟨by decide, by decide, by decide⟩)) rv_I0)) (fun hb => ?_) (fun hb => ?_) fun H4 e4 => ?_
    · have hc : (10 : Int) ^ 18 ≤ c := of_decide_eq_true hb
      rw [if_pos hc]
      exact ev_var rfl
    · have hc : ¬ (10 : Int) ^ 18 ≤ c := of_decide_eq_false hb
      rw [if_neg hc]
      rfl
    have m0 : 0 ≤ c.fmod 998244353 := Int.fmod_nonneg_of_pos _ (by decide)
    have m1 : c.fmod 998244353 < 998244353 := Int.fmod_lt_of_pos _ (by decide)
    refine s_retL (el_lst (ea_cons (ev_var rfl) (ea_cons (ev_op (ev_op (ev_op (ev_op (ev_op (ev_var rfl) ev_c (rv_I (by decide))) (ev_op ev_c (ev_var rfl) (rv_I (.inl ⟨by decide, by decide⟩))) rv_I0) ev_c rv_I0) ev_c (rv_I (C := CPow) (g := fun i j => .int (i ^ j.toNat)) ⟨by decide, by decide, by omega⟩)) ev_c (rv_I (by decide))) ea_nil)) (by show 2 ≤ 100000; decide)) fun p H5 np e5 hp => ?_
    have E4 := ((e1.trans e2).trans e3).trans e4
    exact q p H5 (fresh_back E4 np) (E4.trans e5) ⟨_, _, hp⟩
theorem ok_out (F : Fun K "_law_out" "_law_out" s__law_out f fd) : FnOk P w K mg base CX0 1 f fd ["_law_bag_here", "_law_many"] spOut := by
  refine F.ok sc__law_out (fun vs H Q E h => ?_) (fun cdv A outer s H vs Q E hr h => ?_)
  · obtain ⟨_, _, rfl, _⟩ := h
    rfl
  · obtain ⟨st, many, rfl, ⟨g, m, hs⟩, h0, hm, q⟩ := h
    refine ⟨_, (pss_cons (ps_if (pt_cmpR op_gt (pe_ix ix_list (pv 0) pe_int (fun _ _ => rfl)) pe_int (nomark _)) (pss_cons (ps_set (i := 2) sc__law_out.nd rfl (.inl rfl) (pe_op op_modN (pe_ix ix_list (pv 0) pe_int (fun _ _ => rfl)) (pv 1)))
      (pss_cons (ps_asg (pe_op op_fdivX (pe_ix ix_list (pv 0) pe_int (fun _ _ => rfl)) (pv 1)) (pg_sub (pv 0) pe_int set_list))
      (pss_one (ps_ret (pv 2))))) pss_nil)
      (pss_cons (ps_asg (pe_op op_modN (pe_op op_add (pe_op op_mul (pe_ix ix_list (pv 0) pe_int (fun _ _ => rfl)) pe_int) pe_int) pe_int) (pg_sub (pv 0) pe_int set_list))
      (pss_one (ps_ret (pe_op op_modN (pe_op op_fdivX (pe_op op_modN (pe_op op_mul (pe_ix ix_list (pv 0) pe_int (fun _ _ => rfl)) (pe_op op_add (pe_op op_fdivX (pe_ix ix_list (pv 0) pe_int (fun _ _ => rfl)) pe_int) pe_int)) pe_int) pe_int) (pv 1)))))), ?_⟩
    have i0 : ∀ {σ : L2.St} {H : Hp} {a b : V}, σ[0]? = some (some (.ref st)) → H st = some (.lst [a, b]) → Ev (tOp (rIxL K) (tVar 0) (tC (.int 0))) σ H a := fun hσ h => ev_op (ev_var hσ) ev_c (rv_ixL (SqL.of h) (atI_nat (j := 0) rfl))
    have i1 : ∀ {σ : L2.St} {H : Hp} {a b : V}, σ[0]? = some (some (.ref st)) → H st = some (.lst [a, b]) → Ev (tOp (rIxL K) (tVar 0) (tC (.int 1))) σ H b := fun hσ h => ev_op (ev_var hσ) ev_c (rv_ixL (SqL.of h) (atI_nat (j := 1) rfl))
    have mb : many.natAbs < 2 ^ 60 := by omega
    refine q_when (et_test (ev_op (i0 rfl hs) ev_c rv_I0)) (fun hb H1 x1 => ?_) fun hb H1 x1 => ?_
    · refine q_asg (ev_op (i0 rfl (x1 _ _ hs)) (ev_var rfl) (rv_I (Int.ne_of_gt h0))) fun H2 x2 => ?_
      refine q_setL (j := 0) ((x1.trans x2) _ _ hs) (ev_op (i0 rfl ((x1.trans x2) _ _ hs)) (ev_var rfl) (rv_I (divX (Int.ne_of_gt h0) mb (by decide) (by decide)))) (ev_var rfl) ev_c (by show 0 < 2; decide) fun H3 x3 => ?_
      exact s_ret (ev_var rfl) fun H5 x5 => q _ H5 (Int.fmod_nonneg_of_pos g h0) (Int.fmod_lt_of_pos g h0) ⟨_, _, x5 _ _ upd_same⟩ (((ExS.of ((x1.trans x2).trans x3)).trans ExS.upd).trans (ExS.of x5))
    · have p0 : 0 ≤ (m * 40692 + 12345).fmod 2147483399 := Int.fmod_nonneg_of_pos _ (by decide)
      have p1 : (m * 40692 + 12345).fmod 2147483399 < 2147483399 := Int.fmod_lt_of_pos _ (by decide)
      refine q_setL (j := 1) (x1 _ _ hs) (ev_op (ev_op (ev_op (i1 rfl (x1 _ _ hs)) ev_c (rv_I (.inr ⟨by decide, by decide⟩))) ev_c rv_I0) ev_c (rv_I (by decide))) (ev_var rfl) ev_c (by show 1 < 2; decide) fun H3 x3 => ?_
      refine s_ret (ev_op (ev_op (ev_op (ev_op (i1 rfl upd_same) (ev_op (ev_op (i1 rfl upd_same) ev_c (rv_I (divX (b := 11) (by decide) (by decide) (by decide) (by decide)))) ev_c rv_I0) (rv_I (.inl ⟨by omega, by omega⟩))) ev_c (rv_I (by decide))) ev_c (rv_I (divX (b := 6) (by decide) (by decide) (by decide) (by decide)))) (ev_var rfl) (rv_I (Int.ne_of_gt h0))) fun H5 x5 => ?_
      exact q _ H5 (Int.fmod_nonneg_of_pos _ h0) (Int.fmod_lt_of_pos _ h0) ⟨_, _, x5 _ _ upd_same⟩ (((ExS.of (x1.trans x3)).trans ExS.upd).trans (ExS.of x5))
theorem ok_low (F : Fun K "_law_low" "_law_low" s__law_low f fd) (n_abs : mg "abs" = none) : FnOk P w K mg base CX0 1 f fd ["_law_top", "_law_bottom"] (spLow K) := by
  refine F.ok sc__law_low (fun vs H Q E h => ?_) (fun cdv A outer s H vs Q E hr h => ?_)
  · obtain ⟨_, _, _, rfl, _⟩ := h
    rfl
  · obtain ⟨a, b, B, rfl, hb0, ha, hb, hB0, hB, q⟩ := h
    refine ⟨_, (pss_cons (ps_set (i := 2) sc__law_low.nd rfl (.inl rfl) (pe_callB call_abs (by rfl) n_abs PyProof.Rows.boot_abs (pa_cons (pv 0) pa_nil)))
      (pss_cons (ps_set (i := 3) sc__law_low.nd rfl (.inl rfl) (pv 1))
      (pss_cons (ps_while PassesOwn.never (pt_cmpR op_ne (pv 3) pe_int (nomark _)) (pss_one (ps_par (i := 2) (j := 3) (by rfl) sc__law_low.nd rfl rfl (by decide) rfl rfl (pa_cons (pv 3) (pa_cons (pe_op op_modN (pv 2) (pv 3)) pa_nil)) (by rfl))))
      (pss_one (ps_ret (pe_tup (pa_cons (pe_op op_fdivX (pv 0) (pv 2)) (pa_cons (pe_op op_fdivX (pv 1) (pv 2)) pa_nil)))))))), ?_⟩
    have ea : RC (fun xs H Q => ∃ i, xs = [V.int i] ∧ Q (V.int (if i < 0 then -i else i)) H) [V.int a] H (V.int (if a < 0 then -a else a)) := fun H1 _ Q' q' => ⟨a, rfl, q' H1 (Ex.refl H1)⟩
    refine q_asg (ev_cb (ea_cons (ev_var rfl) ea_nil) ea) fun H1 e1 => ?_
    refine q_asg (ev_var rfl) fun H2 e2 => ?_
    refine q_while (fun m σ' H' => ∃ c d : Int, σ' = [some (.int a), some (.int b), some (.int c), some (.int d)] ∧ 0 ≤ c ∧ 0 ≤ d ∧ d.natAbs = m ∧ Int.gcd c d = Int.gcd a b ∧ Ex H H') b.natAbs ⟨_, b, rfl, by split <;> omega, by omega, rfl, ?_, e1.trans e2⟩ ?_
    · split
      · simp [Int.gcd]
      · rfl
    rintro m σ' H' ⟨c, d, rfl, hc0, hd0, rfl, eg, ex⟩
    refine ⟨_, et_test (ev_op (ev_var rfl) ev_c (rv_ne rfl)), fun hb => ?_, fun hb => ?_⟩
    · intro H3 e3
      have hd : 0 < d := by
        have : d ≠ 0 := fun z => by
          subst z
          simp at hb
        omega
      obtain ⟨g1, g2⟩ := gcd_step (a := c) (b := d) (by omega)
      have g3 := Int.fmod_nonneg_of_pos c hd
      refine ⟨fun σ2 H2 => ∃ c' d' : Int, σ2 = [some (.int a), some (.int b), some (.int c'), some (.int d')] ∧ 0 ≤ c' ∧ 0 ≤ d' ∧ d'.natAbs < d.natAbs ∧ Int.gcd c' d' = Int.gcd a b ∧ Ex H H2, ?_, ?_⟩
      · rintro σ2 H2 ⟨c', d', e, z1, z2, l, g, x⟩
        exact ⟨_, l, c', d', e, z1, z2, rfl, g, x⟩
      · exact s_par (ea_cons (ev_var rfl) (ea_cons (ev_op (ev_var rfl) (ev_var rfl) (rv_I (by omega))) ea_nil)) fun H4 e4 => ⟨d, c.fmod d, rfl, hd0, g3, g2, by rw [g1, eg], (ex.trans e3).trans e4⟩
    · intro H3 e3
      have hd : d = 0 := by
        by_cases z : d = 0
        · exact z
        · simp [z] at hb
      subst hd
      have hcg : c = (Int.gcd a b : Int) := by
        rw [← eg, Int.gcd_zero_right]
        omega
      subst hcg
      have hg : 0 < Int.gcd a b := Int.gcd_pos_of_ne_zero_right _ (by omega)
      have hgb : ((Int.gcd a b : Nat) : Int).natAbs < 2 ^ B := by
        have h1 : Int.gcd a b ≤ b.natAbs := Nat.le_of_dvd (by omega) (Int.gcd_dvd_natAbs_right a b)
        omega
      have hd0' : (Int.gcd a b : Int) ≠ 0 := by omega
      refine s_retU (eu_tup (ea_cons (ev_op (ev_var rfl) (ev_var rfl) (rv_I (divX hd0' hgb hB0 hB))) (ea_cons (ev_op (ev_var rfl) (ev_var rfl) (rv_I (divX hd0' hgb hB0 hB))) ea_nil)) (by show 2 ≤ 100000; decide)) fun p H4 _ e4 hp => ?_
      exact q _ _ ((ex.trans e3).trans e4) (Rt.of hp (red_pos hb0).1 (red_pos hb0).2)
theorem ok_add (F : Fun K "_law_add" "_law_add" s__law_add f fd) (C__law_low : Cal P w K mg base 1 "_law_low" ["_law_top", "_law_bottom"] [] (spLow K)) : FnOk P w K mg base CX0 2 f fd ["_law_one", "_law_other"] (sp2 K (fun _ _ => True) (· + ·)) := by
  refine F.ok sc__law_add (fun vs H Q E h => ?_) (fun cdv A outer s H vs Q E hr h => ?_)
  · obtain ⟨_, _, _, _, _, rfl, _⟩ := h
    rfl
  · obtain ⟨v, w, x, y, B, rfl, rx, ry, _, sx, sy, h0, hB, q⟩ := h
    refine ⟨_, (pss_one (ps_ret (pe_cal C__law_low hr (by decide) (by rfl) (pa_cons (pe_op op_add (pe_op op_mulW (pe_ix ix_tup (pv 0) pe_int (fun _ _ => rfl)) (pe_ix ix_tup (pv 1) pe_int (fun _ _ => rfl))) (pe_op op_mulW (pe_ix ix_tup (pv 1) pe_int (fun _ _ => rfl)) (pe_ix ix_tup (pv 0) pe_int (fun _ _ => rfl)))) (pa_cons (pe_op op_mulW (pe_ix ix_tup (pv 0) pe_int (fun _ _ => rfl)) (pe_ix ix_tup (pv 1) pe_int (fun _ _ => rfl))) pa_nil))))), ?_⟩
    have m1 := rv_I (H := H) (g := fun i j => V.int (i * j)) (wide_mul sx.num sy.den h0 h0 (by omega))
    have m2 := rv_I (H := H) (g := fun i j => V.int (i * j)) (wide_mul sy.num sx.den h0 h0 (by omega))
    have m3 := rv_I (H := H) (g := fun i j => V.int (i * j)) (wide_mul sx.den sy.den h0 h0 (by omega))
    have a1 : EvF K (tVar 0) (start ["_law_one", "_law_other"] [v, w]) H x := ef_var rfl rx
    have a2 : EvF K (tVar 1) (start ["_law_one", "_law_other"] [v, w]) H y := ef_var rfl ry
    refine s_retF (EvF.to (ef_low (B := 2 * B + 1) (ev_op (ev_op (ev_ix0 a1) (ev_ix1 a2) m1) (ev_op (ev_ix0 a2) (ev_ix1 a1) m2) rv_I0) (ev_op (ev_ix1 a1) (ev_ix1 a2) m3) (Int.mul_pos (denp x) (denp y))
      (bits_up (bits_add (bits_mul sx.num sy.den) (bits_mul sy.num sx.den)) (by omega)) (bits_up (bits_mul sx.den sy.den) (by omega)) (by omega) (by omega)) (add_rt x y).symm) fun u H1 e1 r => q u H1 e1 r
theorem ok_mul (F : Fun K "_law_mul" "_law_mul" s__law_mul f fd) (C__law_low : Cal P w K mg base 1 "_law_low" ["_law_top", "_law_bottom"] [] (spLow K)) : FnOk P w K mg base CX0 2 f fd ["_law_one", "_law_other"] (sp2 K (fun _ _ => True) (· * ·)) := by
  refine F.ok sc__law_mul (fun vs H Q E h => ?_) (fun cdv A outer s H vs Q E hr h => ?_)
  · obtain ⟨_, _, _, _, _, rfl, _⟩ := h
    rfl
  · obtain ⟨v, w, x, y, B, rfl, rx, ry, _, sx, sy, h0, hB, q⟩ := h
    refine ⟨_, (pss_one (ps_ret (pe_cal C__law_low hr (by decide) (by rfl) (pa_cons (pe_op op_mulW (pe_ix ix_tup (pv 0) pe_int (fun _ _ => rfl)) (pe_ix ix_tup (pv 1) pe_int (fun _ _ => rfl))) (pa_cons (pe_op op_mulW (pe_ix ix_tup (pv 0) pe_int (fun _ _ => rfl)) (pe_ix ix_tup (pv 1) pe_int (fun _ _ => rfl))) pa_nil))))), ?_⟩
    have m1 := rv_I (H := H) (g := fun i j => V.int (i * j)) (wide_mul sx.num sy.num h0 h0 (by omega))
    have m3 := rv_I (H := H) (g := fun i j => V.int (i * j)) (wide_mul sx.den sy.den h0 h0 (by omega))
    have a1 : EvF K (tVar 0) (start ["_law_one", "_law_other"] [v, w]) H x := ef_var rfl rx
    have a2 : EvF K (tVar 1) (start ["_law_one", "_law_other"] [v, w]) H y := ef_var rfl ry
    refine s_retF (EvF.to (ef_low (B := 2 * B + 1) (ev_op (ev_ix0 a1) (ev_ix0 a2) m1) (ev_op (ev_ix1 a1) (ev_ix1 a2) m3) (Int.mul_pos (denp x) (denp y))
      (bits_up (bits_mul sx.num sy.num) (by omega)) (bits_up (bits_mul sx.den sy.den) (by omega)) (by omega) (by omega)) (mul_rt x y).symm) fun u H1 e1 r => q u H1 e1 r
end
end NF

namespace NF
open PySem PySem.Spec PyProof.Rows L2 Evl
abbrev s__law_word : Stmt := topS 42
theorem sc__law_word : FnScope ["_law_bag_here", "_law_letters", "_law_k"] ["_law_bag_here"] (defScope s__law_word) := ⟨rfl, rfl, rfl, by decide +kernel, rfl, by decide +kernel, by decide +kernel⟩
abbrev s__law_goes : Stmt := topS 43
theorem sc__law_goes : FnScope ["_law_bag_here", "_law_many", "_law_wide", "_law_bottom", "_law_left", "_law_found", "_law_place", "_law_part", "_law_at"] ["_law_bag_here", "_law_many", "_law_wide"] (defScope s__law_goes) := ⟨rfl, rfl, rfl, by decide +kernel, rfl, by decide +kernel, by decide +kernel⟩
def abc : Str := "abcdefghijklmnopqrstuvwxyz"
theorem abc_at {d : Int} (h0 : 0 ≤ d) (h : d < 26) : atI abc.cps.toList d = some (97 + d.toNat) := by
  obtain ⟨n, rfl⟩ := Int.eq_ofNat_of_zero_le h0
  have hn : n < 26 := by omega
  refine atI_nat (j := n) ?_
  have : ∀ n, n < 26 → abc.cps.toList[n]? = some (97 + n) := by decide +kernel
  rw [this n hn]
  rfl
section
variable {P : Program} {w : World} {K : PySem.W.Frag} {mg : Str → Option Value} {base : Heap} {f : Addr} {fd : FuncData}
theorem ok_word (F : Fun K "_law_word" "_law_word" s__law_word f fd) (n_range : mg "range" = none) (C__law_out : Cal P w K mg base 1 "_law_out" ["_law_bag_here", "_law_many"] [] spOut) : FnOk P w K mg base CX0 2 f fd ["_law_bag_here"] spWord := by
  refine F.ok sc__law_word (fun vs H Q E h => ?_) (fun cdv A outer s H vs Q E hr h => ?_)
  · obtain ⟨_, rfl, _⟩ := h
    rfl
  · obtain ⟨st, rfl, hs, q⟩ := h
    refine ⟨_, (pss_cons (ps_set (i := 1) sc__law_word.nd rfl (.inr rfl) pe_str)
      (pss_one (ps_ret (pe_bm PySem.F.plainAttrs_str PySem.F.slot_str_join PySem.F.type_str_join mt_join pe_str (pa_cons (pe_lc (own := [("_law_k", 2)]) (by rfl) sc__law_word.nd (pi_range1 (by rfl) n_range (pa_cons (pe_op op_add pe_int (pe_cal C__law_out hr (by decide) (by rfl) (pa_cons (pv 0) (pa_cons pe_int pa_nil)))) pa_nil)) (blkOk_by (own := [("_law_k", 2)]) (N := ["_law_bag_here", "_law_letters", "_law_k"]) (sc := defScope s__law_word) (by decide +kernel)) (fun _ _ _ _ _ => (pg_name (i := 2) sc__law_word.nd rfl (.inl rfl))) (fun _ _ _ _ _ => pts_nil) (fun _ _ _ _ _ => (pe_ix ix_str (pv 1) (pe_cal C__law_out hr (by decide) (by rfl) (pa_cons (pv 0) (pa_cons pe_int pa_nil))) (fun _ _ => rfl)))) pa_nil))))), ?_⟩
    refine q_asg ev_c fun H1 e1 => ?_
    refine s_raw ?_
    refine ⟨rfl, ?_⟩
    refine cons_raw ?_
    unfold tLc iRng1
    refine cons_raw (op_raw (c_raw ?_))
    refine out_ev 4 rfl ev_c (hs.mono e1) (by decide) (by decide) fun d H2 d0 d4 hs2 x2 => ?_
    refine ⟨1, d, rfl, rfl, ?_⟩
    refine ⟨1 + d, rfl, by omega, by omega, fun D hD => lc_range (lo := 0) (n := (1 + d).toNat) (fun j H' => ∃ cs : List Nat, Bg st H' ∧ ExS st H2 H' ∧ D ≠ st ∧ H' D = some (.lst ((cs.map fun c => (⟨#[c]⟩ : Str)).map V.str)) ∧ cs.length = j ∧ ∀ c ∈ cs, 97 ≤ c ∧ c ≤ 122) ?_ ?_ ?_⟩
    · have nD : D ≠ st := by
        obtain ⟨_, _, hst⟩ := hs2
        exact (ne_of_none hst hD).symm
      exact ⟨[], hs2.new hD, ExS.of (Ex.new hD), nD, upd_same, rfl, nofun⟩
    · rintro j H' hj ⟨cs, hs', x', nD, hDl, hl, hc⟩
      refine ⟨rfl, ?_⟩
      refine op_raw (v_raw rfl ?_)
      refine out_ev 26 rfl ev_c hs' (by decide) (by decide) fun e H3 e0 e26 hs3 x3 => ?_
      refine ⟨abc, e, 97 + e.toNat, rfl, rfl, by decide +kernel, abc_at e0 e26, ?_⟩
      refine ⟨_, x3 _ _ nD hDl, sz_lt' (by simp; omega), cs ++ [97 + e.toNat], hs3.upd nD, ?_, nD, ?_, by simp [hl], ?_⟩
      · intro b o hb hb1
        rw [upd_ne (ne_of_none hb1 hD)]
        exact x3 _ _ hb (x' _ _ hb hb1)
      · rw [upd_same]
        simp
      · intro c hc'
        rcases List.mem_append.mp hc' with h | h
        · exact hc c h
        · rw [List.mem_singleton.mp h]
          omega
    · rintro H4 ⟨cs, hs4, x4, nD, hDl, hl, hc⟩
      refine ⟨Str.ofString "", D, cs.map fun c => ⟨#[c]⟩, rfl, rfl, .inl (SqL.of hDl), ?_, ?_⟩
      · have e1 : ∀ cs : List Nat, ((cs.map fun c => (⟨#[c]⟩ : Str)).map (·.length)).sum = cs.length := fun cs => by
          induction cs with
          | nil => rfl
          | cons c cs ih =>
            rw [List.map_cons, List.map_cons, List.sum_cons, ih, List.length_cons]
            show 1 + _ = _
            omega
        have e2 : (Str.ofString "").length = 0 := by decide +kernel
        rw [e1, e2]
        omega
      · exact q _ H4 (mk_glue (by omega) (by omega) hc) hs4 (((ExS.of e1).trans x2).trans x4)
theorem goes_pick {d e : Int} {wide : Nat} (d0 : 0 ≤ d) (dw : d < wide) (e0 : 0 ≤ e) (e6 : e < 6) (h6 : 6 ≤ wide) : ∃ b : Nat, 0 < b ∧ b ≤ wide ∧ atI [V.int 1, .int 2, .int 3, .int 4, .int 6, .int (1 + d)] e = some (.int (b : Int)) := by
  have : e = 0 ∨ e = 1 ∨ e = 2 ∨ e = 3 ∨ e = 4 ∨ e = 5 := by omega
  rcases this with rfl | rfl | rfl | rfl | rfl | rfl
  · exact ⟨1, by omega, by omega, atI_nat (j := 0) rfl⟩
  · exact ⟨2, by omega, by omega, atI_nat (j := 1) rfl⟩
  · exact ⟨3, by omega, by omega, atI_nat (j := 2) rfl⟩
  · exact ⟨4, by omega, by omega, atI_nat (j := 3) rfl⟩
  · exact ⟨6, by omega, by omega, atI_nat (j := 4) rfl⟩
  · refine ⟨(1 + d).toNat, by omega, by omega, atI_nat (j := 5) ?_⟩
    rw [Int.toNat_of_nonneg (by omega)]
    rfl
theorem ok_goes (F : Fun K "_law_goes" "_law_goes" s__law_goes f fd) (n_range : mg "range" = none) (n_int : mg "int" = none) (C__law_out : Cal P w K mg base 1 "_law_out" ["_law_bag_here", "_law_many"] [] spOut) (C__law_low : Cal P w K mg base 1 "_law_low" ["_law_top", "_law_bottom"] [] (spLow K)) : FnOk P w K mg base CX0 2 f fd ["_law_bag_here", "_law_many", "_law_wide"] (spGoes K) := by
  refine F.ok sc__law_goes (fun vs H Q E h => ?_) (fun cdv A outer s H vs Q E hr h => ?_)
  · obtain ⟨_, _, _, rfl, _⟩ := h
    rfl
  · obtain ⟨st, n, wide, rfl, hs, n1, n6, w6, w9, q⟩ := h
    refine ⟨_, (pss_cons (ps_set (i := 3) sc__law_goes.nd rfl (.inl rfl) (pe_ix ix_list (pe_lst (pa_cons pe_int (pa_cons pe_int (pa_cons pe_int (pa_cons pe_int (pa_cons pe_int (pa_cons (pe_op op_add pe_int (pe_cal C__law_out hr (by decide) (by rfl) (pa_cons (pv 0) (pa_cons (pv 2) pa_nil)))) pa_nil))))))) (pe_cal C__law_out hr (by decide) (by rfl) (pa_cons (pv 0) (pa_cons pe_int pa_nil))) (fun _ _ => rfl)))
      (pss_cons (ps_set (i := 4) sc__law_goes.nd rfl (.inl rfl) (pv 3))
      (pss_cons (ps_set (i := 5) sc__law_goes.nd rfl (.inl rfl) (pe_lst pa_nil))
      (pss_cons (ps_for PassesOwn.never rfl (pi_range1 (by rfl) n_range (pa_cons (pe_op op_sub (pv 1) pe_int) pa_nil)) (pg_name (i := 6) sc__law_goes.nd rfl (.inl rfl)) (pss_cons (ps_set (i := 7) sc__law_goes.nd rfl (.inl rfl) (pe_op op_mul (pe_cal C__law_out hr (by decide) (by rfl) (pa_cons (pv 0) (pa_cons (pe_op op_add (pv 4) pe_int) pa_nil))) (pe_callTy call_int1 (by rfl) n_int PyProof.Rows.boot_int (pa_cons (pe_cmpR op_gt (pe_cal C__law_out hr (by decide) (by rfl) (pa_cons (pv 0) (pa_cons pe_int pa_nil))) pe_int (nomark _)) pa_nil))))
      (pss_cons (ps_set (i := 4) sc__law_goes.nd rfl (.inl rfl) (pe_op op_sub (pv 4) (pv 7)))
      (pss_one (ps_expr (pe_bm PySem.F.plainAttrs_list PySem.F.slot_list_append PySem.F.type_list_append mt_append (pv 5) (pa_cons (pe_cal C__law_low hr (by decide) (by rfl) (pa_cons (pv 7) (pa_cons (pv 3) pa_nil))) pa_nil)))))))
      (pss_cons (ps_expr (pe_bm PySem.F.plainAttrs_list PySem.F.slot_list_append PySem.F.type_list_append mt_append (pv 5) (pa_cons (pe_cal C__law_low hr (by decide) (by rfl) (pa_cons (pv 4) (pa_cons (pv 3) pa_nil))) pa_nil)))
      (pss_cons (ps_set (i := 8) sc__law_goes.nd rfl (.inl rfl) (pe_cal C__law_out hr (by decide) (by rfl) (pa_cons (pv 0) (pa_cons (pv 1) pa_nil))))
      (pss_one (ps_ret (pe_op op_cat (pe_slice sl_list (pv 5) (po_some (pv 8)) po_none) (pe_slice sl_list (pv 5) po_none (po_some (pv 8)))))))))))), ?_⟩
    refine q_raw (op_raw (lst_raw ?_))
    refine cons_raw (c_raw (cons_raw (c_raw (cons_raw (c_raw (cons_raw (c_raw (cons_raw (c_raw (cons_raw (op_raw (c_raw ?_))))))))))))
    refine out_ev (wide : Int) rfl (ev_var rfl) hs (by omega) (by omega) fun d H1 d0 dw hs1 x1 => ?_
    refine ⟨1, d, rfl, rfl, by show 6 ≤ sizeLine; decide, fun p np => ?_⟩
    refine out_ev 6 rfl ev_c (hs1.new np) (by decide) (by decide) fun e H2 e0 e6 hs2 x2 => ?_
    have pst : p ≠ st := by
      obtain ⟨_, _, hst⟩ := hs1
      exact (ne_of_none hst np).symm
    obtain ⟨b, b0, bw, hb⟩ := goes_pick d0 dw e0 e6 w6
    refine ⟨p, _, e, _, rfl, rfl, SqL.of (x2 _ _ pst upd_same), hb, ?_⟩
    have X2 : ExS st H H2 := (x1.trans (ExS.of (Ex.new np))).trans x2
    refine q_asg (ev_var rfl) fun H3 e3 => ?_
    refine q_asgL (el_lst ea_nil (by show 0 ≤ 100000; decide)) fun pf H4 nf e4 hf => ?_
    have X4 : ExS st H H4 := X2.trans (ExS.of (e3.trans e4))
    have hs4 : Bg st H4 := (hs2.mono e3).mono e4
    have fst : pf ≠ st := by
      obtain ⟨_, _, hst⟩ := hs2.mono e3
      exact (ne_of_none hst nf).symm
    have nfH : H pf = none := by
      cases c : H pf with
      | none => rfl
      | some o =>
        have := e3 _ _ (X2 _ _ fst c)
        rw [nf] at this
        cases this
    refine q_forR1 (n := (n : Int) - 1) (ea_cons (ev_op (ev_var rfl) ev_c rv_I0) ea_nil) (by omega) (fun i σ' H' => ∃ (left : Int) (vs : List V) (xs : List Rat) (y6 y7 y8 : Option V), σ' = [some (.ref st), some (.int (n : Int)), some (.int (wide : Int)), some (.int (b : Int)), some (.int left), some (.ref pf), y6, y7, y8] ∧
      0 ≤ left ∧ left ≤ b ∧ H' pf = some (.lst vs) ∧ RtAll K H' vs xs ∧ xs.length = i ∧ (∀ x ∈ xs, Shr x ∧ Ml b x) ∧ sumF 0 xs * (b : Rat) = (b : Rat) - (left : Rat) ∧ Bg st H' ∧ ExS st H H') (fun H5 e5 => ?_) ?_ ?_
    · refine ⟨(b : Int), [], [], none, none, none, rfl, by omega, by omega, e5 _ _ hf, .nil, rfl, nofun, ?_, hs4.mono e5, X4.trans (ExS.of e5)⟩
      show (0 : Rat) * b = b - ((b : Int) : Rat)
      have : ((b : Int) : Rat) = (b : Rat) := rfl
      grind
    · rintro i σ' H5 hi ⟨left, vs, xs, y6, y7, y8, rfl, l0, lb, hf5, hR, hl, hx, hsum, hs5, X5⟩
      refine q_raw (op_raw ?_)
      refine out_ev (left + 1) rfl (ev_op (ev_var rfl) ev_c rv_I0) hs5 (by omega) (by omega) fun g H6 g0 gl hs6 x6 => ?_
      refine cb_raw (cons_raw (op_raw ?_))
      refine out_ev 3 rfl ev_c hs6 (by decide) (by decide) fun t H7 t0 t3 hs7 x7 => ?_
      refine ⟨t, 0, rfl, rfl, .inr ⟨_, rfl, ?_⟩⟩
      refine ⟨g, _, rfl, rfl, .inr ⟨by split <;> decide, by split <;> decide⟩, ?_⟩
      generalize hk : (if decide (0 < t) = true then (1 : Int) else 0) = k01
      have hp : 0 ≤ g * k01 ∧ g * k01 ≤ left := by
        have : k01 = 0 ∨ k01 = 1 := by
          rw [← hk]
          split
          · exact .inr rfl
          · exact .inl rfl
        rcases this with rfl | rfl <;> omega
      obtain ⟨p0, pl⟩ := hp
      refine q_asg (ev_op (ev_var rfl) (ev_var rfl) rv_I0) fun H8 e8 => ?_
      have X68 : ExS st H5 H8 := (x6.trans x7).trans (ExS.of e8)
      have hf8 : H8 pf = some (.lst vs) := X68 _ _ fst hf5
      have hR8 : RtAll K H8 vs xs := hR.exS X68 hs5
      refine s_appF (K := K) (x := Rat.divInt (g * k01) b) rfl hf8 (ef_low (B := 11) (ev_var rfl) (ev_var rfl) (by omega) (by omega) (by omega) (by decide) (by decide)) (by rw [hR8.length]; omega) fun u H9 e9 ru => ?_
      have hf9 := e9 _ _ hf8
      refine ⟨left - g * k01, vs ++ [u], xs ++ [Rat.divInt (g * k01) b], _, _, _, rfl, by omega, by omega, upd_same, ((hR8.mono e9).push ru).exLst Exs.upd hf9, by simp [hl], ?_, ?_, ((hs7.mono e8).mono e9).upd fst, ?_⟩
      · intro x hx'
        rcases List.mem_append.mp hx' with h | h
        · exact hx x h
        · rw [List.mem_singleton.mp h]
          exact ⟨shr_div p0 (by omega) b0 (by omega), ml_div (g * k01) b0⟩
      · rw [sumF_snoc, Rat.add_mul, hsum, div_eq (g * k01) b0, Rat.intCast_sub]
        grind
      · intro a o ha h
        rw [upd_ne (ne_of_none h nfH)]
        exact e9 _ _ (X68 _ _ ha (X5 _ _ ha h))
    · rintro σ' H5 ⟨left, vs, xs, y6, y7, y8, rfl, l0, lb, hf5, hR, hl, hx, hsum, hs5, X5⟩
      refine q_appF (K := K) (x := Rat.divInt left b) rfl hf5 (ef_low (B := 11) (ev_var rfl) (ev_var rfl) (by omega) (by omega) (by omega) (by decide) (by decide)) (by rw [hR.length]; omega) fun u H6 e6 ru => ?_
      have hf6 := e6 _ _ hf5
      have hs6 : Bg st (upd H6 pf (.lst (vs ++ [u]))) := (hs5.mono e6).upd fst
      have hR6 : RtAll K (upd H6 pf (.lst (vs ++ [u]))) (vs ++ [u]) (xs ++ [Rat.divInt left b]) := ((hR.mono e6).push ru).exLst Exs.upd hf6
      have X6 : ExS st H (upd H6 pf (.lst (vs ++ [u]))) := by
        intro a o ha h
        rw [upd_ne (ne_of_none h nfH)]
        exact e6 _ _ (X5 _ _ ha h)
      refine q_raw ?_
      refine out_ev (n : Int) rfl (ev_var rfl) hs6 (by omega) (by omega) fun at_ H7 a0 an hs7 x7 => ?_
      obtain ⟨k, rfl⟩ := Int.eq_ofNat_of_zero_le a0
      have hf7 : H7 pf = some (.lst (vs ++ [u])) := x7 _ _ fst upd_same
      have hR7 := hR6.exS x7 hs6
      have hlen : (vs ++ [u]).length = n := by
        rw [hR6.length, List.length_append, hl]
        simp
        omega
      refine s_retL (el_cat (el_sl (K := K) (ev_var rfl) (eo_some (ev_var rfl)) eo_none (SqL.of hf7)) (el_sl (K := K) (ev_var rfl) eo_none (eo_some (ev_var rfl)) (SqL.of hf7)) ?_) fun pr H8 n8 e8 h8 => ?_
      · rw [cutV_hi (by omega), cutV_lo (by omega), List.length_drop, List.length_take]
        omega
      · rw [cutV_hi (by omega), cutV_lo (by omega)] at h8
        have X7 : ExS st H H7 := X6.trans x7
        have nst : pr ≠ st := by
          obtain ⟨_, _, hst⟩ := hs7
          exact (ne_of_none hst n8).symm
        have np8 : H pr = none := by
          cases c : H pr with
          | none => rfl
          | some o =>
            have := X7 _ _ nst c
            rw [n8] at this
            cases this
        have hall : ∀ x ∈ xs ++ [Rat.divInt left b], Shr x ∧ Ml b x := by
          intro x hx'
          rcases List.mem_append.mp hx' with h | h
          · exact hx x h
          · rw [List.mem_singleton.mp h]
            exact ⟨shr_div l0 lb b0 (by omega), ml_div left b0⟩
        have hmem : ∀ x ∈ (xs ++ [Rat.divInt left b]).drop k ++ (xs ++ [Rat.divInt left b]).take k, Shr x ∧ Ml b x := by
          intro x hx'
          rcases List.mem_append.mp hx' with h | h
          · exact hall x (List.mem_of_mem_drop h)
          · exact hall x (List.mem_of_mem_take h)
        have h1 : sumF 0 (xs ++ [Rat.divInt left b]) = 1 := by
          have e : sumF 0 (xs ++ [Rat.divInt left b]) * (b : Rat) = b := by
            rw [sumF_snoc, Rat.add_mul, hsum, div_eq left b0]
            grind
          have hb' : (b : Rat) ≠ 0 := by
            intro z
            have : b = 0 := by exact_mod_cast z
            omega
          grind
        refine q pr _ _ H8 np8 (hs7.mono e8) (X7.trans (ExS.of e8)) h8 (((hR7.drop k).append (hR7.take k)).mono e8) ⟨?_, fun x hx' => (hmem x hx').1, by rw [sumF_rot, h1]⟩ ⟨b, b0, bw, fun x hx' => (hmem x hx').2⟩
        rw [hR6.length] at hlen
        rw [List.length_append, List.length_drop, List.length_take, hlen]
        omega
end
end NF

namespace NF
open PySem PySem.Spec PyProof.Rows L2 Evl
abbrev s__law_kit : Stmt := topS 44
theorem sc__law_kit : FnScope ["_law_bag_here", "_law_most", "_law_wide", "_law_many", "_law_words", "_law_way", "_law_names", "_law_goes_here", "_law_place", "_law_at"] ["_law_bag_here", "_law_most", "_law_wide"] (defScope s__law_kit) := ⟨rfl, rfl, rfl, by decide +kernel, rfl, by decide +kernel, by decide +kernel⟩
theorem mk_a : NF.Mk (Str.ofString "a") := ⟨by decide +kernel, by decide +kernel, by decide +kernel⟩
theorem mk_b : NF.Mk (Str.ofString "b") := ⟨by decide +kernel, by decide +kernel, by decide +kernel⟩
theorem mk_zz : NF.Mk (Str.ofString "zz") := ⟨by decide +kernel, by decide +kernel, by decide +kernel⟩
theorem way_pick {w : Int} (h0 : 0 ≤ w) (h4 : w < 4) : ∃ k : Nat, 0 < k ∧ k ≤ 6 ∧ atI [V.int 1, .int 2, .int 3, .int 6] w = some (.int (k : Int)) := by
  have : w = 0 ∨ w = 1 ∨ w = 2 ∨ w = 3 := by omega
  rcases this with rfl | rfl | rfl | rfl
  · exact ⟨1, by omega, by omega, atI_nat (j := 0) rfl⟩
  · exact ⟨2, by omega, by omega, atI_nat (j := 1) rfl⟩
  · exact ⟨3, by omega, by omega, atI_nat (j := 2) rfl⟩
  · exact ⟨6, by omega, by omega, atI_nat (j := 3) rfl⟩
theorem fresh_exS {st p : Addr} {H H1 : Hp} (e : ExS st H H1) (n : H1 p = none) (ne : p ≠ st) : H p = none := by
  cases c : H p with
  | none => rfl
  | some o =>
    have := e _ _ ne c
    rw [n] at this
    cases this
theorem Bg.ne {st p : Addr} {H : Hp} (h : Bg st H) (n : H p = none) : p ≠ st := by
  obtain ⟨_, _, hst⟩ := h
  exact (ne_of_none hst n).symm
theorem add_raw {Q : VK} {H : Hp} {i j k : Int} (e : i + j = k) (q : Q (.int k) H) : rI0 (fun i j => .int (i + j)) (.int i) (.int j) H Q := ⟨i, j, rfl, rfl, by subst e; exact q⟩
theorem Rows.getElem {K : PySem.W.Frag} {H : Hp} {vs : List V} {xss : List (List Rat)} {i : Nat} (h : Rows K H vs xss) (hi : i < vs.length) : ∃ p us xs, vs[i]? = some (.ref p) ∧ xss[i]? = some xs ∧ SqL K H p us ∧ RtAll K H us xs := by
  obtain ⟨p, us, xs, e1, e2, h1, h2⟩ := h.get (List.getElem?_eq_getElem hi)
  exact ⟨p, us, xs, by rw [List.getElem?_eq_getElem hi, e1], e2, h1, h2⟩
section
variable {P : Program} {w : World} {K : PySem.W.Frag} {mg : Str → Option Value} {base : Heap} {f : Addr} {fd : FuncData}
theorem ok_kit (F : Fun K "_law_kit" "_law_kit" s__law_kit f fd) (n_range : mg "range" = none) (n_list : mg "list" = none) (C__law_out : Cal P w K mg base 1 "_law_out" ["_law_bag_here", "_law_many"] [] spOut) (C__law_word : Cal P w K mg base 2 "_law_word" ["_law_bag_here"] [] spWord) (C__law_goes : Cal P w K mg base 2 "_law_goes" ["_law_bag_here", "_law_many", "_law_wide"] [] (spGoes K)) :
    FnOk P w K mg base CX0 3 f fd ["_law_bag_here", "_law_most", "_law_wide"] (spKit K) := by
  refine F.ok sc__law_kit (fun vs H Q E h => ?_) (fun cdv A outer s H vs Q E hr h => ?_)
  · obtain ⟨_, _, rfl, _⟩ := h
    rfl
  · obtain ⟨st, wide, rfl, hs, w6, w9, q⟩ := h
    refine ⟨_, (pss_cons (ps_set (i := 3) sc__law_kit.nd rfl (.inl rfl) (pe_op op_add pe_int (pe_cal C__law_out hr (by decide) (by rfl) (pa_cons (pv 0) (pa_cons (pv 1) pa_nil)))))
      (pss_cons (ps_set (i := 4) sc__law_kit.nd rfl (.inl rfl) (pe_lst (pa_cons (pe_cal C__law_word hr (by decide) (by rfl) (pa_cons (pv 0) pa_nil)) (pa_cons (pe_cal C__law_word hr (by decide) (by rfl) (pa_cons (pv 0) pa_nil)) (pa_cons pe_str (pa_cons pe_str (pa_cons (pe_cal C__law_word hr (by decide) (by rfl) (pa_cons (pv 0) pa_nil)) (pa_cons pe_str pa_nil))))))))
      (pss_cons (ps_set (i := 5) sc__law_kit.nd rfl (.inl rfl) (pe_cal C__law_out hr (by decide) (by rfl) (pa_cons (pv 0) (pa_cons pe_int pa_nil))))
      (pss_cons (ps_set (i := 6) sc__law_kit.nd rfl (.inl rfl) (pe_lst pa_nil))
      (pss_cons (ps_set (i := 7) sc__law_kit.nd rfl (.inl rfl) (pe_lst pa_nil))
      (pss_cons (ps_for PassesOwn.never rfl (pi_range1 (by rfl) n_range (pa_cons (pv 3) pa_nil)) (pg_name (i := 8) sc__law_kit.nd rfl (.inl rfl)) (pss_cons (ps_set (i := 9) sc__law_kit.nd rfl (.inl rfl) (pe_cal C__law_out hr (by decide) (by rfl) (pa_cons (pv 0) (pa_cons (pe_op op_add (pv 8) pe_int) pa_nil))))
      (pss_one (ps_if (PW.pt (pw_and (pt_cmpR op_lt (pv 9) (pv 8) (nomark _)) (pw_and1 (pt_cmpR op_eq (pv 5) pe_int (nomark _))))) (pss_cons (ps_expr (pe_bm PySem.F.plainAttrs_list PySem.F.slot_list_append PySem.F.type_list_append mt_append (pv 6) (pa_cons (pe_ix ix_list (pv 6) (pv 9) (fun _ _ => rfl)) pa_nil)))
      (pss_one (ps_expr (pe_bm PySem.F.plainAttrs_list PySem.F.slot_list_append PySem.F.type_list_append mt_append (pv 7) (pa_cons (pe_callTy (call_listK (K := K) rfl) (by rfl) n_list PyProof.Rows.boot_list (pa_cons (pe_ix ix_list (pv 7) (pv 9) (fun _ _ => rfl)) pa_nil)) pa_nil))))) (pss_cons (ps_expr (pe_bm PySem.F.plainAttrs_list PySem.F.slot_list_append PySem.F.type_list_append mt_append (pv 6) (pa_cons (pe_ix ix_list (pv 4) (pe_cal C__law_out hr (by decide) (by rfl) (pa_cons (pv 0) (pa_cons (pe_ix ix_list (pe_lst (pa_cons pe_int (pa_cons pe_int (pa_cons pe_int (pa_cons pe_int pa_nil))))) (pv 5) (fun _ _ => rfl)) pa_nil))) (fun _ _ => rfl)) pa_nil)))
      (pss_one (ps_expr (pe_bm PySem.F.plainAttrs_list PySem.F.slot_list_append PySem.F.type_list_append mt_append (pv 7) (pa_cons (pe_cal C__law_goes hr (by decide) (by rfl) (pa_cons (pv 0) (pa_cons (pv 3) (pa_cons (pv 2) pa_nil)))) pa_nil)))))))))
      (pss_one (ps_ret (pe_tup (pa_cons (pv 6) (pa_cons (pv 7) pa_nil))))))))))), ?_⟩
    refine q_raw (op_raw (c_raw ?_))
    refine out_ev 6 rfl (ev_var rfl) hs (by decide) (by decide) fun d H1 d0 d6 hs1 x1 => ?_
    obtain ⟨many, hmany⟩ : ∃ many : Nat, 1 + d = (many : Int) := ⟨(1 + d).toNat, by omega⟩
    refine add_raw hmany ?_
    have m1 : 1 ≤ many := by omega
    have m6 : many ≤ 6 := by omega
    refine q_raw (lst_raw (cons_raw ?_))
    refine word_ev rfl hs1 fun z1 H2 k1 hs2 x2 => ?_
    refine cons_raw ?_
    refine word_ev rfl hs2 fun z2 H3 k2 hs3 x3 => ?_
    refine cons_raw (c_raw (cons_raw (c_raw (cons_raw ?_))))
    refine word_ev rfl hs3 fun z3 H4 k3 hs4 x4 => ?_
    refine cons_raw (c_raw (nil_raw ⟨by show 6 ≤ sizeLine; decide, fun pw npw => ?_⟩))
    have X4 : ExS st H H4 := ((x1.trans x2).trans x3).trans x4
    have wst : pw ≠ st := hs4.ne npw
    have hs5 := hs4.new (o := .lst [.str z1, .str z2, .str (Str.ofString "a"), .str (Str.ofString "b"), .str z3, .str (Str.ofString "zz")]) npw
    have ew : ([.str z1, .str z2, .str (Str.ofString "a"), .str (Str.ofString "b"), .str z3, .str (Str.ofString "zz")] : List V) = ([z1, z2, Str.ofString "a", Str.ofString "b", z3, Str.ofString "zz"] : List Str).map V.str := rfl
    have kw : ∀ z ∈ ([z1, z2, Str.ofString "a", Str.ofString "b", z3, Str.ofString "zz"] : List Str), NF.Mk z := by
      intro z hz
      simp only [List.mem_cons, List.not_mem_nil, or_false] at hz
      rcases hz with rfl | rfl | rfl | rfl | rfl | rfl
      · exact k1
      · exact k2
      · exact mk_a
      · exact mk_b
      · exact k3
      · exact mk_zz
    have lw : ([z1, z2, Str.ofString "a", Str.ofString "b", z3, Str.ofString "zz"] : List Str).length = 6 := rfl
    rw [ew] at hs5 ⊢
    generalize ([z1, z2, Str.ofString "a", Str.ofString "b", z3, Str.ofString "zz"] : List Str) = ws at hs5 kw lw ⊢
    refine q_raw ?_
    refine out_ev 4 rfl ev_c hs5 (by decide) (by decide) fun way H6 w0 w4 hs6 x6 => ?_
    have hw6 : H6 pw = some (.lst (ws.map V.str)) := x6 _ _ wst upd_same
    have X6 : ExS st H H6 := (X4.trans (ExS.of (Ex.new npw))).trans x6
    refine q_asgL (el_lst ea_nil (by show 0 ≤ 100000; decide)) fun pn H7 nn e7 hn => ?_
    refine q_asgL (el_lst ea_nil (by show 0 ≤ 100000; decide)) fun pg H8 ng e8 hg => ?_
    have E8 := e7.trans e8
    have X8 : ExS st H H8 := X6.trans (ExS.of E8)
    have nst : pn ≠ st := hs6.ne nn
    have gst : pg ≠ st := (hs6.mono e7).ne ng
    have ngn : pg ≠ pn := (ne_of_none hn ng).symm
    have nnH : H pn = none := fresh_exS X6 nn nst
    have ngH : H pg = none := fresh_exS (X6.trans (ExS.of e7)) ng gst
    have wn : pw ≠ pn := ne_of_none hw6 nn
    have wg : pw ≠ pg := ne_of_none (e7 _ _ hw6) ng
    refine q_forR1 (n := (many : Int)) (ea_cons (ev_var rfl) ea_nil) (by omega) (fun i σ' H' => ∃ (zs : List Str) (us : List V) (xss : List (List Rat)) (y8 y9 : Option V), σ' = [some (.ref st), some (.int 6), some (.int (wide : Int)), some (.int (many : Int)), some (.ref pw), some (.int way), some (.ref pn), some (.ref pg), y8, y9] ∧
      H' pw = some (.lst (ws.map V.str)) ∧ H' pn = some (.lst (zs.map V.str)) ∧ H' pg = some (.lst us) ∧ Rows K (Off [st, pn, pg] H') us xss ∧ zs.length = i ∧ xss.length = i ∧ (∀ z ∈ zs, NF.Mk z) ∧ (∀ xs ∈ xss, Shs xs many) ∧ Bot wide xss ∧ Bg st H' ∧ ExS st H H') (fun H9 e9 => ?_) ?_ ?_
    · exact ⟨[], [], [], none, none, rfl, e9 _ _ (E8 _ _ hw6), e9 _ _ (e8 _ _ hn), e9 _ _ hg, .nil, rfl, rfl, nofun, nofun, nofun, (hs6.mono E8).mono e9, X8.trans (ExS.of e9)⟩
    · rintro i σ' H9 hi ⟨zs, us, xss, y8, y9, rfl, hw9, hn9, hg9, hR, lz, lx, kz, sx, bx, hs9, X9⟩
      refine q_raw ?_
      refine out_ev ((i : Int) + 1) rfl (ev_op (ev_var rfl) ev_c rv_I0) hs9 (by omega) (by omega) fun at_ H10 a0 ai hs10 x10 => ?_
      obtain ⟨k, rfl⟩ : ∃ k : Nat, at_ = (k : Int) := ⟨at_.toNat, by omega⟩
      have hw10 : H10 pw = some (.lst (ws.map V.str)) := x10 _ _ wst hw9
      have hn10 : H10 pn = some (.lst (zs.map V.str)) := x10 _ _ nst hn9
      have hg10 : H10 pg = some (.lst us) := x10 _ _ gst hg9
      have hR10 : Rows K (Off [st, pn, pg] H10) us xss := hR.mono (Off.ex fun b o hb h => x10 _ _ (fun z => hb (by rw [z]; exact List.mem_cons_self ..)) h)
      have X10 := X9.trans x10
      have lu : us.length = i := by rw [hR.length, lx]
      refine s_if (et_and (et_test (ev_op (ev_var rfl) (ev_var rfl) rv_I0)) fun _ => et_test (ev_op (ev_var rfl) ev_c (rv_eq rfl))) (fun hb H11 e11 => ?_) (fun hb H11 e11 => ?_)
      · have hk : k < i := by
          have := of_decide_eq_true (Bool.and_eq_true_iff.mp hb).1
          omega
        have hz : zs[k]? = some zs[k] := List.getElem?_eq_getElem (by omega)
        have hzm : zs[k] ∈ zs := List.getElem_mem _
        refine q_app (K := K) (v := .str zs[k]) (e11 _ _ hn10) (ev_var rfl) (ev_op (ev_var rfl) (ev_var rfl) (rv_ixL (SqL.of (e11 _ _ hn10)) (atI_nat (by rw [List.getElem?_map, hz]; rfl)))) (by rw [List.length_map]; omega) fun H12 e12 => ?_
        obtain ⟨p, rs, xs, hp1, hp2, hp3, hp4⟩ := hR10.getElem (i := k) (by omega)
        have O12 : Ex (Off [st, pn, pg] H10) (Off [st, pn, pg] (upd H12 pn (.lst (zs.map V.str ++ [.str zs[k]])))) := Off.ex fun b o hb h => by
          rw [upd_ne (fun z => hb (by rw [z]; simp))]
          exact e12 _ _ (e11 _ _ h)
        have hg12 : (upd H12 pn (.lst (zs.map V.str ++ [.str zs[k]]))) pg = some (.lst us) := by
          rw [upd_ne ngn]
          exact e12 _ _ (e11 _ _ hg10)
        have hp3' := ex_l (O12.trans Off.le) hp3
        refine s_appL (K := K) hg12 (ev_var rfl) (el_listOf (K := K) (ev_op (ev_var rfl) (ev_var rfl) (rv_ixL (SqL.of hg12) (atI_nat hp1))) hp3') (by omega) fun pr H13 nr e13 hr13 => ?_
        have rst : pr ≠ st := (((hs10.mono e11).mono e12).upd nst).ne nr
        have rpn : pr ≠ pn := (ne_of_none (upd_same (H := H12)) nr).symm
        have rpg : pr ≠ pg := (ne_of_none hg12 nr).symm
        have O13 : Ex (Off [st, pn, pg] H10) (Off [st, pn, pg] (upd H13 pg (.lst (us ++ [.ref pr])))) := O12.trans (Off.ex fun b o hb h => by
          rw [upd_ne (fun z => hb (by rw [z]; simp))]
          exact e13 _ _ h)
        have hrO : SqL K (Off [st, pn, pg] (upd H13 pg (.lst (us ++ [.ref pr])))) pr rs := Off.lst (by simp [rst, rpn, rpg]) (SqL.of (by rw [upd_ne rpg]; exact hr13))
        have hxm : xs ∈ xss := List.mem_of_getElem? hp2
        refine ⟨zs ++ [zs[k]], us ++ [.ref pr], xss ++ [xs], _, _, rfl, ?_, ?_, upd_same, (hR10.mono O13).snoc hrO (hp4.mono O13), by simp [lz], by simp [lx], ?_, ?_, ?_, ?_, ?_⟩
        · rw [upd_ne wg]
          exact e13 _ _ (by rw [upd_ne wn]; exact e12 _ _ (e11 _ _ hw10))
        · rw [upd_ne ngn.symm, List.map_append]
          exact e13 _ _ upd_same
        · intro z hz'
          rcases List.mem_append.mp hz' with h | h
          · exact kz z h
          · rw [List.mem_singleton.mp h]
            exact kz _ hzm
        · intro z hz'
          rcases List.mem_append.mp hz' with h | h
          · exact sx z h
          · rw [List.mem_singleton.mp h]
            exact sx _ hxm
        · intro z hz'
          rcases List.mem_append.mp hz' with h | h
          · exact bx z h
          · rw [List.mem_singleton.mp h]
            exact bx _ hxm
        · exact ((((hs10.mono e11).mono e12).upd nst).mono e13).upd gst
        · intro b o hb h
          rw [upd_ne (ne_of_none h ngH)]
          exact e13 _ _ (by rw [upd_ne (ne_of_none h nnH)]; exact e12 _ _ (e11 _ _ (X10 _ _ hb h)))
      · refine qapp_raw (K := K) rfl (e11 _ _ hn10) (op_raw (v_raw rfl ?_))
        obtain ⟨kk, kk0, kk6, hkk⟩ := way_pick w0 w4
        have ewl : EvL (tLst (tCons (tC (.int 1)) (tCons (tC (.int 2)) (tCons (tC (.int 3)) (tCons (tC (.int 6)) tNil))))) [some (.ref st), some (.int 6), some (.int (wide : Int)), some (.int (many : Int)), some (.ref pw), some (.int way), some (.ref pn), some (.ref pg), some (.int (i : Int)), some (.int (k : Int))] H11 [.int 1, .int 2, .int 3, .int 6] := el_lst (ea_cons ev_c (ea_cons ev_c (ea_cons ev_c (ea_cons ev_c ea_nil)))) (by show 4 ≤ 100000; decide)
        refine out_ev (kk : Int) rfl (ev_opL1 (r := rIxL K) ewl (fun _ _ => ev_var rfl) fun p H' hp e => rv_ixL (SqL.of hp) hkk) (hs10.mono e11) (by omega) (by omega) fun g H12 g0 gk hs12 x12 => ?_
        obtain ⟨j, rfl⟩ : ∃ j : Nat, g = (j : Int) := ⟨g.toNat, by omega⟩
        have hj : ws[j]? = some ws[j] := List.getElem?_eq_getElem (by omega)
        have hjm : ws[j] ∈ ws := List.getElem_mem _
        have hw12 : H12 pw = some (.lst (ws.map V.str)) := x12 _ _ wst (e11 _ _ hw10)
        have hn12 : H12 pn = some (.lst (zs.map V.str)) := x12 _ _ nst (e11 _ _ hn10)
        have hg12 : H12 pg = some (.lst us) := x12 _ _ gst (e11 _ _ hg10)
        refine ⟨pw, _, (j : Int), .str ws[j], rfl, rfl, SqL.of hw12, atI_nat (by rw [List.getElem?_map, hj]; rfl), ?_⟩
        refine ⟨_, hn12, sz_lt' (by rw [List.length_map]; omega), ?_⟩
        have O12 : Ex (Off [st, pn, pg] H10) (Off [st, pn, pg] (upd H12 pn (.lst (zs.map V.str ++ [.str ws[j]])))) := Off.ex fun b o hb h => by
          rw [upd_ne (fun z => hb (by rw [z]; simp))]
          exact x12 _ _ (fun z => hb (by rw [z]; simp)) (e11 _ _ h)
        have hg12' : (upd H12 pn (.lst (zs.map V.str ++ [.str ws[j]]))) pg = some (.lst us) := by
          rw [upd_ne ngn]
          exact hg12
        refine sapp_raw (K := K) rfl hg12' ?_
        refine goes_ev (K := K) rfl rfl rfl (hs12.upd nst) m1 m6 w6 w9 fun pr rs xs H13 nr hs13 x13 hr13 hx13 sh13 bt13 => ?_
        have rst : pr ≠ st := (hs12.upd nst).ne nr
        have rpn : pr ≠ pn := (ne_of_none (upd_same (H := H12)) nr).symm
        have rpg : pr ≠ pg := (ne_of_none hg12' nr).symm
        have hg13 : H13 pg = some (.lst us) := x13 _ _ gst hg12'
        have hn13 : H13 pn = some (.lst (zs.map V.str ++ [.str ws[j]])) := x13 _ _ nst upd_same
        refine ⟨us, hg13, sz_lt' (by omega), ?_⟩
        have O13 : Ex (Off [st, pn, pg] H10) (Off [st, pn, pg] (upd H13 pg (.lst (us ++ [.ref pr])))) := O12.trans (Off.ex fun b o hb h => by
          rw [upd_ne (fun z => hb (by rw [z]; simp))]
          exact x13 _ _ (fun z => hb (by rw [z]; simp)) h)
        have hs14 : Bg st (upd H13 pg (.lst (us ++ [.ref pr]))) := hs13.upd gst
        have hrO : SqL K (Off [st, pn, pg] (upd H13 pg (.lst (us ++ [.ref pr])))) pr rs := Off.lst (by simp [rst, rpn, rpg]) (SqL.of (by rw [upd_ne rpg]; exact hr13))
        have hx14 : RtAll K (upd H13 pg (.lst (us ++ [.ref pr]))) rs xs := hx13.exLst Exs.upd hg13
        have hxO : RtAll K (Off [st, pn, pg] (upd H13 pg (.lst (us ++ [.ref pr])))) rs xs := Off.rt (fun b hb => by
          simp only [List.mem_cons, List.not_mem_nil, or_false] at hb
          rcases hb with rfl | rfl | rfl
          · obtain ⟨_, _, h⟩ := hs14
            exact ⟨_, h⟩
          · exact ⟨_, by rw [upd_ne ngn.symm]; exact hn13⟩
          · exact ⟨_, upd_same⟩) hx14
        refine ⟨zs ++ [ws[j]], us ++ [.ref pr], xss ++ [xs], _, _, rfl, ?_, ?_, upd_same, (hR10.mono O13).snoc hrO hxO, by simp [lz], by simp [lx], ?_, ?_, ?_, hs14, ?_⟩
        · rw [upd_ne wg]
          exact x13 _ _ wst (by rw [upd_ne wn]; exact hw12)
        · rw [upd_ne ngn.symm, List.map_append]
          exact hn13
        · intro z hz'
          rcases List.mem_append.mp hz' with h | h
          · exact kz z h
          · rw [List.mem_singleton.mp h]
            exact kw _ hjm
        · intro z hz'
          rcases List.mem_append.mp hz' with h | h
          · exact sx z h
          · rw [List.mem_singleton.mp h]
            exact sh13
        · intro z hz'
          rcases List.mem_append.mp hz' with h | h
          · exact bx z h
          · rw [List.mem_singleton.mp h]
            exact bt13
        · intro b o hb h
          rw [upd_ne (ne_of_none h ngH)]
          exact x13 _ _ hb (by rw [upd_ne (ne_of_none h nnH)]; exact x12 _ _ hb (e11 _ _ (X10 _ _ hb h)))
    · rintro σ' H9 ⟨zs, us, xss, y8, y9, rfl, hw9, hn9, hg9, hR, lz, lx, kz, sx, bx, hs9, X9⟩
      rw [Int.toNat_natCast] at lz lx
      refine s_retU (eu_tup (ea_cons (ev_var rfl) (ea_cons (ev_var rfl) ea_nil)) (by show 2 ≤ 100000; decide)) fun p H10 np e10 hp => ?_
      have npH : H p = none := fresh_exS X9 np (hs9.ne np)
      exact q p pn pg zs us xss H10 npH nnH ngH (hs9.mono e10) (X9.trans (ExS.of e10)) hp ⟨e10 _ _ hn9, e10 _ _ hg9, hR.mono (Off.le.trans e10), by omega, by omega, kz, by omega, by rw [lz]; exact sx⟩ bx
end
end NF

namespace NF
open PySem PySem.Spec PyProof.Rows L2 Evl
abbrev s__law_led : Stmt := topS 45
theorem sc__law_led : FnScope ["_law_goes_here", "_law_chances", "_law_found", "_law_place", "_law_share", "_law_here"] ["_law_goes_here", "_law_chances"] (defScope s__law_led) := ⟨rfl, rfl, rfl, by decide +kernel, rfl, by decide +kernel, by decide +kernel⟩
section
variable {K : PySem.W.Frag} {H H1 H2 : Hp} {σ : L2.St} {ta tb te tl : TE} {v w u : V} {x y : Rat} {E : XK} {D : Ends} {tz t1 t2 : TS} {tc : TT} {tA : TA} {Q : VK} {l st C m : Addr} {xs ys : List Rat} {zs : List Str} {xss : List (List Rat)}
theorem make_ev {i j : Nat} {a b : Addr} {us : List V} (h1 : σ[i]? = some (some (.ref a))) (h2 : σ[j]? = some (some (.ref b))) (hk : KitAt K H a b zs us xss) (q : ∀ m H', H m = none → Ex H H' → MaAt K C H' m zs xss → Q (.ref m) H') : tMake C (spInit K C) [] E (tCons (tVar i) (tCons (tVar j) tNil)) σ H Q :=
  ⟨_, h1, _, h2, fun x dx nx ndx nex => by
    obtain ⟨k1, k2, k3, k4⟩ := hk
    have e1 : Ex H (upd (upd H dx (.own x)) x (.ins C dx [])) := Ex.updN (Ex.new ndx) nx
    exact ⟨x, dx, a, b, zs, us, xss, rfl, upd_same, SqL.of (e1 _ _ k1), SqL.of (e1 _ _ k2), k3.mono e1, k4, fun H' h' hM => ⟨rfl, q x H' nx (fun b o hb => h' b o (e1 _ _ hb) (ne_of_none hb nx)) hM⟩⟩⟩
theorem er_where {dvs vs : List V} {r k : Nat} (h : EvA tA σ H vs) (hv : vs ++ dvs = [.ref m, .int (r : Int), .int (k : Int)]) (hm : MaAt K C H m zs xss) (hg : Good zs xss) (hr : r < zs.length) (hk : k ≤ 12) (hz : ∀ j, j ≤ k → ∀ c ∈ walk xss r j, Sz 245 c) : EvR K (tCall (spWhere K C) dvs E tA) σ H (walk xss r k) := fun H1 e Q q =>
  h H1 e _ fun H2 e2 => ⟨m, zs, xss, r, k, hv, hm.mono (e.trans e2), hg, hr, hk, hz, fun p us H' np e3 hp hR => q p us H' (fresh_back e2 np) (e2.trans e3) hp hR⟩
theorem er_whereN {tK : TA} {gV : List V → List V → List V} {vs ws : List V} {n k' : Nat} {r k : Nat} (h : EvA tA σ H vs) (hK : EvA tK σ H ws) (hv : gV vs ws = [.ref m, .int (r : Int), .int (k : Int)]) (hn : vs.length = n) (hw : ws.length = k') (hm : MaAt K C H m zs xss) (hg : Good zs xss) (hr : r < zs.length) (hk : k ≤ 12) (hz : ∀ j, j ≤ k → ∀ c ∈ walk xss r j, Sz 245 c) : EvR K (tCallN n k' (spWhere K C) gV E tA tK) σ H (walk xss r k) := fun H1 e Q q =>
  h H1 e _ fun H2 e2 => hK H2 (e.trans e2) _ fun H3 e3 => ⟨hn, hw, m, zs, xss, r, k, hv, hm.mono ((e.trans e2).trans e3), hg, hr, hk, hz, fun p us H' np e4 hp hR => q p us H' (fresh_back (e2.trans e3) np) ((e2.trans e3).trans e4) hp hR⟩
theorem er_sharesOf {r : Nat} (h : Ev ta σ H (.ref m)) (h2 : Ev tb σ H (.int (r : Int))) (hm : MaAt K C H m zs xss) (hg : Good zs xss) (hr : r < zs.length) (hx : xss[r]? = some xs) : EvR K (tMeth C "shares_of" (spSharesOf K C) [] E ta (tCons tb tNil)) σ H xs := fun H1 e Q q =>
  h H1 e _ fun H2 e2 => by
    have hm2 := hm.mono (e.trans e2)
    obtain ⟨dx, am, as, us, h1, _⟩ := id hm2
    exact ⟨m, dx, _, rfl, h1, rfl, h2 H2 (e.trans e2) _ fun H3 e3 => ⟨m, zs, xss, r, xs, rfl, hm2.mono e3, hg, hr, hx, fun p us H' np e4 hp hR => q p us H' (fresh_back (e2.trans e3) np) ((e2.trans e3).trans e4) hp hR⟩⟩
end
theorem getD_get {α : Type} {l : List α} {i : Nat} {d : α} (h : i < l.length) : l[i]? = some (l.getD i d) := by
  rw [List.getD_eq_getElem?_getD, List.getElem?_eq_getElem h]
  rfl
def spLaw (K : PySem.W.Frag) : Sp := fun vs H Q _ => ∃ (a : Addr) (ns : List Int), vs = [.ref a] ∧ SqL K H a (ns.map V.int) ∧ ns.length ≤ 63 ∧ ∀ H', Q (.bl true) H'
/-- where(machine, steps = s, room = r) -/
def swW {α : Type} : List α → List α → List α
  | [m], [s, r] => [m, r, s]
  | vs, _ => vs
section
variable {P : Program} {w : World} {K : PySem.W.Frag} {mg : Str → Option Value} {base : Heap} {f : Addr} {fd : FuncData} {cM : Addr}
theorem ok_led (F : Fun K "_law_led" "_law_led" s__law_led f fd) (n_range : mg "range" = none) (n_len : mg "len" = none) (C__law_add : Cal P w K mg base 2 "_law_add" ["_law_one", "_law_other"] [] (sp2 K (fun _ _ => True) (· + ·))) (C__law_mul : Cal P w K mg base 2 "_law_mul" ["_law_one", "_law_other"] [] (sp2 K (fun _ _ => True) (· * ·))) : FnOk P w K mg base CX0 3 f fd ["_law_goes_here", "_law_chances"] (spStep K) := by
  refine F.ok sc__law_led (fun vs H Q E h => ?_) (fun cdv A outer s H vs Q E hr h => ?_)
  · obtain ⟨_, _, _, _, _, _, rfl, _⟩ := h
    rfl
  · obtain ⟨a, b, us, ws, xss, cs, rfl, ha, hR, hb, hc, h6, hl, hs, hz, q⟩ := h
    refine ⟨_, (pss_cons (ps_set (i := 2) sc__law_led.nd rfl (.inl rfl) (pe_lst pa_nil))
      (pss_cons (ps_for PassesOwn.never rfl (pi_range1 (by rfl) n_range (pa_cons (pe_callB call_len_seq (by rfl) n_len PySem.boot_len (pa_cons (pv 0) pa_nil)) pa_nil)) (pg_name (i := 3) sc__law_led.nd rfl (.inl rfl)) (pss_cons (ps_set (i := 4) sc__law_led.nd rfl (.inl rfl) (pe_tup (pa_cons pe_int (pa_cons pe_int pa_nil))))
      (pss_cons (ps_for PassesOwn.never rfl (pi_range1 (by rfl) n_range (pa_cons (pe_callB call_len_seq (by rfl) n_len PySem.boot_len (pa_cons (pv 0) pa_nil)) pa_nil)) (pg_name (i := 5) sc__law_led.nd rfl (.inl rfl)) (pss_one (ps_set (i := 4) sc__law_led.nd rfl (.inl rfl) (pe_cal C__law_add hr (by decide) (by rfl) (pa_cons (pv 4) (pa_cons (pe_cal C__law_mul hr (by decide) (by rfl) (pa_cons (pe_ix ix_list (pv 1) (pv 5) (fun _ _ => rfl)) (pa_cons (pe_ix ix_list (pe_ix ix_list (pv 0) (pv 5) (fun _ _ => rfl)) (pv 3) (fun _ _ => rfl)) pa_nil))) pa_nil))))))
      (pss_one (ps_expr (pe_bm PySem.F.plainAttrs_list PySem.F.slot_list_append PySem.F.type_list_append mt_append (pv 2) (pa_cons (pv 4) pa_nil)))))))
      (pss_one (ps_ret (pv 2))))), ?_⟩
    have hlu : us.length = xss.length := hR.length
    have szc : ∀ r, Sz 245 (cs.getD r 0) := getD_ok ⟨by decide, by decide⟩ hz
    have szs : ∀ r to, Sz 245 ((xss.getD r []).getD to 0) := getD_row ⟨by decide, by decide⟩ fun xs hx x h => (((hs xs hx).2.1 x h).sz).mono (by decide)
    refine q_asgL (el_lst ea_nil (by show 0 ≤ 100000; decide)) fun pf H1 nf e1 hf => ?_
    refine q_forR1 (n := (xss.length : Int)) (ea_cons (ev_is (ev_len (K := K) (ev_var rfl) (ex_l e1 ha)) (by rw [hlu])) ea_nil) (by omega) (fun i σ' H' => ∃ (vs : List V) (y3 y4 y5 : Option V), σ' = [some (.ref a), some (.ref b), some (.ref pf), y3, y4, y5] ∧ H' pf = some (.lst vs) ∧ RtAll K H' vs ((List.range i).map (dot xss cs)) ∧ Ex H H') (fun H2 e2 => ⟨[], none, none, none, rfl, e2 _ _ hf, .nil, e1.trans e2⟩) ?_ ?_
    · rintro to σ' H2 hto ⟨vs, y3, y4, y5, rfl, hf2, hR2, E2⟩
      have hto' : to < xss.length := by omega
      refine q_asgF (K := K) (x := 0) (ef_tup (eu_tup (ea_cons ev_c (ea_cons ev_c ea_nil)) (by show 2 ≤ 100000; decide)) rfl rfl) fun v3 H3 e3 r3 => ?_
      refine q_forR1 (n := (xss.length : Int)) (ea_cons (ev_is (ev_len (K := K) (ev_var rfl) (ex_l (E2.trans e3) ha)) (by rw [hlu])) ea_nil) (by omega) (fun i σ' H' => ∃ (v : V) (y5 : Option V), σ' = [some (.ref a), some (.ref b), some (.ref pf), some (.int (to : Int)), some v, y5] ∧ Rt K H' v (Su i fun r => cs.getD r 0 * (xss.getD r []).getD to 0) ∧ Ex H2 H') (fun H4 e4 => ⟨v3, y5, rfl, r3.mono e4, e3.trans e4⟩) ?_ ?_
      · rintro i σ' H4 hi ⟨v4, y5, rfl, r4, E4⟩
        have hi' : i < xss.length := by omega
        have EE := E2.trans E4
        have hrow : xss[i]? = some (xss.getD i []) := getD_get hi'
        have hmem : xss.getD i [] ∈ xss := List.mem_of_getElem? hrow
        have hitem : (xss.getD i [])[to]? = some ((xss.getD i []).getD to 0) := getD_get (by rw [(hs _ hmem).1]; exact hto')
        have hcr : cs[i]? = some (cs.getD i 0) := getD_get (by omega)
        obtain ⟨pr, wr2, er1, er2, er3⟩ := ev_row (K := K) (σ := [some (.ref a), some (.ref b), some (.ref pf), some (.int (to : Int)), some v4, some (.int (i : Int))]) (ta := tVar 0) (tb := tVar 5) (ev_var rfl) (ev_var rfl) (ex_l EE ha) (hR.mono EE) hrow
        have szp : ∀ r, Sz 491 (cs.getD r 0 * (xss.getD r []).getD to 0) := fun r => (szc r).mul (szs r to)
        have szS : Sz 3444 (Su i fun r => cs.getD r 0 * (xss.getD r []).getD to 0) := by
          have := sz_sum (B := 491) (x0 := 0) (xs := (List.range i).map fun r => cs.getD r 0 * (xss.getD r []).getD to 0) ⟨Nat.pow_pos (by decide), Nat.one_lt_two_pow (by decide)⟩ (fun x hx => by
            obtain ⟨r, _, rfl⟩ := List.mem_map.mp hx
            exact szp r) i (by simp)
          rw [List.take_of_length_le (by simp)] at this
          refine this.mono ?_
          have : (i + 1) * (491 + 1) ≤ 7 * (491 + 1) := Nat.mul_le_mul_right _ (by omega)
          omega
        refine s_asgF (K := K) (EvF.to (ef_2 (f := (· + ·)) (B := 3444) (ef_var rfl r4) (ef_2 (f := (· * ·)) (B := 245) (ef_at (K := K) (ev_var rfl) (ev_var rfl) (ex_l EE hb) (hc.mono EE) hcr) (ef_at (K := K) er1 (ev_var rfl) er2 er3 hitem) True.intro (szc i) (szs i to) (by decide) (by decide)) True.intro szS ((szp i).mono (by decide)) (by decide) (by decide)) (su_succ i fun r => cs.getD r 0 * (xss.getD r []).getD to 0).symm) fun u H5 e5 ru => ?_
        exact ⟨u, _, rfl, ru, E4.trans e5⟩
      · rintro σ' H4 ⟨v4, y5, rfl, r4, E4⟩
        rw [Int.toNat_natCast] at r4
        refine s_appF (K := K) (x := dot xss cs to) rfl (E4 _ _ hf2) (ef_var rfl r4) (by rw [hR2.length]; simp; omega) fun u H5 e5 ru => ?_
        have hf5 := (E4.trans e5) _ _ hf2
        refine ⟨vs ++ [u], _, _, _, rfl, upd_same, ?_, Ex.updN ((E2.trans E4).trans e5) nf⟩
        rw [List.range_succ, List.map_append]
        exact ((hR2.mono (E4.trans e5)).push ru).exLst Exs.upd hf5
    · rintro σ' H2 ⟨vs, y3, y4, y5, rfl, hf2, hR2, E2⟩
      rw [Int.toNat_natCast] at hR2
      exact s_ret (ev_var rfl) fun H3 e3 => q pf vs H3 nf (E2.trans e3) (e3 _ _ hf2) (hR2.mono e3)
end
end NF

namespace NF
open PySem PySem.Spec PyProof.Rows L2 Evl
abbrev s_law : Stmt := topS 46
theorem sc_law : FnScope ["_law_script", "_law_k", "_law_bag_here", "_law_far", "_law_names", "_law_goes_here", "_law_machine", "_law_at", "_law_due", "_law_here", "_law_turn", "_law_found", "_law_one"] ["_law_script"] (defScope s_law) := ⟨rfl, rfl, rfl, by decide +kernel, rfl, by decide +kernel, by decide +kernel⟩
section
variable {P : Program} {w : World} {K : PySem.W.Frag} {mg : Str → Option Value} {base : Heap} {f : Addr} {fd : FuncData} {cM : Addr}
theorem ok_law (F : Fun K "law" "law" s_law f fd) (n_range : mg "range" = none) (n_max : mg "max" = none) (n_min : mg "min" = none) (n_len : mg "len" = none) (n_int : mg "int" = none) (n_repr : mg "repr" = none)
    (C__law_bag : CaG P w K mg base CX0 1 "_law_bag" ["_law_script", "_law_k"] [] (spBag K)) (C__law_out : CaG P w K mg base CX0 1 "_law_out" ["_law_bag_here", "_law_many"] [] spOut) (C__law_kit : CaG P w K mg base CX0 3 "_law_kit" ["_law_bag_here", "_law_most", "_law_wide"] [] (spKit K))
    (C__law_led : CaG P w K mg base CX0 3 "_law_led" ["_law_goes_here", "_law_chances"] [] (spStep K)) (K_Machine : CalK P w K mg base 7 "Machine" cM ["self", "marks", "shares"] (spInit K cM))
    (C_where3 : CaG P w K mg base CX0 6 "where" ["machine", "room", "steps"] [] (spWhere K cM)) (C_where2 : CaG P w K mg base CX0 6 "where" ["machine", "room", "steps"] [.int 1] (spWhere K cM)) (C_where_steps_room : CaN P w K mg base 6 "where" ["machine", "room", "steps"] 1 ["steps", "room"] swW (spWhere K cM))
    (M_shares_of : CalM P w K mg base cM 4 "shares_of" ["self", "room"] (spSharesOf K cM)) : FnG P w K mg base CX0 9 f fd ["_law_script"] (spLaw K) := by
  refine Fun.okG F sc_law (fun vs H Q E h => ?_) (fun cdv A outer s H vs Q E gd hr h => ?_)
  · obtain ⟨a, ns, rfl, _⟩ := h
    rfl
  · obtain ⟨a, ns, rfl, ha, hlen, q⟩ := h
    refine ⟨_, (pss_cons (ps_for PassesOwn.never rfl (pi_range1 (by rfl) n_range (pa_cons (pe_callB (call_max2 rfl) (by rfl) n_max PyProof.Rows.boot_max (pa_cons pe_int (pa_cons (pe_callB (call_min2 rfl) (by rfl) n_min PyProof.Rows.boot_min (pa_cons (pe_callB call_len_seq (by rfl) n_len PySem.boot_len (pa_cons (pv 0) pa_nil)) (pa_cons pe_int pa_nil))) pa_nil))) pa_nil)) (pg_name (i := 1) sc_law.nd rfl (.inl rfl)) (pss_cons (ps_set (i := 2) sc_law.nd rfl (.inl rfl) (pe_caG C__law_bag gd hr (by decide) (by rfl) (pa_cons (pv 0) (pa_cons (pv 1) pa_nil))))
      (pss_cons (ps_set (i := 3) sc_law.nd rfl (.inl rfl) (pe_caG C__law_out gd hr (by decide) (by rfl) (pa_cons (pv 2) (pa_cons pe_int pa_nil))))
      (pss_cons (ps_asg (pe_caG C__law_kit gd hr (by decide) (by rfl) (pa_cons (pv 2) (pa_cons pe_int (pa_cons (pe_ix ix_list (pe_lst (pa_cons pe_int (pa_cons pe_int pa_nil))) (pv 3) (fun _ _ => rfl)) pa_nil)))) (pg_tup rfl (pgs_cons (pg_name (i := 4) sc_law.nd rfl (.inl rfl)) (pgs_cons (pg_name (i := 5) sc_law.nd rfl (.inl rfl)) pgs_nil))))
      (pss_cons (ps_set (i := 6) sc_law.nd rfl (.inl rfl) (pe_calK K_Machine hr (by decide) (by rfl) (pa_cons (pv 4) (pa_cons (pv 5) pa_nil))))
      (pss_cons (ps_set (i := 7) sc_law.nd rfl (.inr rfl) (pe_caG C__law_out gd hr (by decide) (by rfl) (pa_cons (pv 2) (pa_cons (pe_callB call_len_seq (by rfl) n_len PySem.boot_len (pa_cons (pv 4) pa_nil)) pa_nil))))
      (pss_cons (ps_setLc (i := 8) (own := [("_law_here", 9)]) (by rfl) sc_law.nd rfl rfl (sw_true rfl rfl rfl (by decide +kernel)) (pi_range1 (by rfl) n_range (pa_cons (pe_callB call_len_seq (by rfl) n_len PySem.boot_len (pa_cons (pv 4) pa_nil)) pa_nil)) (blkOk_by (own := [("_law_here", 9)]) (N := ["_law_script", "_law_k", "_law_bag_here", "_law_far", "_law_names", "_law_goes_here", "_law_machine", "_law_at", "_law_due", "_law_here", "_law_turn", "_law_found", "_law_one"]) (sc := defScope s_law) (by decide +kernel)) (fun _ _ _ _ _ => (pg_name (i := 9) sc_law.nd rfl (.inl rfl))) (fun _ _ _ _ _ => pts_nil) (fun _ _ _ _ _ => (pe_tup (pa_cons (pe_callTy call_int1 (by rfl) n_int PyProof.Rows.boot_int (pa_cons (pe_cmpR op_eq (pv 9) (pv 7) (nomark _)) pa_nil)) (pa_cons pe_int pa_nil)))))
      (pss_cons (ps_for PassesOwn.never rfl (pi_range1 (by rfl) n_range (pa_cons (pe_ix ix_list (pe_lst (pa_cons pe_int (pa_cons pe_int pa_nil))) (pv 3) (fun _ _ => rfl)) pa_nil)) (pg_name (i := 10) sc_law.nd rfl (.inl rfl)) (pss_cons (ps_set (i := 11) sc_law.nd rfl (.inl rfl) (pe_caG C_where3 gd hr (by decide) (by rfl) (pa_cons (pv 6) (pa_cons (pv 7) (pa_cons (pv 10) pa_nil)))))
      (pss_cons (ps_if (pt_cmpR op_ne (pe_callB (call_rep gd hr.units) (by rfl) n_repr (by decide +kernel) (pa_cons (pv 11) pa_nil)) (pe_callB (call_rep gd hr.units) (by rfl) n_repr (by decide +kernel) (pa_cons (pv 8) pa_nil)) (nomark _)) (pss_one (ps_ret pe_bl)) pss_nil)
      (pss_cons (ps_expr (pe_bm PySem.F.plainAttrs_list PySem.F.slot_list_append PySem.F.type_list_append mt_append (pv 11) (pa_cons pe_non pa_nil)))
      (pss_one (ps_set (i := 8) sc_law.nd rfl (.inl rfl) (pe_caG C__law_led gd hr (by decide) (by rfl) (pa_cons (pv 5) (pa_cons (pv 8) pa_nil)))))))))
      (pss_cons (ps_set (i := 12) sc_law.nd rfl (.inl rfl) (pe_caG C_where2 gd hr (by decide) (by rfl) (pa_cons (pv 6) (pa_cons (pv 7) pa_nil))))
      (pss_cons (ps_if (PW.pt (pw_or (pt_cmpR (op_neD hr.units) (pv 12) (pe_ix ix_list (pv 5) (pv 7) (fun _ _ => rfl)) (nomark _)) (pw_or1 (pt_cmpR (op_neD hr.units) (pe_caN C_where_steps_room hr (by decide) (by rfl) (pa_cons (pv 6) pa_nil) (pk_cons pe_int (pk_cons (pv 7) pk_nil))) (pv 12) (nomark _))))) (pss_one (ps_ret pe_bl)) pss_nil)
      (pss_cons (ps_expr (pe_bm0 PySem.F.plainAttrs_list PySem.F.slot_list_reverse PySem.F.type_list_reverse mt_reverse (pv 12)))
      (pss_cons (ps_expr (pe_bm PySem.F.plainAttrs_list PySem.F.slot_list_append PySem.F.type_list_append mt_append (pv 12) (pa_cons pe_non pa_nil)))
      (pss_one (ps_for PassesOwn.never rfl (pi_range1 (by rfl) n_range (pa_cons (pe_callB call_len_seq (by rfl) n_len PySem.boot_len (pa_cons (pv 4) pa_nil)) pa_nil)) (pg_name (i := 9) sc_law.nd rfl (.inl rfl)) (pss_one (ps_if (PW.pt (pw_or (pt_cmpR (op_neD hr.units) (pe_caG C_where2 gd hr (by decide) (by rfl) (pa_cons (pv 6) (pa_cons (pv 9) pa_nil))) (pe_ix ix_list (pv 5) (pv 9) (fun _ _ => rfl)) (nomark _)) (pw_or1 (pt_cmpR (op_neD hr.units) (pe_calM M_shares_of hr (by decide) (pv 6) (pa_cons (pv 9) pa_nil)) (pe_ix ix_list (pv 5) (pv 9) (fun _ _ => rfl)) (nomark _))))) (pss_one (ps_ret pe_bl)) pss_nil))))))))))))))))
      (pss_one (ps_ret pe_bl))), ?_⟩
    refine q_forR1 (ea_cons (ev_max2 ev_c (ev_min2 (ev_len (ev_var rfl) ha) ev_c)) ea_nil) (by rw [List.length_map]; split <;> (try split) <;> omega)
      (fun i σ' H' => ∃ y1 y2 y3 y4 y5 y6 y7 y8 y9 y10 y11 y12, σ' = [some (.ref a), y1, y2, y3, y4, y5, y6, y7, y8, y9, y10, y11, y12] ∧ Ex H H') (fun H1 e1 => ⟨none, none, none, none, none, none, none, none, none, none, none, none, rfl, e1⟩) ?_ ?_
    · rintro i σ' H0 hi ⟨y1, y2, y3, y4, y5, y6, y7, y8, y9, y10, y11, y12, rfl, ex0⟩
      have hi63 : i ≤ 1000 := by
        rw [List.length_map] at hi
        have : (i : Int) < 1000 := Int.lt_of_lt_of_le hi (by split <;> (try split) <;> omega)
        omega
      refine q_raw ?_
      refine bag_ev (k := i) rfl rfl (ex_l ex0 ha) (by omega) hi63 fun st H1 nst e1 hs1 => ?_
      refine q_raw ?_
      refine out_ev 2 rfl ev_c hs1 (by decide) (by decide) fun far H2 f0 f2 hs2 x2 => ?_
      obtain ⟨wide, turns, w6, w9, hwide, hturns, hT, hW⟩ : ∃ wide turns : Nat, 6 ≤ wide ∧ wide ≤ 999 ∧ atI [V.int 12, .int 999] far = some (.int (wide : Int)) ∧ atI [V.int 13, .int 4] far = some (.int (turns : Int)) ∧ 4 ≤ turns ∧ ((wide = 12 ∧ turns = 13) ∨ (wide = 999 ∧ turns = 4)) := by
        have : far = 0 ∨ far = 1 := by omega
        rcases this with rfl | rfl
        · exact ⟨12, 13, by decide, by decide, atI_nat (j := 0) rfl, atI_nat (j := 0) rfl, by decide, .inl ⟨rfl, rfl⟩⟩
        · exact ⟨999, 4, by decide, by decide, atI_nat (j := 1) rfl, atI_nat (j := 1) rfl, by decide, .inr ⟨rfl, rfl⟩⟩
      refine asg_raw ?_
      refine kit_ev (K := K) (wide := wide) rfl (ev_opL1 (r := rIxL K) (el_lst (ea_cons ev_c (ea_cons ev_c ea_nil)) (by show 2 ≤ 100000; decide)) (fun _ _ => ev_var rfl) fun p H' hp e => rv_ixL (SqL.of hp) hwide) hs2 w6 w9 fun p an ag zs us xss H3 np nan nag hs3 x3 hp hk hB => ?_
      refine ⟨p, _, rfl, SqT.of hp, rfl, _, _, rfl, _, _, rfl, rfl, ?_⟩
      refine q_raw ?_
      refine make_ev (K := K) (C := cM) rfl rfl hk fun m H4 nm e4 hM => ?_
      have hk4 := hk.mono e4
      have hs4 := hs3.mono e4
      refine q_raw ?_
      have hG : Good zs xss := hk.2.2.2
      obtain ⟨g1, g2, g3, g4, g5⟩ := id hG
      refine out_ev (zs.length : Int) rfl (ev_is (ev_len (K := K) (ev_var rfl) (SqL.of hk4.1)) (by rw [List.length_map])) hs4 (by omega) (by omega) fun at_ H5 a0 an' hs5 x5 => ?_
      obtain ⟨r, rfl⟩ : ∃ r : Nat, at_ = (r : Int) := ⟨at_.toNat, by omega⟩
      have hr' : r < zs.length := by omega
      have hk5 := hk4.exS x5 hs4
      have hM5 := hM.exS x5 hs4
      have X5 : Ex H0 H5 := (((((ExS.of e1).trans x2).trans x3).trans (ExS.of e4)).trans x5).ex nst
      have hs' : ∀ xs ∈ xss, Shs xs xss.length := by
        rw [g4]
        exact g5
      have hz : ∀ r', r' < zs.length → ∀ t, t < turns → ∀ c ∈ walk xss r' t, Sz 245 c := by
        intro r' hr'' t ht
        rcases hW with ⟨rfl, rfl⟩ | ⟨rfl, rfl⟩
        · exact walk_small hs' hB (by omega) (by omega)
        · exact walk_great hs' hB (by omega) (by omega) (by omega)
      refine q_asgR (K := K) (xs := walk xss r 0) (er_lcR (K := K) (n := zs.length) (ea_cons (ev_is (ev_len (K := K) (ev_var rfl) (SqL.of hk5.1)) (by rw [List.length_map])) ea_nil) (by rw [walk_len, g4]) (by omega) (fun _ => rfl) fun i x H6 e6 hx => ?_) fun pd ud H7 npd e7 hpd hRd => ?_
      · have hxe : x = if i = r then 1 else 0 := by
          have hi' : i < xss.length := by
            have := (List.getElem?_eq_some_iff.mp hx).1
            rw [walk_len] at this
            exact this
          change ((List.range xss.length).map fun i => if i = r then (1 : Rat) else 0)[i]? = some x at hx
          rw [List.getElem?_map, List.getElem?_range hi'] at hx
          exact (Option.some.inj hx).symm
        refine ef_tup (eu_tup (ea_cons (ev_intB (ev_op (ev_var rfl) (ev_var rfl) (rv_eq rfl))) (ea_cons ev_c ea_nil)) (by show 2 ≤ 100000; decide)) ?_ ?_
        · rw [hxe]
          by_cases c : i = r
          · rw [if_pos c, if_pos (by rw [c]; simp)]
            rfl
          · rw [if_neg c, if_neg (by simp; omega)]
            rfl
        · rw [hxe]
          split <;> rfl
      have X7 := X5.trans e7
      refine q_forR1 (n := (turns : Int)) (ea_cons (ev_opL1 (r := rIxL K) (el_lst (ea_cons ev_c (ea_cons ev_c ea_nil)) (by show 2 ≤ 100000; decide)) (fun _ _ => ev_var rfl) fun p H' hp e => rv_ixL (SqL.of hp) hturns) ea_nil) (by omega)
        (fun t σ' H' => ∃ (pd : Addr) (ud : List V) (y9 y10 y11 y12 : Option V), σ' = [some (.ref a), some (.int (i : Int)), some (.ref st), some (.int far), some (.ref an), some (.ref ag), some (.ref m), some (.int (r : Int)), some (.ref pd), y9, y10, y11, y12] ∧ H' pd = some (.lst ud) ∧ RtAll K H' ud (walk xss r t) ∧ Ex H7 H') (fun H8 e8 => ⟨pd, ud, _, _, _, _, rfl, e8 _ _ hpd, hRd.mono e8, e8⟩) ?_ ?_
      · rintro t σ' H8 ht ⟨pd', ud', y9, y10, y11, y12, rfl, hpd8, hRd8, e8⟩
        have ht' : t < turns := by omega
        have ht12 : t ≤ 12 := by
          rcases hW with ⟨_, rfl⟩ | ⟨_, rfl⟩ <;> omega
        have hM8 := (hM5.mono e7).mono e8
        have hk8 := (hk5.mono e7).mono e8
        refine q_asgR (K := K) (er_where (K := K) (C := cM) (k := t) (ea_cons (ev_var rfl) (ea_cons (ev_var rfl) (ea_cons (ev_var rfl) ea_nil))) rfl hM8 hG hr' ht12 fun j hj => hz r hr' j (by omega)) fun pf uf H9 npf e9 hpf hRf => ?_
        have hF : Fine (.list ((walk xss r t).map NF.fd)) := fine_rts (B := 245) (hz r hr' t ht') (by decide) (by decide) (by
          rw [walk_len]
          have : xss.length * (2 * 245 + 3) ≤ 6 * (2 * 245 + 3) := Nat.mul_le_mul_right _ (by omega)
          omega)
        refine q_when (b := false) (et_is (et_test (ev_op (ev_repL (K := K) (ev_var rfl) (SqL.of hpf) hRf hF) (ev_repL (K := K) (ev_var rfl) (SqL.of (e9 _ _ hpd8)) (hRd8.mono e9) hF) (rv_ne rfl))) (by simp)) nofun fun _ H10 e10 => ?_
        refine q_app (K := K) (v := .non) (e10 _ _ hpf) (ev_var rfl) ev_c (by rw [hRf.length, walk_len]; omega) fun H11 e11 => ?_
        have E12 : Ex H8 (upd H11 pf (.lst (uf ++ [.non]))) := Ex.updN ((e9.trans e10).trans e11) npf
        refine s_asgR (er_step (K := K) (ev_var rfl) (ev_var rfl) (SqL.of (E12 _ _ hk8.2.1)) (hk8.2.2.1.mono E12) (SqL.of (E12 _ _ hpd8)) (hRd8.mono E12) (by omega) (walk_len xss r t) hs' (hz r hr' t ht')) fun p13 u13 H13 n13 e13 h13 hR13 => ?_
        exact ⟨p13, u13, _, _, _, _, rfl, h13, hR13, (e8.trans E12).trans e13⟩
      · rintro σ' H8 ⟨pd', ud', y9, y10, y11, y12, rfl, hpd8, hRd8, e8⟩
        have hM8 := (hM5.mono e7).mono e8
        have hk8 := (hk5.mono e7).mono e8
        have hrow : ∀ r', r' < zs.length → xss[r']? = some (walk xss r' 1) := fun r' hr'' => by
          have h1 : xss[r']? = some (xss.getD r' []) := getD_get (by omega)
          rw [walk_one h1 hs', h1]
        have hz1 : ∀ r', r' < zs.length → ∀ j, j ≤ 1 → ∀ c ∈ walk xss r' j, Sz 245 c := fun r' hr'' j hj => hz r' hr'' j (by omega)
        refine q_asgR (K := K) (er_where (K := K) (C := cM) (r := r) (k := 1) (ea_cons (ev_var rfl) (ea_cons (ev_var rfl) ea_nil)) rfl hM8 hG hr' (by decide) (hz1 r hr')) fun po uo H9 npo e9 hpo hRo => ?_
        have hM9 := hM8.mono e9
        have hk9 := hk8.mono e9
        refine q_when (b := false) (et_is (et_or (et_test (ev_neLs (K := K) (els_of (ev_var rfl) (SqL.of hpo) hRo) (els_row (ev_var rfl) (ev_var rfl) (SqL.of hk9.2.1) hk9.2.2.1 (hrow r hr')))) fun _ => et_test (ev_neLs (K := K) (er_whereN (K := K) (C := cM) (vs := [.ref m]) (ws := [.int 1, .int (r : Int)]) (r := r) (k := 1) (ea_cons (ev_var rfl) ea_nil) (ea_cons ev_c (ea_cons (ev_var rfl) ea_nil)) rfl rfl rfl hM9 hG hr' (by decide) (hz1 r hr')).ls (els_of (ev_var rfl) (SqL.of hpo) hRo))) rfl) nofun fun _ H10 e10 => ?_
        refine drop_raw ⟨_, rfl, .inl ⟨rfl, _, SqL.of (e10 _ _ hpo)⟩, po, uo, rfl, rfl, e10 _ _ hpo, ?_⟩
        refine q_app (K := K) (v := .non) upd_same (ev_var rfl) ev_c (by rw [List.length_reverse, hRo.length, walk_len]; omega) fun H11 e11 => ?_
        have E12 : Ex H8 (upd H11 po (.lst (uo.reverse ++ [.non]))) := Ex.updN ((Ex.updN (e9.trans e10) npo).trans e11) npo
        refine s_forR1 (n := (zs.length : Int)) (ea_cons (ev_is (ev_len (K := K) (ev_var rfl) (SqL.of (E12 _ _ hk8.1))) (by rw [List.length_map])) ea_nil) (by omega)
          (fun t σ' H' => ∃ (y8 y9 y10 y11 y12 : Option V), σ' = [some (.ref a), some (.int (i : Int)), some (.ref st), some (.int far), some (.ref an), some (.ref ag), some (.ref m), some (.int (r : Int)), y8, y9, y10, y11, y12] ∧ Ex H8 H') (fun H13 e13 => ⟨_, _, _, _, _, rfl, E12.trans e13⟩) ?_ ?_
        · rintro h σ' H13 hh ⟨y8, y9, y10, y11, y12, rfl, e13⟩
          have hh' : h < zs.length := by omega
          have hM13 := hM8.mono e13
          have hk13 := hk8.mono e13
          refine s_when (b := false) (et_is (et_or (et_test (ev_neLs (K := K) (er_where (K := K) (C := cM) (r := h) (k := 1) (ea_cons (ev_var rfl) (ea_cons (ev_var rfl) ea_nil)) rfl hM13 hG hh' (by decide) (hz1 h hh')).ls (els_row (ev_var rfl) (ev_var rfl) (SqL.of hk13.2.1) hk13.2.2.1 (hrow h hh')))) fun _ => et_test (ev_neLs (K := K) (er_sharesOf (K := K) (C := cM) (ev_var rfl) (ev_var rfl) hM13 hG hh' (hrow h hh')).ls (els_row (ev_var rfl) (ev_var rfl) (SqL.of hk13.2.1) hk13.2.2.1 (hrow h hh')))) rfl) nofun fun _ H14 e14 => ?_
          exact ⟨_, _, _, _, _, rfl, e13.trans e14⟩
        · rintro σ' H13 ⟨y8, y9, y10, y11, y12, rfl, e13⟩
          exact ⟨_, _, _, _, _, _, _, _, _, _, _, _, rfl, ex0.trans ((X7.trans e8).trans e13)⟩
    · rintro σ' H' ⟨y1, y2, y3, y4, y5, y6, y7, y8, y9, y10, y11, y12, rfl, ex0⟩
      exact s_ret ev_c fun H2 _ => q H2
end
end NF

namespace NF
open PySem PySem.Spec PyProof.Rows L2 Evl
theorem cal_mk {P : Program} {w : World} {K : PySem.W.Frag} {mg : Str → Option Value} {base : Heap} {k : Nat} {x : Str} {ps : List Str} {dvs : List V} {sp : Sp} {f : Addr} {fd : FuncData} {ds : List Value} (h : FnOk P w K mg base CX0 k f fd ps sp) (m : mg x = some (.ref f)) (kp : PySem.W.keepIn K (.ref f) = true) (b : Binds K fd ps ds) (d : Vals dvs ds) : Cal P w K mg base k x ps dvs sp := ⟨⟨f, fd, ds, h, m, kp, b, d⟩⟩
theorem sw_rel {vs zs : List V} {us ws : List Value} (r1 : Vals vs us) (r2 : Vals zs ws) : Vals (swW vs zs) (swW us ws) := by
  cases r1 with
  | nil => exact .nil
  | cons a t =>
    cases t with
    | cons b t => exact .cons a (.cons b t)
    | nil =>
      cases r2 with
      | nil => exact .cons a .nil
      | cons b t2 =>
        cases t2 with
        | nil => exact .cons a .nil
        | cons c t3 =>
          cases t3 with
          | nil => exact .cons a (.cons c (.cons b .nil))
          | cons d t4 => exact .cons a .nil
set_option maxHeartbeats 0 in
theorem all_mk {l : PySem.W.OpenLaw} {w : World} {K : PySem.W.Frag} {h : Heap} {mg : Str → Option Value} {fa : Addr} (X : K.In h) (G : h.Ns mainGlobals mg) (hfa : mg "law" = some (.ref fa))
    {f_is_whole : Addr} {od0 an0 : Option Addr} {sl0 : Array (Option Value)} {oc0 kV0 dc0 pm0 cd0 ct0 : Value}
    (a_is_whole : PySem.W.nsIn K mainGlobals "is_whole" = some (some (.ref f_is_whole))) (l_is_whole : K.lookup f_is_whole = some ⟨oc0, od0, .func (PySem.W.fnOf "is_whole" "is_whole" (defArgs s_is_whole) (defBody s_is_whole) (defScope s_is_whole) .none kV0 dc0 pm0 an0 cd0 ct0), sl0⟩) (d_is_whole : PySem.W.codeIn K cd0 "is_whole" = true) (k_is_whole : PySem.W.keepIn K (.ref f_is_whole) = true)
    {f_is_whole_within : Addr} {od1 an1 : Option Addr} {sl1 : Array (Option Value)} {oc1 kV1 dc1 pm1 cd1 ct1 : Value}
    (a_is_whole_within : PySem.W.nsIn K mainGlobals "is_whole_within" = some (some (.ref f_is_whole_within))) (l_is_whole_within : K.lookup f_is_whole_within = some ⟨oc1, od1, .func (PySem.W.fnOf "is_whole_within" "is_whole_within" (defArgs s_is_whole_within) (defBody s_is_whole_within) (defScope s_is_whole_within) .none kV1 dc1 pm1 an1 cd1 ct1), sl1⟩) (d_is_whole_within : PySem.W.codeIn K cd1 "is_whole_within" = true) (k_is_whole_within : PySem.W.keepIn K (.ref f_is_whole_within) = true)
    {f_greatest_divisor : Addr} {od2 an2 : Option Addr} {sl2 : Array (Option Value)} {oc2 kV2 dc2 pm2 cd2 ct2 : Value}
    (a_greatest_divisor : PySem.W.nsIn K mainGlobals "greatest_divisor" = some (some (.ref f_greatest_divisor))) (l_greatest_divisor : K.lookup f_greatest_divisor = some ⟨oc2, od2, .func (PySem.W.fnOf "greatest_divisor" "greatest_divisor" (defArgs s_greatest_divisor) (defBody s_greatest_divisor) (defScope s_greatest_divisor) .none kV2 dc2 pm2 an2 cd2 ct2), sl2⟩) (d_greatest_divisor : PySem.W.codeIn K cd2 "greatest_divisor" = true) (k_greatest_divisor : PySem.W.keepIn K (.ref f_greatest_divisor) = true)
    {f_is_fraction : Addr} {od3 an3 : Option Addr} {sl3 : Array (Option Value)} {oc3 kV3 dc3 pm3 cd3 ct3 : Value}
    (a_is_fraction : PySem.W.nsIn K mainGlobals "is_fraction" = some (some (.ref f_is_fraction))) (l_is_fraction : K.lookup f_is_fraction = some ⟨oc3, od3, .func (PySem.W.fnOf "is_fraction" "is_fraction" (defArgs s_is_fraction) (defBody s_is_fraction) (defScope s_is_fraction) .none kV3 dc3 pm3 an3 cd3 ct3), sl3⟩) (d_is_fraction : PySem.W.codeIn K cd3 "is_fraction" = true) (k_is_fraction : PySem.W.keepIn K (.ref f_is_fraction) = true)
    {f_reduced : Addr} {od4 an4 : Option Addr} {sl4 : Array (Option Value)} {oc4 kV4 dc4 pm4 cd4 ct4 : Value}
    (a_reduced : PySem.W.nsIn K mainGlobals "reduced" = some (some (.ref f_reduced))) (l_reduced : K.lookup f_reduced = some ⟨oc4, od4, .func (PySem.W.fnOf "reduced" "reduced" (defArgs s_reduced) (defBody s_reduced) (defScope s_reduced) .none kV4 dc4 pm4 an4 cd4 ct4), sl4⟩) (d_reduced : PySem.W.codeIn K cd4 "reduced" = true) (k_reduced : PySem.W.keepIn K (.ref f_reduced) = true)
    {f_plus : Addr} {od5 an5 : Option Addr} {sl5 : Array (Option Value)} {oc5 kV5 dc5 pm5 cd5 ct5 : Value}
    (a_plus : PySem.W.nsIn K mainGlobals "plus" = some (some (.ref f_plus))) (l_plus : K.lookup f_plus = some ⟨oc5, od5, .func (PySem.W.fnOf "plus" "plus" (defArgs s_plus) (defBody s_plus) (defScope s_plus) .none kV5 dc5 pm5 an5 cd5 ct5), sl5⟩) (d_plus : PySem.W.codeIn K cd5 "plus" = true) (k_plus : PySem.W.keepIn K (.ref f_plus) = true)
    {f_times : Addr} {od6 an6 : Option Addr} {sl6 : Array (Option Value)} {oc6 kV6 dc6 pm6 cd6 ct6 : Value}
    (a_times : PySem.W.nsIn K mainGlobals "times" = some (some (.ref f_times))) (l_times : K.lookup f_times = some ⟨oc6, od6, .func (PySem.W.fnOf "times" "times" (defArgs s_times) (defBody s_times) (defScope s_times) .none kV6 dc6 pm6 an6 cd6 ct6), sl6⟩) (d_times : PySem.W.codeIn K cd6 "times" = true) (k_times : PySem.W.keepIn K (.ref f_times) = true)
    {f_total : Addr} {od7 an7 : Option Addr} {sl7 : Array (Option Value)} {oc7 kV7 dc7 pm7 cd7 ct7 : Value}
    {T7 : Addr} {odT7 : Option Addr} {slT7 : Array (Option Value)} {ocT7 : Value} {nT7 : Nat}
    (a_total : PySem.W.nsIn K mainGlobals "total" = some (some (.ref f_total))) (l_total : K.lookup f_total = some ⟨oc7, od7, .func (PySem.W.fnOf "total" "total" (defArgs s_total) (defBody s_total) (defScope s_total) (.ref T7) kV7 dc7 pm7 an7 cd7 ct7), sl7⟩) (d_total : PySem.W.codeIn K cd7 "total" = true) (k_total : PySem.W.keepIn K (.ref f_total) = true)
    (t_total : K.lookup T7 = some ⟨ocT7, odT7, .seq #[.none] nT7, slT7⟩)
    {f_is_mark : Addr} {od8 an8 : Option Addr} {sl8 : Array (Option Value)} {oc8 kV8 dc8 pm8 cd8 ct8 : Value}
    (a_is_mark : PySem.W.nsIn K mainGlobals "is_mark" = some (some (.ref f_is_mark))) (l_is_mark : K.lookup f_is_mark = some ⟨oc8, od8, .func (PySem.W.fnOf "is_mark" "is_mark" (defArgs s_is_mark) (defBody s_is_mark) (defScope s_is_mark) .none kV8 dc8 pm8 an8 cd8 ct8), sl8⟩) (d_is_mark : PySem.W.codeIn K cd8 "is_mark" = true) (k_is_mark : PySem.W.keepIn K (.ref f_is_mark) = true)
    {f_is_share : Addr} {od9 an9 : Option Addr} {sl9 : Array (Option Value)} {oc9 kV9 dc9 pm9 cd9 ct9 : Value}
    (a_is_share : PySem.W.nsIn K mainGlobals "is_share" = some (some (.ref f_is_share))) (l_is_share : K.lookup f_is_share = some ⟨oc9, od9, .func (PySem.W.fnOf "is_share" "is_share" (defArgs s_is_share) (defBody s_is_share) (defScope s_is_share) .none kV9 dc9 pm9 an9 cd9 ct9), sl9⟩) (d_is_share : PySem.W.codeIn K cd9 "is_share" = true) (k_is_share : PySem.W.keepIn K (.ref f_is_share) = true)
    {f_are_room_shares : Addr} {od10 an10 : Option Addr} {sl10 : Array (Option Value)} {oc10 kV10 dc10 pm10 cd10 ct10 : Value}
    (a_are_room_shares : PySem.W.nsIn K mainGlobals "are_room_shares" = some (some (.ref f_are_room_shares))) (l_are_room_shares : K.lookup f_are_room_shares = some ⟨oc10, od10, .func (PySem.W.fnOf "are_room_shares" "are_room_shares" (defArgs s_are_room_shares) (defBody s_are_room_shares) (defScope s_are_room_shares) .none kV10 dc10 pm10 an10 cd10 ct10), sl10⟩) (d_are_room_shares : PySem.W.codeIn K cd10 "are_room_shares" = true) (k_are_room_shares : PySem.W.keepIn K (.ref f_are_room_shares) = true)
    {f_check_marks : Addr} {od11 an11 : Option Addr} {sl11 : Array (Option Value)} {oc11 kV11 dc11 pm11 cd11 ct11 : Value}
    (a_check_marks : PySem.W.nsIn K mainGlobals "check_marks" = some (some (.ref f_check_marks))) (l_check_marks : K.lookup f_check_marks = some ⟨oc11, od11, .func (PySem.W.fnOf "check_marks" "check_marks" (defArgs s_check_marks) (defBody s_check_marks) (defScope s_check_marks) .none kV11 dc11 pm11 an11 cd11 ct11), sl11⟩) (d_check_marks : PySem.W.codeIn K cd11 "check_marks" = true) (k_check_marks : PySem.W.keepIn K (.ref f_check_marks) = true)
    {f_check_shares : Addr} {od12 an12 : Option Addr} {sl12 : Array (Option Value)} {oc12 kV12 dc12 pm12 cd12 ct12 : Value}
    (a_check_shares : PySem.W.nsIn K mainGlobals "check_shares" = some (some (.ref f_check_shares))) (l_check_shares : K.lookup f_check_shares = some ⟨oc12, od12, .func (PySem.W.fnOf "check_shares" "check_shares" (defArgs s_check_shares) (defBody s_check_shares) (defScope s_check_shares) .none kV12 dc12 pm12 an12 cd12 ct12), sl12⟩) (d_check_shares : PySem.W.codeIn K cd12 "check_shares" = true) (k_check_shares : PySem.W.keepIn K (.ref f_check_shares) = true)
    {f_check_machine : Addr} {od13 an13 : Option Addr} {sl13 : Array (Option Value)} {oc13 kV13 dc13 pm13 cd13 ct13 : Value}
    (a_check_machine : PySem.W.nsIn K mainGlobals "check_machine" = some (some (.ref f_check_machine))) (l_check_machine : K.lookup f_check_machine = some ⟨oc13, od13, .func (PySem.W.fnOf "check_machine" "check_machine" (defArgs s_check_machine) (defBody s_check_machine) (defScope s_check_machine) .none kV13 dc13 pm13 an13 cd13 ct13), sl13⟩) (d_check_machine : PySem.W.codeIn K cd13 "check_machine" = true) (k_check_machine : PySem.W.keepIn K (.ref f_check_machine) = true)
    {f_check_room : Addr} {od14 an14 : Option Addr} {sl14 : Array (Option Value)} {oc14 kV14 dc14 pm14 cd14 ct14 : Value}
    (a_check_room : PySem.W.nsIn K mainGlobals "check_room" = some (some (.ref f_check_room))) (l_check_room : K.lookup f_check_room = some ⟨oc14, od14, .func (PySem.W.fnOf "check_room" "check_room" (defArgs s_check_room) (defBody s_check_room) (defScope s_check_room) .none kV14 dc14 pm14 an14 cd14 ct14), sl14⟩) (d_check_room : PySem.W.codeIn K cd14 "check_room" = true) (k_check_room : PySem.W.keepIn K (.ref f_check_room) = true)
    {c_Machine : Addr} (g_Machine : PySem.W.nsIn K mainGlobals "Machine" = some (some (.ref c_Machine)))
    {f_Machine___init__ : Addr} {od16 an16 : Option Addr} {sl16 : Array (Option Value)} {oc16 kV16 dc16 pm16 cd16 ct16 : Value}
    (a_Machine___init__ : PySem.W.findIn K (.ref c_Machine) "__init__" = some (some (.ref f_Machine___init__))) (i_Machine___init__ : PySem.W.isFn K (.ref f_Machine___init__) = true) (l_Machine___init__ : K.lookup f_Machine___init__ = some ⟨oc16, od16, .func (PySem.W.fnOf "__init__" "Machine.__init__" (defArgs s_Machine___init__) (defBody s_Machine___init__) (defScope s_Machine___init__) .none kV16 dc16 pm16 an16 cd16 ct16), sl16⟩) (d_Machine___init__ : PySem.W.codeIn K cd16 "Machine.__init__" = true) (k_Machine___init__ : PySem.W.keepIn K (.ref f_Machine___init__) = true)
    {f_Machine_shares : Addr} {od17 an17 : Option Addr} {sl17 : Array (Option Value)} {oc17 kV17 dc17 pm17 cd17 ct17 : Value}
    (a_Machine_shares : PySem.W.findIn K (.ref c_Machine) "shares" = some (some (.ref f_Machine_shares))) (i_Machine_shares : PySem.W.isFn K (.ref f_Machine_shares) = true) (l_Machine_shares : K.lookup f_Machine_shares = some ⟨oc17, od17, .func (PySem.W.fnOf "shares" "Machine.shares" (defArgs s_Machine_shares) (defBody s_Machine_shares) (defScope s_Machine_shares) .none kV17 dc17 pm17 an17 cd17 ct17), sl17⟩) (d_Machine_shares : PySem.W.codeIn K cd17 "Machine.shares" = true) (k_Machine_shares : PySem.W.keepIn K (.ref f_Machine_shares) = true)
    {f_Machine_shares_of : Addr} {od18 an18 : Option Addr} {sl18 : Array (Option Value)} {oc18 kV18 dc18 pm18 cd18 ct18 : Value}
    (a_Machine_shares_of : PySem.W.findIn K (.ref c_Machine) "shares_of" = some (some (.ref f_Machine_shares_of))) (i_Machine_shares_of : PySem.W.isFn K (.ref f_Machine_shares_of) = true) (l_Machine_shares_of : K.lookup f_Machine_shares_of = some ⟨oc18, od18, .func (PySem.W.fnOf "shares_of" "Machine.shares_of" (defArgs s_Machine_shares_of) (defBody s_Machine_shares_of) (defScope s_Machine_shares_of) .none kV18 dc18 pm18 an18 cd18 ct18), sl18⟩) (d_Machine_shares_of : PySem.W.codeIn K cd18 "Machine.shares_of" = true) (k_Machine_shares_of : PySem.W.keepIn K (.ref f_Machine_shares_of) = true)
    {f_Machine___len__ : Addr} {od19 an19 : Option Addr} {sl19 : Array (Option Value)} {oc19 kV19 dc19 pm19 cd19 ct19 : Value}
    (a_Machine___len__ : PySem.W.findIn K (.ref c_Machine) "__len__" = some (some (.ref f_Machine___len__))) (i_Machine___len__ : PySem.W.isFn K (.ref f_Machine___len__) = true) (l_Machine___len__ : K.lookup f_Machine___len__ = some ⟨oc19, od19, .func (PySem.W.fnOf "__len__" "Machine.__len__" (defArgs s_Machine___len__) (defBody s_Machine___len__) (defScope s_Machine___len__) .none kV19 dc19 pm19 an19 cd19 ct19), sl19⟩) (d_Machine___len__ : PySem.W.codeIn K cd19 "Machine.__len__" = true) (k_Machine___len__ : PySem.W.keepIn K (.ref f_Machine___len__) = true)
    {f_standing_in : Addr} {od20 an20 : Option Addr} {sl20 : Array (Option Value)} {oc20 kV20 dc20 pm20 cd20 ct20 : Value}
    (a_standing_in : PySem.W.nsIn K mainGlobals "standing_in" = some (some (.ref f_standing_in))) (l_standing_in : K.lookup f_standing_in = some ⟨oc20, od20, .func (PySem.W.fnOf "standing_in" "standing_in" (defArgs s_standing_in) (defBody s_standing_in) (defScope s_standing_in) .none kV20 dc20 pm20 an20 cd20 ct20), sl20⟩) (d_standing_in : PySem.W.codeIn K cd20 "standing_in" = true) (k_standing_in : PySem.W.keepIn K (.ref f_standing_in) = true)
    {f_stepped : Addr} {od21 an21 : Option Addr} {sl21 : Array (Option Value)} {oc21 kV21 dc21 pm21 cd21 ct21 : Value}
    (a_stepped : PySem.W.nsIn K mainGlobals "stepped" = some (some (.ref f_stepped))) (l_stepped : K.lookup f_stepped = some ⟨oc21, od21, .func (PySem.W.fnOf "stepped" "stepped" (defArgs s_stepped) (defBody s_stepped) (defScope s_stepped) .none kV21 dc21 pm21 an21 cd21 ct21), sl21⟩) (d_stepped : PySem.W.codeIn K cd21 "stepped" = true) (k_stepped : PySem.W.keepIn K (.ref f_stepped) = true)
    {f_where : Addr} {od22 an22 : Option Addr} {sl22 : Array (Option Value)} {oc22 kV22 dc22 pm22 cd22 ct22 : Value}
    {T22 : Addr} {odT22 : Option Addr} {slT22 : Array (Option Value)} {ocT22 : Value} {nT22 : Nat} {tk22 : Tok}
    (a_where : PySem.W.nsIn K mainGlobals "where" = some (some (.ref f_where))) (l_where : K.lookup f_where = some ⟨oc22, od22, .func (PySem.W.fnOf "where" "where" (defArgs s_where) (defBody s_where) (defScope s_where) (.ref T22) kV22 dc22 pm22 an22 cd22 ct22), sl22⟩) (d_where : PySem.W.codeIn K cd22 "where" = true) (k_where : PySem.W.keepIn K (.ref f_where) = true)
    (t_where : K.lookup T22 = some ⟨ocT22, odT22, .seq #[.int 1 tk22] nT22, slT22⟩)
    {f__law_bag : Addr} {od23 an23 : Option Addr} {sl23 : Array (Option Value)} {oc23 kV23 dc23 pm23 cd23 ct23 : Value}
    (a__law_bag : PySem.W.nsIn K mainGlobals "_law_bag" = some (some (.ref f__law_bag))) (l__law_bag : K.lookup f__law_bag = some ⟨oc23, od23, .func (PySem.W.fnOf "_law_bag" "_law_bag" (defArgs s__law_bag) (defBody s__law_bag) (defScope s__law_bag) .none kV23 dc23 pm23 an23 cd23 ct23), sl23⟩) (d__law_bag : PySem.W.codeIn K cd23 "_law_bag" = true) (k__law_bag : PySem.W.keepIn K (.ref f__law_bag) = true)
    {f__law_out : Addr} {od24 an24 : Option Addr} {sl24 : Array (Option Value)} {oc24 kV24 dc24 pm24 cd24 ct24 : Value}
    (a__law_out : PySem.W.nsIn K mainGlobals "_law_out" = some (some (.ref f__law_out))) (l__law_out : K.lookup f__law_out = some ⟨oc24, od24, .func (PySem.W.fnOf "_law_out" "_law_out" (defArgs s__law_out) (defBody s__law_out) (defScope s__law_out) .none kV24 dc24 pm24 an24 cd24 ct24), sl24⟩) (d__law_out : PySem.W.codeIn K cd24 "_law_out" = true) (k__law_out : PySem.W.keepIn K (.ref f__law_out) = true)
    {f__law_low : Addr} {od25 an25 : Option Addr} {sl25 : Array (Option Value)} {oc25 kV25 dc25 pm25 cd25 ct25 : Value}
    (a__law_low : PySem.W.nsIn K mainGlobals "_law_low" = some (some (.ref f__law_low))) (l__law_low : K.lookup f__law_low = some ⟨oc25, od25, .func (PySem.W.fnOf "_law_low" "_law_low" (defArgs s__law_low) (defBody s__law_low) (defScope s__law_low) .none kV25 dc25 pm25 an25 cd25 ct25), sl25⟩) (d__law_low : PySem.W.codeIn K cd25 "_law_low" = true) (k__law_low : PySem.W.keepIn K (.ref f__law_low) = true)
    {f__law_add : Addr} {od26 an26 : Option Addr} {sl26 : Array (Option Value)} {oc26 kV26 dc26 pm26 cd26 ct26 : Value}
    (a__law_add : PySem.W.nsIn K mainGlobals "_law_add" = some (some (.ref f__law_add))) (l__law_add : K.lookup f__law_add = some ⟨oc26, od26, .func (PySem.W.fnOf "_law_add" "_law_add" (defArgs s__law_add) (defBody s__law_add) (defScope s__law_add) .none kV26 dc26 pm26 an26 cd26 ct26), sl26⟩) (d__law_add : PySem.W.codeIn K cd26 "_law_add" = true) (k__law_add : PySem.W.keepIn K (.ref f__law_add) = true)
    {f__law_mul : Addr} {od27 an27 : Option Addr} {sl27 : Array (Option Value)} {oc27 kV27 dc27 pm27 cd27 ct27 : Value}
    (a__law_mul : PySem.W.nsIn K mainGlobals "_law_mul" = some (some (.ref f__law_mul))) (l__law_mul : K.lookup f__law_mul = some ⟨oc27, od27, .func (PySem.W.fnOf "_law_mul" "_law_mul" (defArgs s__law_mul) (defBody s__law_mul) (defScope s__law_mul) .none kV27 dc27 pm27 an27 cd27 ct27), sl27⟩) (d__law_mul : PySem.W.codeIn K cd27 "_law_mul" = true) (k__law_mul : PySem.W.keepIn K (.ref f__law_mul) = true)
    {f__law_word : Addr} {od28 an28 : Option Addr} {sl28 : Array (Option Value)} {oc28 kV28 dc28 pm28 cd28 ct28 : Value}
    (a__law_word : PySem.W.nsIn K mainGlobals "_law_word" = some (some (.ref f__law_word))) (l__law_word : K.lookup f__law_word = some ⟨oc28, od28, .func (PySem.W.fnOf "_law_word" "_law_word" (defArgs s__law_word) (defBody s__law_word) (defScope s__law_word) .none kV28 dc28 pm28 an28 cd28 ct28), sl28⟩) (d__law_word : PySem.W.codeIn K cd28 "_law_word" = true) (k__law_word : PySem.W.keepIn K (.ref f__law_word) = true)
    {f__law_goes : Addr} {od29 an29 : Option Addr} {sl29 : Array (Option Value)} {oc29 kV29 dc29 pm29 cd29 ct29 : Value}
    (a__law_goes : PySem.W.nsIn K mainGlobals "_law_goes" = some (some (.ref f__law_goes))) (l__law_goes : K.lookup f__law_goes = some ⟨oc29, od29, .func (PySem.W.fnOf "_law_goes" "_law_goes" (defArgs s__law_goes) (defBody s__law_goes) (defScope s__law_goes) .none kV29 dc29 pm29 an29 cd29 ct29), sl29⟩) (d__law_goes : PySem.W.codeIn K cd29 "_law_goes" = true) (k__law_goes : PySem.W.keepIn K (.ref f__law_goes) = true)
    {f__law_kit : Addr} {od30 an30 : Option Addr} {sl30 : Array (Option Value)} {oc30 kV30 dc30 pm30 cd30 ct30 : Value}
    (a__law_kit : PySem.W.nsIn K mainGlobals "_law_kit" = some (some (.ref f__law_kit))) (l__law_kit : K.lookup f__law_kit = some ⟨oc30, od30, .func (PySem.W.fnOf "_law_kit" "_law_kit" (defArgs s__law_kit) (defBody s__law_kit) (defScope s__law_kit) .none kV30 dc30 pm30 an30 cd30 ct30), sl30⟩) (d__law_kit : PySem.W.codeIn K cd30 "_law_kit" = true) (k__law_kit : PySem.W.keepIn K (.ref f__law_kit) = true)
    {f__law_led : Addr} {od31 an31 : Option Addr} {sl31 : Array (Option Value)} {oc31 kV31 dc31 pm31 cd31 ct31 : Value}
    (a__law_led : PySem.W.nsIn K mainGlobals "_law_led" = some (some (.ref f__law_led))) (l__law_led : K.lookup f__law_led = some ⟨oc31, od31, .func (PySem.W.fnOf "_law_led" "_law_led" (defArgs s__law_led) (defBody s__law_led) (defScope s__law_led) .none kV31 dc31 pm31 an31 cd31 ct31), sl31⟩) (d__law_led : PySem.W.codeIn K cd31 "_law_led" = true) (k__law_led : PySem.W.keepIn K (.ref f__law_led) = true)
    {f_law : Addr} {od32 an32 : Option Addr} {sl32 : Array (Option Value)} {oc32 kV32 dc32 pm32 cd32 ct32 : Value}
    (a_law : PySem.W.nsIn K mainGlobals "law" = some (some (.ref f_law))) (l_law : K.lookup f_law = some ⟨oc32, od32, .func (PySem.W.fnOf "law" "law" (defArgs s_law) (defBody s_law) (defScope s_law) .none kV32 dc32 pm32 an32 cd32 ct32), sl32⟩) (d_law : PySem.W.codeIn K cd32 "law" = true) (k_law : PySem.W.keepIn K (.ref f_law) = true)
    (z_abs : PySem.W.nsIn K mainGlobals "abs" = some none)
    (z_isinstance : PySem.W.nsIn K mainGlobals "isinstance" = some none)
    (z_len : PySem.W.nsIn K mainGlobals "len" = some none)
    (z_max : PySem.W.nsIn K mainGlobals "max" = some none)
    (z_min : PySem.W.nsIn K mainGlobals "min" = some none)
    (z_range : PySem.W.nsIn K mainGlobals "range" = some none)
    (z_repr : PySem.W.nsIn K mainGlobals "repr" = some none)
    (z_int : PySem.W.nsIn K mainGlobals "int" = some none)
    (z_bool : PySem.W.nsIn K mainGlobals "bool" = some none)
    (z_tuple : PySem.W.nsIn K mainGlobals "tuple" = some none)
    (z_list : PySem.W.nsIn K mainGlobals "list" = some none)
    (z_str : PySem.W.nsIn K mainGlobals "str" = some none)
    (z_all : PySem.W.nsIn K mainGlobals "all" = some none)
    (z_enumerate : PySem.W.nsIn K mainGlobals "enumerate" = some none)
    {A47 : Addr} {odA47 : Option Addr} {slA47 : Array (Option Value)} {nA47 : Nat} {tka47 tkb47 : Tok} (a_NOUGHT : PySem.W.nsIn K mainGlobals "NOUGHT" = some (some (.ref A47))) (l_NOUGHT : K.lookup A47 = some ⟨.type "tuple", odA47, .seq #[.int 0 tka47, .int 1 tkb47] nA47, slA47⟩)
    {A48 : Addr} {odA48 : Option Addr} {slA48 : Array (Option Value)} {nA48 : Nat} {tka48 tkb48 : Tok} (a_ONE : PySem.W.nsIn K mainGlobals "ONE" = some (some (.ref A48))) (l_ONE : K.lookup A48 = some ⟨.type "tuple", odA48, .seq #[.int 1 tka48, .int 1 tkb48] nA48, slA48⟩)
    {tk_MOST_ROOMS : Tok} (a_MOST_ROOMS : PySem.W.nsIn K mainGlobals "MOST_ROOMS" = some (some (.int 6 tk_MOST_ROOMS)))
    {tk_LONGEST_MARK : Tok} (a_LONGEST_MARK : PySem.W.nsIn K mainGlobals "LONGEST_MARK" = some (some (.int 4 tk_LONGEST_MARK)))
    {tk_GREATEST_BOTTOM : Tok} (a_GREATEST_BOTTOM : PySem.W.nsIn K mainGlobals "GREATEST_BOTTOM" = some (some (.int 999 tk_GREATEST_BOTTOM)))
    {tk_MOST_STEPS : Tok} (a_MOST_STEPS : PySem.W.nsIn K mainGlobals "MOST_STEPS" = some (some (.int 12 tk_MOST_STEPS)))
    (mk1 : PySem.W.makesIn K c_Machine = true)
    (mk2 : PySem.W.keepIn K (.ref c_Machine) = true)
    (cl1 : PySem.W.plainGet K c_Machine Str.empty = true)
    (cl2 : PySem.W.hasDictIn K c_Machine = true)
    (cl3 : PySem.W.plainOver K c_Machine = true)
    (cl4 : PySem.W.findIn K (.ref c_Machine) "__setattr__" = some (some (.builtin "object.__setattr__")))
    (na1 : PySem.W.findIn K (.ref c_Machine) "kept_marks" = some none)
    (na2 : PySem.W.findIn K (.ref c_Machine) "kept_shares" = some none)
    (t1 : PySem.W.findIn K (.ref c_Machine) "__class__" = some (some (.builtin "object.__class__")))
    (t2 : PySem.W.specialIn K (.builtin "object.__class__") "__get__" = some (some (.builtin "getset_descriptor.__get__")))
    (t3 : PySem.W.takesIn K (.builtin "object.__class__") = some true)
    (t4 : PySem.W.mroIn K c_Machine (.type "object") = some true)
    (t5 : PySem.W.kitOne K (.ref c_Machine) (.ref c_Machine) = some true) :
    ∃ fd : FuncData, (∀ (s : Shared) (v : Value), BindsTo s fd ⟨[v], []⟩ [("_law_script", v)]) ∧ ∀ base : Heap, K.In base → base.Ns mainGlobals mg → FnG l.prog w K mg base CX0 9 fa fd ["_law_script"] (spLaw K) := by
  have e := hfa.symm.trans (PySem.W.mg_of X G a_law)
  cases e
  have F_is_whole := fun_mk (st := s_is_whole) l_is_whole d_is_whole k_is_whole
  have b_is_whole := F_is_whole.binds (ps := ["thing"]) fun _ _ _ _ _ _ us hl => match us, hl with | [_], _ => rfl
  have F_is_whole_within := fun_mk (st := s_is_whole_within) l_is_whole_within d_is_whole_within k_is_whole_within
  have b_is_whole_within := F_is_whole_within.binds (ps := ["thing", "least", "most"]) fun _ _ _ _ _ _ us hl => match us, hl with | [_, _, _], _ => rfl
  have F_greatest_divisor := fun_mk (st := s_greatest_divisor) l_greatest_divisor d_greatest_divisor k_greatest_divisor
  have b_greatest_divisor := F_greatest_divisor.binds (ps := ["one", "other"]) fun _ _ _ _ _ _ us hl => match us, hl with | [_, _], _ => rfl
  have F_is_fraction := fun_mk (st := s_is_fraction) l_is_fraction d_is_fraction k_is_fraction
  have b_is_fraction := F_is_fraction.binds (ps := ["thing"]) fun _ _ _ _ _ _ us hl => match us, hl with | [_], _ => rfl
  have F_reduced := fun_mk (st := s_reduced) l_reduced d_reduced k_reduced
  have b_reduced := F_reduced.binds (ps := ["top", "bottom"]) fun _ _ _ _ _ _ us hl => match us, hl with | [_, _], _ => rfl
  have F_plus := fun_mk (st := s_plus) l_plus d_plus k_plus
  have b_plus := F_plus.binds (ps := ["one", "other"]) fun _ _ _ _ _ _ us hl => match us, hl with | [_, _], _ => rfl
  have F_times := fun_mk (st := s_times) l_times d_times k_times
  have b_times := F_times.binds (ps := ["one", "other"]) fun _ _ _ _ _ _ us hl => match us, hl with | [_, _], _ => rfl
  have F_is_mark := fun_mk (st := s_is_mark) l_is_mark d_is_mark k_is_mark
  have b_is_mark := F_is_mark.binds (ps := ["thing"]) fun _ _ _ _ _ _ us hl => match us, hl with | [_], _ => rfl
  have F_is_share := fun_mk (st := s_is_share) l_is_share d_is_share k_is_share
  have b_is_share := F_is_share.binds (ps := ["thing"]) fun _ _ _ _ _ _ us hl => match us, hl with | [_], _ => rfl
  have F_are_room_shares := fun_mk (st := s_are_room_shares) l_are_room_shares d_are_room_shares k_are_room_shares
  have b_are_room_shares := F_are_room_shares.binds (ps := ["many", "thing"]) fun _ _ _ _ _ _ us hl => match us, hl with | [_, _], _ => rfl
  have F_check_marks := fun_mk (st := s_check_marks) l_check_marks d_check_marks k_check_marks
  have b_check_marks := F_check_marks.binds (ps := ["marks"]) fun _ _ _ _ _ _ us hl => match us, hl with | [_], _ => rfl
  have F_check_shares := fun_mk (st := s_check_shares) l_check_shares d_check_shares k_check_shares
  have b_check_shares := F_check_shares.binds (ps := ["many", "shares"]) fun _ _ _ _ _ _ us hl => match us, hl with | [_, _], _ => rfl
  have F_check_machine := fun_mk (st := s_check_machine) l_check_machine d_check_machine k_check_machine
  have b_check_machine := F_check_machine.binds (ps := ["thing"]) fun _ _ _ _ _ _ us hl => match us, hl with | [_], _ => rfl
  have F_check_room := fun_mk (st := s_check_room) l_check_room d_check_room k_check_room
  have b_check_room := F_check_room.binds (ps := ["machine", "room"]) fun _ _ _ _ _ _ us hl => match us, hl with | [_, _], _ => rfl
  have F_Machine___init__ := fun_mk (st := s_Machine___init__) l_Machine___init__ d_Machine___init__ k_Machine___init__
  have b_Machine___init__ := F_Machine___init__.binds (ps := ["self", "marks", "shares"]) fun _ _ _ _ _ _ us hl => match us, hl with | [_, _, _], _ => rfl
  have F_Machine_shares := fun_mk (st := s_Machine_shares) l_Machine_shares d_Machine_shares k_Machine_shares
  have b_Machine_shares := F_Machine_shares.binds (ps := ["self"]) fun _ _ _ _ _ _ us hl => match us, hl with | [_], _ => rfl
  have F_Machine_shares_of := fun_mk (st := s_Machine_shares_of) l_Machine_shares_of d_Machine_shares_of k_Machine_shares_of
  have b_Machine_shares_of := F_Machine_shares_of.binds (ps := ["self", "room"]) fun _ _ _ _ _ _ us hl => match us, hl with | [_, _], _ => rfl
  have F_Machine___len__ := fun_mk (st := s_Machine___len__) l_Machine___len__ d_Machine___len__ k_Machine___len__
  have b_Machine___len__ := F_Machine___len__.binds (ps := ["self"]) fun _ _ _ _ _ _ us hl => match us, hl with | [_], _ => rfl
  have F_standing_in := fun_mk (st := s_standing_in) l_standing_in d_standing_in k_standing_in
  have b_standing_in := F_standing_in.binds (ps := ["many", "room"]) fun _ _ _ _ _ _ us hl => match us, hl with | [_, _], _ => rfl
  have F_stepped := fun_mk (st := s_stepped) l_stepped d_stepped k_stepped
  have b_stepped := F_stepped.binds (ps := ["shares", "chances"]) fun _ _ _ _ _ _ us hl => match us, hl with | [_, _], _ => rfl
  have F__law_bag := fun_mk (st := s__law_bag) l__law_bag d__law_bag k__law_bag
  have b__law_bag := F__law_bag.binds (ps := ["_law_script", "_law_k"]) fun _ _ _ _ _ _ us hl => match us, hl with | [_, _], _ => rfl
  have F__law_out := fun_mk (st := s__law_out) l__law_out d__law_out k__law_out
  have b__law_out := F__law_out.binds (ps := ["_law_bag_here", "_law_many"]) fun _ _ _ _ _ _ us hl => match us, hl with | [_, _], _ => rfl
  have F__law_low := fun_mk (st := s__law_low) l__law_low d__law_low k__law_low
  have b__law_low := F__law_low.binds (ps := ["_law_top", "_law_bottom"]) fun _ _ _ _ _ _ us hl => match us, hl with | [_, _], _ => rfl
  have F__law_add := fun_mk (st := s__law_add) l__law_add d__law_add k__law_add
  have b__law_add := F__law_add.binds (ps := ["_law_one", "_law_other"]) fun _ _ _ _ _ _ us hl => match us, hl with | [_, _], _ => rfl
  have F__law_mul := fun_mk (st := s__law_mul) l__law_mul d__law_mul k__law_mul
  have b__law_mul := F__law_mul.binds (ps := ["_law_one", "_law_other"]) fun _ _ _ _ _ _ us hl => match us, hl with | [_, _], _ => rfl
  have F__law_word := fun_mk (st := s__law_word) l__law_word d__law_word k__law_word
  have b__law_word := F__law_word.binds (ps := ["_law_bag_here"]) fun _ _ _ _ _ _ us hl => match us, hl with | [_], _ => rfl
  have F__law_goes := fun_mk (st := s__law_goes) l__law_goes d__law_goes k__law_goes
  have b__law_goes := F__law_goes.binds (ps := ["_law_bag_here", "_law_many", "_law_wide"]) fun _ _ _ _ _ _ us hl => match us, hl with | [_, _, _], _ => rfl
  have F__law_kit := fun_mk (st := s__law_kit) l__law_kit d__law_kit k__law_kit
  have b__law_kit := F__law_kit.binds (ps := ["_law_bag_here", "_law_most", "_law_wide"]) fun _ _ _ _ _ _ us hl => match us, hl with | [_, _, _], _ => rfl
  have F__law_led := fun_mk (st := s__law_led) l__law_led d__law_led k__law_led
  have b__law_led := F__law_led.binds (ps := ["_law_goes_here", "_law_chances"]) fun _ _ _ _ _ _ us hl => match us, hl with | [_, _], _ => rfl
  have F_law := fun_mk (st := s_law) l_law d_law k_law
  have F_total : FunD K "total" "total" (defArgs s_total) (defBody s_total) (defScope s_total) [.non] [] f_total _ := ⟨⟨_, _, _, _, _, _, _, _, _, _, rfl, l_total, d_total, .inr ⟨by simp, _, _, _, _, rfl, t_total, rfl, .cons rfl .nil⟩, .inl rfl⟩, k_total⟩
  obtain ⟨dt1, vt1, bt1⟩ := F_total.binds1 (ps := ["some", "start"]) 1 0 (by simp) rfl fun _ _ _ _ _ _ _ us its hl hi => match us, its, hl, hi with | [_], [_], _, _ => ⟨_, rfl, rfl⟩
  have F_where : FunD K "where" "where" (defArgs s_where) (defBody s_where) (defScope s_where) [.int 1] [] f_where _ := ⟨⟨_, _, _, _, _, _, _, _, _, _, rfl, l_where, d_where, .inr ⟨by simp, _, _, _, _, rfl, t_where, rfl, .cons ⟨_, rfl⟩ .nil⟩, .inl rfl⟩, k_where⟩
  obtain ⟨dw2, vw2, bw2⟩ := F_where.binds1 (ps := ["machine", "room", "steps"]) 2 0 (by simp) rfl fun _ _ _ _ _ _ _ us its hl hi => match us, its, hl, hi with | [_, _], [_], _, _ => ⟨_, rfl, rfl⟩
  obtain ⟨dw3, vw3, bw3⟩ := F_where.binds1 (ps := ["machine", "room", "steps"]) 3 1 (by simp) rfl fun _ _ _ _ _ _ _ us its hl hi => match us, its, hl, hi with | [_, _, _], [_], _, _ => ⟨_, rfl, rfl⟩
  have bw4 : KBn K (PySem.W.fnOf "where" "where" (defArgs s_where) (defBody s_where) (defScope s_where) (.ref T22) kV22 dc22 pm22 an22 cd22 ct22) ["machine", "room", "steps"] 1 ["steps", "room"] swW swW := ⟨fun s us ws KX h1 h2 => match us, ws, h1, h2 with
    | [_], [_, _], _, _ => BindsTo.of_defaults rfl (KX _ _ t_where) rfl (by rfl) (by rfl), fun r1 r2 => sw_rel r1 r2⟩
  have hN : ∀ H, SqT K H _ [.int 0, .int 1] := fun H => .inr ⟨_, _, _, l_NOUGHT, rfl, rfl, by show 2 ≤ sizeLine; decide, .cons ⟨_, rfl⟩ (.cons ⟨_, rfl⟩ .nil)⟩
  have hO : ∀ H, SqT K H _ [.int 1, .int 1] := fun H => .inr ⟨_, _, _, l_ONE, rfl, rfl, by show 2 ≤ sizeLine; decide, .cons ⟨_, rfl⟩ (.cons ⟨_, rfl⟩ .nil)⟩
  have CL : Cls K c_Machine := ⟨cl1, cl2, cl3, cl4⟩
  have T : Txt K mg c_Machine := ⟨CL, na1, na2⟩
  refine ⟨(PySem.W.fnOf "law" "law" (defArgs s_law) (defBody s_law) (defScope s_law) .none kV32 dc32 pm32 an32 cd32 ct32), fun s v => .of_eq rfl, fun base _ _ => ?_⟩
  have M := fun {x : Str} {u : Value} (a : PySem.W.nsIn K mainGlobals x = some (some u)) => PySem.W.mg_of X G a
  have Z := fun {x : Str} (a : PySem.W.nsIn K mainGlobals x = some none) => PySem.W.mg_none_of X G a
  have C1 := cal_mk (ok_gcd (P := l.prog) (w := w) (base := base) F_greatest_divisor (Z z_abs)) (M a_greatest_divisor) k_greatest_divisor b_greatest_divisor .nil
  have C2 := cal_mk (ok_red F_reduced C1) (M a_reduced) k_reduced b_reduced .nil
  have C3 := cal_mk (ok_plus F_plus C2) (M a_plus) k_plus b_plus .nil
  have C5 := cal_mk (ok_times F_times C2) (M a_times) k_times b_times .nil
  have C6 := cal_mk (ok_whole (P := l.prog) (w := w) (base := base) F_is_whole (Z z_isinstance) (Z z_int) (Z z_bool)) (M a_is_whole) k_is_whole b_is_whole .nil
  have C7 := cal_mk (ok_isF F_is_fraction (Z z_isinstance) (Z z_tuple) (Z z_len) C6 C1) (M a_is_fraction) k_is_fraction b_is_fraction .nil
  have CT := cal_mk (ok_total F_total (M a_NOUGHT) hN C3) (M a_total) k_total bt1 vt1
  have C8 := cal_mk (ok_mark (P := l.prog) (w := w) (base := base) F_is_mark (Z z_isinstance) (Z z_str) (Z z_len) (Z z_all) (M a_LONGEST_MARK)) (M a_is_mark) k_is_mark b_is_mark .nil
  have C9 := cal_mk (ok_share F_is_share C7 (M a_GREATEST_BOTTOM)) (M a_is_share) k_is_share b_is_share .nil
  have C10 := cal_mk (ok_room F_are_room_shares (Z z_isinstance) (Z z_list) (Z z_len) (Z z_all) C9 CT (M a_ONE) hO) (M a_are_room_shares) k_are_room_shares b_are_room_shares .nil
  have C11 := cal_mk (ok_marks F_check_marks (Z z_isinstance) (Z z_list) (Z z_len) (Z z_enumerate) C8 (M a_MOST_ROOMS)) (M a_check_marks) k_check_marks b_check_marks .nil
  have C12 := cal_mk (ok_shares F_check_shares (Z z_isinstance) (Z z_list) (Z z_len) (Z z_enumerate) C10) (M a_check_shares) k_check_shares b_check_shares .nil
  have C13 := cal_mk (ok_within F_is_whole_within C6) (M a_is_whole_within) k_is_whole_within b_is_whole_within .nil
  have L_M : LenO l.prog w K mg base c_Machine 1 (spLen K c_Machine) := ⟨⟨_, _, a_Machine___len__, i_Machine___len__, ok_len F_Machine___len__ T (Z z_len), b_Machine___len__⟩⟩
  have C14 := cal_mk (ok_cmach (P := l.prog) (w := w) (base := base) F_check_machine (Z z_isinstance) T (M g_Machine) t1 t2 t3 t4 t5) (M a_check_machine) k_check_machine b_check_machine .nil
  have C15 := cal_mk (ok_croom F_check_room (Z z_len) L_M C13) (M a_check_room) k_check_room b_check_room .nil
  have KM : CalK l.prog w K mg base 7 "Machine" c_Machine ["self", "marks", "shares"] (spInit K c_Machine) := ⟨⟨_, _, ⟨mk1, a_Machine___init__, i_Machine___init__, mk2⟩, ok_init F_Machine___init__ T (Z z_len) (Z z_list) C11 C12, b_Machine___init__⟩, M g_Machine⟩
  have MS : CalM l.prog w K mg base c_Machine 1 "shares" ["self"] (spSharesM K c_Machine) := ⟨⟨_, _, ⟨a_Machine_shares, i_Machine_shares, k_Machine_shares⟩, ok_sharesM F_Machine_shares T (Z z_list), b_Machine_shares⟩, CL⟩
  have MO : CalM l.prog w K mg base c_Machine 4 "shares_of" ["self", "room"] (spSharesOf K c_Machine) := ⟨⟨_, _, ⟨a_Machine_shares_of, i_Machine_shares_of, k_Machine_shares_of⟩, ok_sharesOf F_Machine_shares_of T (Z z_list) C15, b_Machine_shares_of⟩, CL⟩
  have C16 := cal_mk (ok_stand (P := l.prog) (w := w) (base := base) F_standing_in (Z z_range) (M a_ONE) hO (M a_NOUGHT) hN) (M a_standing_in) k_standing_in b_standing_in .nil
  have C17 := cal_mk (ok_step F_stepped (Z z_range) (Z z_list) (Z z_len) CT C5) (M a_stepped) k_stepped b_stepped .nil
  have OW := ok_where F_where (Z z_range) (Z z_len) (M a_MOST_STEPS) L_M MS C14 C15 C13 C16 C17
  have W2 := cal_mk OW (M a_where) k_where bw2 vw2
  have W3 := cal_mk OW (M a_where) k_where bw3 vw3
  have WN : CaN l.prog w K mg base 6 "where" ["machine", "room", "steps"] 1 ["steps", "room"] swW (spWhere K c_Machine) := ⟨⟨_, _, _, OW, M a_where, k_where, bw4⟩⟩
  have B1 := cal_mk (ok_bag (P := l.prog) (w := w) (base := base) F__law_bag (Z z_len)) (M a__law_bag) k__law_bag b__law_bag .nil
  have B2 := cal_mk (ok_out (P := l.prog) (w := w) (base := base) F__law_out) (M a__law_out) k__law_out b__law_out .nil
  have B3 := cal_mk (ok_low (P := l.prog) (w := w) (base := base) F__law_low (Z z_abs)) (M a__law_low) k__law_low b__law_low .nil
  have B4 := cal_mk (ok_add F__law_add B3) (M a__law_add) k__law_add b__law_add .nil
  have B5 := cal_mk (ok_mul F__law_mul B3) (M a__law_mul) k__law_mul b__law_mul .nil
  have B6 := cal_mk (ok_word F__law_word (Z z_range) B2) (M a__law_word) k__law_word b__law_word .nil
  have B7 := cal_mk (ok_goes F__law_goes (Z z_range) (Z z_int) B2 B3) (M a__law_goes) k__law_goes b__law_goes .nil
  have B8 := cal_mk (ok_kit F__law_kit (Z z_range) (Z z_list) B2 B6 B7) (M a__law_kit) k__law_kit b__law_kit .nil
  have B9 := cal_mk (ok_led F__law_led (Z z_range) (Z z_len) B4 B5) (M a__law_led) k__law_led b__law_led .nil
  exact ok_law F_law (Z z_range) (Z z_max) (Z z_min) (Z z_len) (Z z_int) (Z z_repr) B1.g B2.g B8.g B9.g KM W3.g W2.g WN MO
end NF
open PySem PySem.W PyProof.Rows
set_option maxHeartbeats 0 in
theorem PySem.Challenge.cw_neartwins_k08_where_it_goes_holds : PySem.Challenge.rw_neartwins_k08_where_it_goes.Holds := by
  w_on; o_law; k_head; (case hw => w_witness2)
  k_fill
  refine NF.walk_g (l := PySem.Challenge.rw_neartwins_k08_where_it_goes) (n := 63) (k := 9) (x := "_law_script") (sp := fun w => NF.spLaw _) rfl (by decide) rfl ⟨rfl, by decide, by decide⟩ (fun w h Y => PySem.W.kIn_of Y) ?F (fun _ _ a ns hl _ hS => ⟨a, ns, rfl, hS, hl, fun _ => rfl⟩)
  case F =>
    intro w mg fa h KX G hmg
    refine' NF.all_mk KX G hmg ?a_is_whole ?l_is_whole ?d_is_whole ?k_is_whole ?a_is_whole_within ?l_is_whole_within ?d_is_whole_within ?k_is_whole_within ?a_greatest_divisor ?l_greatest_divisor ?d_greatest_divisor ?k_greatest_divisor ?a_is_fraction ?l_is_fraction ?d_is_fraction ?k_is_fraction ?a_reduced ?l_reduced ?d_reduced ?k_reduced ?a_plus ?l_plus ?d_plus ?k_plus ?a_times ?l_times ?d_times ?k_times ?a_total ?l_total ?d_total ?k_total ?t_total ?a_is_mark ?l_is_mark ?d_is_mark ?k_is_mark ?a_is_share ?l_is_share ?d_is_share ?k_is_share ?a_are_room_shares ?l_are_room_shares ?d_are_room_shares ?k_are_room_shares ?a_check_marks ?l_check_marks ?d_check_marks ?k_check_marks ?a_check_shares ?l_check_shares ?d_check_shares ?k_check_shares ?a_check_machine ?l_check_machine ?d_check_machine ?k_check_machine ?a_check_room ?l_check_room ?d_check_room ?k_check_room ?g_Machine ?a_Machine___init__ ?i_Machine___init__ ?l_Machine___init__ ?d_Machine___init__ ?k_Machine___init__ ?a_Machine_shares ?i_Machine_shares ?l_Machine_shares ?d_Machine_shares ?k_Machine_shares ?a_Machine_shares_of ?i_Machine_shares_of ?l_Machine_shares_of ?d_Machine_shares_of ?k_Machine_shares_of ?a_Machine___len__ ?i_Machine___len__ ?l_Machine___len__ ?d_Machine___len__ ?k_Machine___len__ ?a_standing_in ?l_standing_in ?d_standing_in ?k_standing_in ?a_stepped ?l_stepped ?d_stepped ?k_stepped ?a_where ?l_where ?d_where ?k_where ?t_where ?a__law_bag ?l__law_bag ?d__law_bag ?k__law_bag ?a__law_out ?l__law_out ?d__law_out ?k__law_out ?a__law_low ?l__law_low ?d__law_low ?k__law_low ?a__law_add ?l__law_add ?d__law_add ?k__law_add ?a__law_mul ?l__law_mul ?d__law_mul ?k__law_mul ?a__law_word ?l__law_word ?d__law_word ?k__law_word ?a__law_goes ?l__law_goes ?d__law_goes ?k__law_goes ?a__law_kit ?l__law_kit ?d__law_kit ?k__law_kit ?a__law_led ?l__law_led ?d__law_led ?k__law_led ?a_law ?l_law ?d_law ?k_law ?z_abs ?z_isinstance ?z_len ?z_max ?z_min ?z_range ?z_repr ?z_int ?z_bool ?z_tuple ?z_list ?z_str ?z_all ?z_enumerate ?a_NOUGHT ?l_NOUGHT ?a_ONE ?l_ONE ?a_MOST_ROOMS ?a_LONGEST_MARK ?a_GREATEST_BOTTOM ?a_MOST_STEPS ?mk1 ?mk2 ?cl1 ?cl2 ?cl3 ?cl4 ?na1 ?na2 ?t1 ?t2 ?t3 ?t4 ?t5
    (case a_is_whole => k_is); (case l_is_whole => k_is); (case d_is_whole => k_is); (case k_is_whole => k_is); (case a_is_whole_within => k_is); (case l_is_whole_within => k_is); (case d_is_whole_within => k_is); (case k_is_whole_within => k_is); (case a_greatest_divisor => k_is); (case l_greatest_divisor => k_is); (case d_greatest_divisor => k_is); (case k_greatest_divisor => k_is); (case a_is_fraction => k_is); (case l_is_fraction => k_is); (case d_is_fraction => k_is); (case k_is_fraction => k_is); (case a_reduced => k_is); (case l_reduced => k_is); (case d_reduced => k_is); (case k_reduced => k_is); (case a_plus => k_is); (case l_plus => k_is); (case d_plus => k_is); (case k_plus => k_is); (case a_times => k_is); (case l_times => k_is); (case d_times => k_is); (case k_times => k_is); (case a_total => k_is); (case l_total => k_is); (case d_total => k_is); (case k_total => k_is); (case t_total => k_is); (case a_is_mark => k_is); (case l_is_mark => k_is); (case d_is_mark => k_is); (case k_is_mark => k_is); (case a_is_share => k_is); (case l_is_share => k_is); (case d_is_share => k_is); (case k_is_share => k_is); (case a_are_room_shares => k_is); (case l_are_room_shares => k_is); (case d_are_room_shares => k_is); (case k_are_room_shares => k_is); (case a_check_marks => k_is); (case l_check_marks => k_is); (case d_check_marks => k_is); (case k_check_marks => k_is); (case a_check_shares => k_is); (case l_check_shares => k_is); (case d_check_shares => k_is); (case k_check_shares => k_is); (case a_check_machine => k_is); (case l_check_machine => k_is); (case d_check_machine => k_is); (case k_check_machine => k_is); (case a_check_room => k_is); (case l_check_room => k_is); (case d_check_room => k_is); (case k_check_room => k_is); (case g_Machine => k_is); (case a_Machine___init__ => k_is); (case i_Machine___init__ => k_is); (case l_Machine___init__ => k_is); (case d_Machine___init__ => k_is); (case k_Machine___init__ => k_is); (case a_Machine_shares => k_is); (case i_Machine_shares => k_is); (case l_Machine_shares => k_is); (case d_Machine_shares => k_is); (case k_Machine_shares => k_is); (case a_Machine_shares_of => k_is); (case i_Machine_shares_of => k_is); (case l_Machine_shares_of => k_is); (case d_Machine_shares_of => k_is); (case k_Machine_shares_of => k_is); (case a_Machine___len__ => k_is); (case i_Machine___len__ => k_is); (case l_Machine___len__ => k_is); (case d_Machine___len__ => k_is); (case k_Machine___len__ => k_is); (case a_standing_in => k_is); (case l_standing_in => k_is); (case d_standing_in => k_is); (case k_standing_in => k_is); (case a_stepped => k_is); (case l_stepped => k_is); (case d_stepped => k_is); (case k_stepped => k_is); (case a_where => k_is); (case l_where => k_is); (case d_where => k_is); (case k_where => k_is); (case t_where => k_is); (case a__law_bag => k_is); (case l__law_bag => k_is); (case d__law_bag => k_is); (case k__law_bag => k_is); (case a__law_out => k_is); (case l__law_out => k_is); (case d__law_out => k_is); (case k__law_out => k_is); (case a__law_low => k_is); (case l__law_low => k_is); (case d__law_low => k_is); (case k__law_low => k_is); (case a__law_add => k_is); (case l__law_add => k_is); (case d__law_add => k_is); (case k__law_add => k_is); (case a__law_mul => k_is); (case l__law_mul => k_is); (case d__law_mul => k_is); (case k__law_mul => k_is); (case a__law_word => k_is); (case l__law_word => k_is); (case d__law_word => k_is); (case k__law_word => k_is); (case a__law_goes => k_is); (case l__law_goes => k_is); (case d__law_goes => k_is); (case k__law_goes => k_is); (case a__law_kit => k_is); (case l__law_kit => k_is); (case d__law_kit => k_is); (case k__law_kit => k_is); (case a__law_led => k_is); (case l__law_led => k_is); (case d__law_led => k_is); (case k__law_led => k_is); (case a_law => k_is); (case l_law => k_is); (case d_law => k_is); (case k_law => k_is); (case z_abs => k_is); (case z_isinstance => k_is); (case z_len => k_is); (case z_max => k_is); (case z_min => k_is); (case z_range => k_is); (case z_repr => k_is); (case z_int => k_is); (case z_bool => k_is); (case z_tuple => k_is); (case z_list => k_is); (case z_str => k_is); (case z_all => k_is); (case z_enumerate => k_is); (case a_NOUGHT => k_is); (case l_NOUGHT => k_is); (case a_ONE => k_is); (case l_ONE => k_is); (case a_MOST_ROOMS => k_is); (case a_LONGEST_MARK => k_is); (case a_GREATEST_BOTTOM => k_is); (case a_MOST_STEPS => k_is); (case mk1 => k_is); (case mk2 => k_is); (case cl1 => k_is); (case cl2 => k_is); (case cl3 => k_is); (case cl4 => k_is); (case na1 => k_is); (case na2 => k_is); (case t1 => k_is); (case t2 => k_is); (case t3 => k_is); (case t4 => k_is); (case t5 => kit_is)

