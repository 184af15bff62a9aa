import PyProof.Rows.All
import Wide.All
import OpenK.AllK
import Wide.FinOn
import PySem.Challenge.RW_neartwins_k61_sheets_told
import HandS.ForMost
import HandS.Evl
import HandS.Defaults
import HandS.Wide
import HandS.IsInst
import HandS.Flow
import HandS.Exc
import HandS.ExcOwn
import HandS.ExcIs
import HandS.WordsExc
import OpenK.KOps
import HandS.Conv
import HandS.SetKeys
import KE.KDictKeyed
import KE.KDictCopyH
import KE.KDictWalk
import HandS.CallSlots
import HandS.Text
import HandS.Style
import OpenK.KWalk
import KE.GoesEnum
import HandS.Set
import HandS.SetFor
import KE.KExcIs
import HandS.Dict
import HandS.More
import PyProof.InstNe
import HandS.ExcInit
import HandS.ExcField
import HandS.TupAny
import HandS.Zip
import HandS.Small
import KE.KExcInit
import KE.KExcPX
import HandS.FStr
import KE.KCallOwn
import PyProof.EqKinds
import HandS.OwnEq
import HandS.SortKw
import PyProof.WalkInts
import KE.KMinKey
import KE.KDictZip
import KE.SortData
import HandS.DictComp
import KE.DataMinMax
import HandS.TryOnly
import HandS.Deep
set_option Elab.async false
set_option linter.all false
set_option maxRecDepth 100000
namespace NF
theorem gcd_step {a b : Int} (h : b ≠ 0) : Int.gcd b (a.fmod b) = Int.gcd a b ∧ (a.fmod b).natAbs < b.natAbs := by
  constructor
  · rw [Int.fmod_def, Int.gcd_sub_mul_left_right, Int.gcd_comm]
  · rcases Int.lt_or_gt_of_ne h with hb | hb
    · have e := Int.neg_fmod_neg a b
      have h1 := Int.fmod_nonneg_of_pos (-a) (show 0 < -b by omega)
      have h2 := Int.fmod_lt_of_pos (-a) (show 0 < -b by omega)
      omega
    · have h1 := Int.fmod_nonneg_of_pos a hb
      have h2 := Int.fmod_lt_of_pos a hb
      omega
/-- what reduced does -/
theorem red_pos {a b : Int} (h : 0 < b) : a.fdiv (Int.gcd a b) = (Rat.divInt a b).num ∧ b.fdiv (Int.gcd a b) = (Rat.divInt a b).den := by
  have hg : (0 : Int) < Int.gcd a b := by
    have : 0 < Int.gcd a b := Int.gcd_pos_of_ne_zero_right _ (by omega)
    omega
  constructor
  · rw [Rat.num_divInt, Int.gcd_comm b a, Int.sign_eq_one_of_pos h, Int.one_mul, Int.fdiv_eq_ediv_of_nonneg _ (by omega)]
  · rw [Rat.den_divInt, if_neg (by omega), Int.gcd_comm b a, Int.fdiv_eq_ediv_of_nonneg _ (by omega)]
    rw [Int.natCast_ediv]
    congr 1
    omega
/-- how many bits a fraction has -/
def Sz (B : Nat) (x : Rat) : Prop := x.num.natAbs < 2 ^ B ∧ x.den < 2 ^ B
theorem Sz.mono {A B : Nat} {x : Rat} (h : Sz A x) (e : A ≤ B) : Sz B x :=
  ⟨Nat.lt_of_lt_of_le h.1 (Nat.pow_le_pow_right (by decide) e), Nat.lt_of_lt_of_le h.2 (Nat.pow_le_pow_right (by decide) e)⟩
theorem sz_div {B : Nat} {a b : Int} (ha : a.natAbs < 2 ^ B) (hb : b.natAbs < 2 ^ B) (h : b ≠ 0) : Sz B (Rat.divInt a b) := by
  constructor
  · rw [Rat.num_divInt]
    have d1 : (Int.gcd b a : Int) ∣ a := Int.gcd_dvd_right ..
    refine Nat.lt_of_le_of_lt ?_ ha
    have : (b.sign * a / ↑(b.gcd a)).natAbs ≤ (b.sign * a).natAbs := by
      exact Int.natAbs_ediv_le_natAbs ..
    refine Nat.le_trans this ?_
    rw [Int.natAbs_mul]
    have : b.sign.natAbs = 1 := Int.natAbs_sign_of_ne_zero h
    rw [this]; omega
  · rw [Rat.den_divInt, if_neg h]
    exact Nat.lt_of_le_of_lt (Nat.div_le_self ..) hb
theorem den0 (x : Rat) : (x.den : Int) ≠ 0 := by have := x.den_nz; omega
theorem denp (x : Rat) : (0 : Int) < (x.den : Int) := by have := x.den_nz; omega
theorem add_rt (x y : Rat) : x + y = Rat.divInt (x.num * y.den + y.num * x.den) (x.den * y.den) := by
  rw [← Rat.divInt_add_divInt _ _ (den0 x) (den0 y), Rat.num_divInt_den, Rat.num_divInt_den]
theorem sub_rt (x y : Rat) : x - y = Rat.divInt (x.num * y.den - y.num * x.den) (x.den * y.den) := by
  rw [← Rat.divInt_sub_divInt _ _ (den0 x) (den0 y), Rat.num_divInt_den, Rat.num_divInt_den]
theorem mul_rt (x y : Rat) : x * y = Rat.divInt (x.num * y.num) (x.den * y.den) := by
  rw [← Rat.divInt_mul_divInt, Rat.num_divInt_den, Rat.num_divInt_den]
theorem bits_mul {i j : Int} {a b : Nat} (ha : i.natAbs < 2 ^ a) (hb : j.natAbs < 2 ^ b) : (i * j).natAbs < 2 ^ (a + b) := by
  rw [Int.natAbs_mul, Nat.pow_add]
  exact Nat.mul_lt_mul'' ha hb
theorem bits_add {i j : Int} {a : Nat} (ha : i.natAbs < 2 ^ a) (hb : j.natAbs < 2 ^ a) : (i + j).natAbs < 2 ^ (a + 1) := by
  rw [Nat.pow_succ]; omega
theorem bits_sub {i j : Int} {a : Nat} (ha : i.natAbs < 2 ^ a) (hb : j.natAbs < 2 ^ a) : (i - j).natAbs < 2 ^ (a + 1) := by
  rw [Nat.pow_succ]; omega
theorem bits_up {i : Int} {a b : Nat} (h : i.natAbs < 2 ^ a) (e : a ≤ b) : i.natAbs < 2 ^ b := Nat.lt_of_lt_of_le h (Nat.pow_le_pow_right (by decide) e)
theorem Sz.num {B : Nat} {x : Rat} (h : Sz B x) : x.num.natAbs < 2 ^ B := h.1
theorem Sz.den {B : Nat} {x : Rat} (h : Sz B x) : (x.den : Int).natAbs < 2 ^ B := by have := h.2; omega
theorem den_mul0 (x y : Rat) : (x.den : Int) * y.den ≠ 0 := Int.mul_ne_zero (den0 x) (den0 y)
theorem Sz.add {B : Nat} {x y : Rat} (hx : Sz B x) (hy : Sz B y) : Sz (2 * B + 1) (x + y) := by
  rw [add_rt]
  exact sz_div (bits_up (bits_add (bits_mul hx.num hy.den) (bits_mul hy.num hx.den)) (by omega)) (bits_up (bits_mul hx.den hy.den) (by omega)) (den_mul0 x y)
theorem Sz.sub {B : Nat} {x y : Rat} (hx : Sz B x) (hy : Sz B y) : Sz (2 * B + 1) (x - y) := by
  rw [sub_rt]
  exact sz_div (bits_up (bits_sub (bits_mul hx.num hy.den) (bits_mul hy.num hx.den)) (by omega)) (bits_up (bits_mul hx.den hy.den) (by omega)) (den_mul0 x y)
theorem Sz.mul {B : Nat} {x y : Rat} (hx : Sz B x) (hy : Sz B y) : Sz (2 * B + 1) (x * y) := by
  rw [mul_rt]
  exact sz_div (bits_up (bits_mul hx.num hy.num) (by omega)) (bits_up (bits_mul hx.den hy.den) (by omega)) (den_mul0 x y)
/-- how far two are apart -/
def ap (x y : Rat) : Rat := if x < y then y - x else x - y
theorem lt_rt (x y : Rat) : x < y ↔ x.num * y.den < y.num * x.den := Rat.lt_iff x y
theorem t1 (x y : Rat) : x + y - y = x := by grind
theorem t2 (x y : Rat) : y + x = x + y := by grind
theorem t3 (x y z : Rat) : 0 + x + y + z = x + y + z := by grind
theorem t4 (x y z : Rat) : x + (y + z) = x + y + z := by grind
theorem cop (x : Rat) : Int.gcd x.num x.den = 1 := x.reduced
end NF
namespace NF
open PySem PySem.Spec PyProof.Rows L2 Evl
section
variable {K : PySem.W.Frag} {H H1 H2 : Hp} {σ : L2.St} {ta tb te : TE} {x y z : Rat} {v w : V} {b : Bool}
def Rt (K : PySem.W.Frag) (H : Hp) (v : V) (x : Rat) : Prop := ∃ p, v = .ref p ∧ SqT K H p [.int x.num, .int x.den]
theorem Rt.mono (h : Rt K H v x) (e : Ex H H1) : Rt K H1 v x := by
  obtain ⟨p, e1, h⟩ := h
  exact ⟨p, e1, ex_t e h⟩
theorem Rt.of {p : Addr} {n d : Int} (h : H p = some (.tup [.int n, .int d])) (en : n = x.num) (ed : d = x.den) : Rt K H (.ref p) x := by
  subst en ed
  exact ⟨p, rfl, SqT.of h⟩
def EvF (K : PySem.W.Frag) (te : TE) (σ : L2.St) (H : Hp) (x : Rat) : Prop := ∀ H1, Ex H H1 → ∀ Q : VK, (∀ v H2, Ex H1 H2 → Rt K H2 v x → Q v H2) → te σ H1 Q
theorem EvF.mono (h : EvF K te σ H x) (e : Ex H H1) : EvF K te σ H1 x := fun H2 a Q q => h H2 (e.trans a) Q q
theorem eqv_rt : PyData.eqv (.tuple [.int x.num, .int x.den]) (.tuple [.int y.num, .int y.den]) = decide (x = y) := by
  have e : PyData.eqv (.tuple [.int x.num, .int x.den]) (.tuple [.int y.num, .int y.den]) = (x.num == y.num && ((x.den : Int) == (y.den : Int))) := by
    simp [PyData.eqv, PyData.eqvAll]
  rw [e]
  by_cases h : x = y
  · subst h; simp
  · rw [decide_eq_false h]
    by_cases h1 : x.num = y.num
    · have h2 : (x.den : Int) ≠ y.den := fun e => h (Rat.ext h1 (by omega))
      simp [h2]
    · simp [h1]
variable {D : Ends} {tu tw tz : TS}
end
def CDivX (_ j : Int) : Prop := j ≠ 0 ∧ j.natAbs.log2 < 9000
theorem op_fdivX {X : Cx} : OpR X (binaryOp .FloorDiv) (rI CDivX fun i j => .int (i.fdiv j)) := opI fun _ _ _ _ _ _ _ hc q => floordiv_int hc.1 q (.inl (PyProof.noPylong_of_log2 hc.2))
theorem divX {i j : Int} {b : Nat} (h : j ≠ 0) (hb : j.natAbs < 2 ^ b) (h0 : 0 < b) (h9 : b ≤ 9000) : CDivX i j := ⟨h, Nat.lt_of_lt_of_le (PySem.Flt.log2_lt_of h0 hb) h9⟩
structure Cal (P : Program) (w : World) (K : PySem.W.Frag) (mg : Str → Option Value) (base : Heap) (k : Nat) (x : Str) (ps : List Str) (dvs : List V) (sp : Sp) : Prop where
  ex : ∃ (f : Addr) (fd : FuncData) (ds : List Value), FnOk P w K mg base CX0 k f fd ps sp ∧ mg x = some (.ref f) ∧ PySem.W.keepIn K (.ref f) = true ∧ Binds K fd ps ds ∧ Vals dvs ds
theorem pe_cal {X : Cx} {j k : Nat} {x : Str} {ps : List Str} {dvs : List V} {sp : Sp} {e : Expr} {es : List Expr} {t : TA} {p pos : Pos} (C : Cal X.prog X.w X.K X.mg X.base k x ps dvs sp) (hr : Room j X.A) (hk : k ≤ j) (hg : Gl X x)
    (ha : PA X (e :: es) t) (hdb : (x == ("__debug__" : Str)) = false := by decide) (he : starEach (e :: es) X.env = (false, eval e X.env) :: starEach es X.env := by rfl) (hpl : (backTo pos (starEach es X.env)).any (·.1) = false := by rfl) :
    PE X (.Call (.Name x p) (e :: es) [] pos) (tCall sp dvs E0 t) := by
  obtain ⟨f, fd, ds, F, hm, kp, b, d⟩ := C.ex
  exact pe_call F (hr.mono hk) hg hm kp b d pass0 ha hdb he hpl
end NF
namespace NF
open PySem PySem.Spec PyProof.Rows L2 Evl
theorem c_ty {X : Cx} {x : Str} {n : String} {pos : Pos} (hm : X.mg x = none) (hg : Gl X x) (hv : bootBuiltins x = some (.type n)) (hn : x ≠ "__name__") (hd : (x == ("__debug__" : Str)) = false := by decide) : PE X (.Name x pos) (tC (.ty n)) := pe_bltn hg hm hv rfl hn hd
section
variable {K : PySem.W.Frag} {H H1 H2 : Hp} {σ : L2.St} {ta tb te : TE} {v w : V} {t c : String} {b : Bool} {E : XK}
theorem ty_tup {p : Addr} {xs : List V} (h : SqT K H p xs) : TyX K H (.ref p) (.type "tuple") := by
  rcases h with (h | ⟨o, h⟩) | ⟨o, its, n, e, c, _⟩
  · exact .base (.tup h)
  · exact .fTuple h
  · exact .kTuple e c
end
/-- fractions in a list -/
inductive RtAll (K : PySem.W.Frag) (H : Hp) : List V → List Rat → Prop
  | nil : RtAll K H [] []
  | cons {v : V} {vs : List V} {x : Rat} {xs : List Rat} : Rt K H v x → RtAll K H vs xs → RtAll K H (v :: vs) (x :: xs)
theorem RtAll.mono {K : PySem.W.Frag} {H H1 : Hp} (e : Ex H H1) : ∀ {vs : List V} {xs : List Rat}, RtAll K H vs xs → RtAll K H1 vs xs
  | _, _, .nil => .nil
  | _, _, .cons h t => .cons (h.mono e) (RtAll.mono e t)
theorem RtAll.get {K : PySem.W.Frag} {H : Hp} : ∀ {vs : List V} {xs : List Rat} {i : Nat} {v : V}, RtAll K H vs xs → vs[i]? = some v → ∃ x, xs[i]? = some x ∧ Rt K H v x
  | _, _, _, _, .nil, e => by simp at e
  | _, _, 0, _, .cons h _, e => by
    have e' := Option.some.inj e
    subst e'
    exact ⟨_, rfl, h⟩
  | _, _, i + 1, _, .cons _ t, e => RtAll.get (i := i) t e
theorem RtAll.length {K : PySem.W.Frag} {H : Hp} : ∀ {vs : List V} {xs : List Rat}, RtAll K H vs xs → vs.length = xs.length
  | _, _, .nil => rfl
  | _, _, .cons _ t => congrArg Nat.succ (RtAll.length t)
def sumF (x0 : Rat) (xs : List Rat) : Rat := xs.foldl (· + ·) x0
end NF
namespace NF
open PySem PySem.Spec PyProof.Rows L2 Evl
structure FnG (P : Program) (w : World) (K : PySem.W.Frag) (mg : Str → Option Value) (base : Heap) (CX : CXT) (k : Nat) (f : Addr) (fd : FuncData) (ps : List Str) (sp : Sp) : Prop where
  many : ∀ vs H Q E, sp vs H Q E → vs.length = ps.length
  goes : ∀ (A : Around) (out : List Env) (s : Shared) (H : Hp) (args : Args) (us : List Value) (vs : List V) (Q : VK) (E : XK), A.guards = some [] → Room k A → Env0 P w K mg base A out s H →
    BindsTo s fd args (ps.zip us) → Vals vs us → sp vs H Q E → codeAny (model P w) A (.call (.ref f) args) (CR CX out P w H s Q E) s
section
variable {P : Program} {w : World} {K : PySem.W.Frag} {mg : Str → Option Value} {base : Heap} {CX : CXT} {k j : Nat} {f : Addr} {fd : FuncData} {ps N : List Str} {sp : Sp}
theorem FnG.of (F : FnOk P w K mg base CX k f fd ps sp) : FnG P w K mg base CX k f fd ps sp :=
  ⟨F.len, fun A out s H args us vs Q E _ hr he hb hv hs => F.run A out s H args us vs Q E hr he hb hv hs⟩
theorem FnG.more (F : FnG P w K mg base CX k f fd ps sp) (h : k ≤ j) : FnG P w K mg base CX j f fd ps sp :=
  ⟨F.many, fun A out s H args us vs Q E g hr => F.goes A out s H args us vs Q E g (hr.mono h)⟩
/-- a def by its body, at one call of it -/
theorem fn_a {name qual : Str} {params : Arguments} {body : List Stmt} {scope : Scope} {dV kV doc pm cdv ct oc : Value} {an od : Option Addr} {osl : Array (Option Value)} {A : Around} {out : List Env} {s : Shared} {H : Hp} {args : Args} {us : List Value} {vs : List V} {Q : VK} {E : XK}
    (at_f : K.lookup f = some ⟨oc, od, .func (PySem.W.fnOf name qual params body scope dV kV doc pm an cdv ct), osl⟩) (code_f : PySem.W.codeIn K cdv qual = true) (S : FnScope N ps scope) (hl : vs.length = ps.length) (hr : Room (k + 1) A) (he : Env0 P w K mg base A out s H)
    (hb : BindsTo s (PySem.W.fnOf name qual params body scope dV kV doc pm an cdv ct) args (ps.zip us)) (hv : Vals vs us)
    (walk : ∃ t, PSs (cxOf CX P w K mg base N qual scope f cdv A out s H E) body t ∧ t { nx := fun _ G => Q .non G, rt := Q } (start N vs) H) : codeAny (model P w) A (.call (.ref f) args) (CR CX out P w H s Q E) s := by
  have kin := he.mod.kin.keeps fun b o e => (he.bs b o e).1
  have nol := he.mod.nolimit.keeps fun b o e => (he.bs b o e).1
  refine codeAny_call_function hr.depth (kin _ _ at_f) rfl S.co S.gen rfl (PySem.W.codeRec_of kin code_f) (hb _ _ _ _ ?_)
  refine wpAny_newFunctionEnv_cells S.kind ?_ ?_
  · rintro ⟨n, u⟩ hn
    exact (S.par n (List.of_mem_zip hn).1).imp id fun c => ⟨c, PySem.W.cellsFrom_some _ _ _ (.inl c)⟩
  · intro env e1 s1 x
    subst e1
    obtain ⟨t, d, q⟩ := walk
    have I1 := inv_start (CX := CX) (E := E) S hr.hd he hl hv x
    refine ⟨nol.keeps x.toInCall.keep, codeAny_func (wpAny_mono (d.run [] s1 (start N vs) H _ I1 q) ?_ fun _ _ z => z)⟩
    intro fl s2 z
    cases fl with
    | next =>
      obtain ⟨_, G, J, y⟩ := z
      exact ⟨.non, G, J.os, J.bare, J.base, J.hok, rfl, y⟩
    | ret u =>
      obtain ⟨v, _, G, J, rv, y⟩ := z
      exact ⟨v, G, J.os, J.bare, J.base, J.hok, rv, y⟩
    | brk => exact z.elim fun _ z => z.elim fun _ z => z.2.elim
    | cont => exact z.elim fun _ z => z.elim fun _ z => z.2.elim
/-- a def by its body, where no repr is under way -/
theorem fn_g {name qual : Str} {params : Arguments} {body : List Stmt} {scope : Scope} {dV kV doc pm cdv ct oc : Value} {an od : Option Addr} {osl : Array (Option Value)}
    (at_f : K.lookup f = some ⟨oc, od, .func (PySem.W.fnOf name qual params body scope dV kV doc pm an cdv ct), osl⟩) (code_f : PySem.W.codeIn K cdv qual = true) (S : FnScope N ps scope) (many : ∀ vs H Q E, sp vs H Q E → vs.length = ps.length)
    (walk : ∀ (A : Around) (out : List Env) (s : Shared) (H : Hp) (vs : List V) (Q : VK) (E : XK), A.guards = some [] → Room k (A.deeper (envOfC qual scope s.heap.objs.size f cdv)) → sp vs H Q E →
      ∃ t, PSs (cxOf CX P w K mg base N qual scope f cdv A out s H E) body t ∧ t { nx := fun _ G => Q .non G, rt := Q } (start N vs) H) : FnG P w K mg base CX (k + 1) f (PySem.W.fnOf name qual params body scope dV kV doc pm an cdv ct) ps sp :=
  ⟨many, fun A out s H _ _ vs Q E g hr he hb hv hs => fn_a at_f code_f S (many _ _ _ _ hs) hr he hb hv (walk A out s H vs Q E g (hr.deeper _) hs)⟩
end
/-- a def that is called, no repr under way -/
structure CaG (P : Program) (w : World) (K : PySem.W.Frag) (mg : Str → Option Value) (base : Heap) (CX : CXT) (k : Nat) (x : Str) (ps : List Str) (dvs : List V) (sp : Sp) : Prop where
  ex : ∃ (f : Addr) (fd : FuncData) (ds : List Value), FnG P w K mg base CX k f fd ps sp ∧ mg x = some (.ref f) ∧ PySem.W.keepIn K (.ref f) = true ∧ Binds K fd ps ds ∧ Vals dvs ds
theorem Cal.g {P : Program} {w : World} {K : PySem.W.Frag} {mg : Str → Option Value} {base : Heap} {k : Nat} {x : Str} {ps : List Str} {dvs : List V} {sp : Sp} (C : Cal P w K mg base k x ps dvs sp) : CaG P w K mg base CX0 k x ps dvs sp := by
  obtain ⟨f, fd, ds, F, r⟩ := C.ex
  exact ⟨f, fd, ds, .of F, r⟩
theorem caG_mk {P : Program} {w : World} {K : PySem.W.Frag} {mg : Str → Option Value} {base : Heap} {CX : CXT} {k : Nat} {x : Str} {ps : List Str} {dvs : List V} {sp : Sp} {f : Addr} {fd : FuncData} {ds : List Value} (h : FnG P w K mg base CX k f fd ps sp) (m : mg x = some (.ref f)) (kp : PySem.W.keepIn K (.ref f) = true)
    (b : Binds K fd ps ds) (d : Vals dvs ds) : CaG P w K mg base CX k x ps dvs sp := ⟨⟨f, fd, ds, h, m, kp, b, d⟩⟩
section
variable {X : Cx} {CX : CXT} {j k : Nat} {f : Addr} {fd : FuncData} {ps : List Str} {sp : Sp} {dvs : List V} {ds : List Value} {E : XK} {x : Str} {p pos : Pos} {e : Expr} {es : List Expr} {t : TA}
theorem run_g {pins : List (Addr × Obj)} {σ : L2.St} {H : Hp} {s : Shared} {Q : VK} {us : List Value} {vs : List V} (F : FnG X.prog X.w X.K X.mg X.base CX k f fd ps sp) (g : X.A.guards = some []) (hr : Room k X.A) (b : Binds X.K fd ps ds) (d : Vals dvs ds) (out : Passes CX X E)
    (I : Inv X pins σ H s) (v : Vals vs us) (h : sp (vs ++ dvs) H Q E) : wpAny (model X.prog X.w) X.A (call (.ref f) us) (EP X pins σ Q) X.xe s := by
  have va := v.append d
  have le : (us ++ ds).length = ps.length := va.length.symm.trans (F.many _ _ _ _ h)
  refine wpAny_call (codeAny_mono (F.goes X.A X.stack s H ⟨us, []⟩ _ _ Q E g hr I.env0 (b s us I.kIn le) va h) ?_)
  intro r s2 z
  match r, z with
  | .error y, z => exact out pins σ H s y s2 I z
  | .ok (.ret u), z => exact I.after z
theorem pe_caX (C : CaG X.prog X.w X.K X.mg X.base CX k x ps dvs sp) (g : X.A.guards = some []) (hr : Room j X.A) (hk : k ≤ j) (gl : Gl X x) (out : Passes CX X E) (ha : PA X (e :: es) t) (db : (x == ("__debug__" : Str)) = false := by decide)
    (he : starEach (e :: es) X.env = (false, eval e X.env) :: starEach es X.env := by rfl) (pl : (backTo pos (starEach es X.env)).any (·.1) = false := by rfl) : PE X (.Call (.Name x p) (e :: es) [] pos) (tCall sp dvs E t) := by
  obtain ⟨f, fd, ds, F, hm, kp, b, d⟩ := C.ex
  constructor
  intro pins s σ H Q I h
  refine wpAny_Call_Name_kw (ld_glob I gl hm (PySem.W.callWith_K (h₀ := X.base) I.ok.mod.kin kp (thn (ha.run pos pins s σ H _ I h) ?_) he pl) db)
  rintro us s1 ⟨vs, G, J, r, q⟩
  exact ⟨J.kIn, run_g F g (hr.mono hk) b d out J r q⟩
theorem pe_caG (C : CaG X.prog X.w X.K X.mg X.base CX0 k x ps dvs sp) (g : X.A.guards = some []) (hr : Room j X.A) (hk : k ≤ j) (gl : Gl X x) (ha : PA X (e :: es) t) (db : (x == ("__debug__" : Str)) = false := by decide)
    (he : starEach (e :: es) X.env = (false, eval e X.env) :: starEach es X.env := by rfl) (pl : (backTo pos (starEach es X.env)).any (·.1) = false := by rfl) : PE X (.Call (.Name x p) (e :: es) [] pos) (tCall sp dvs E0 t) := pe_caX C g hr hk gl pass0 ha db he pl
end
theorem Fun.okG {P : Program} {w : World} {K : PySem.W.Frag} {mg : Str → Option Value} {base : Heap} {x qual : Str} {st : Stmt} {f : Addr} {fd : FuncData} {N ps : List Str} {k : Nat} {sp : Sp} (F : L2.Fun K x qual st f fd) (S : FnScope N ps (defScope st)) (many : ∀ vs H Q E, sp vs H Q E → vs.length = ps.length)
    (walk : ∀ (cdv : Value) (A : Around) (out : List Env) (s : Shared) (H : Hp) (vs : List V) (Q : VK) (E : XK), A.guards = some [] → Room k (A.deeper (envOfC qual (defScope st) s.heap.objs.size f cdv)) → sp vs H Q E →
      ∃ t, PSs (cxOf CX0 P w K mg base N qual (defScope st) f cdv A out s H E).nox (defBody st) t ∧ t { nx := fun _ G => Q .non G, rt := Q } (start N vs) H) : FnG P w K mg base CX0 (k + 1) f fd ps sp := by
  obtain ⟨_, _, _, _, _, _, cdv, _, _, rfl, lk, hcd⟩ := F.ex
  exact fn_g lk hcd S many fun A out s H vs Q E g hr hs => (walk cdv A out s H vs Q E g hr hs).elim fun t z => ⟨t, z.1.nox, z.2⟩
/-- a def that was read, at one call of it -/
theorem Fun.okA {P : Program} {w : World} {K : PySem.W.Frag} {mg : Str → Option Value} {base : Heap} {x qual : Str} {st : Stmt} {f : Addr} {fd : FuncData} {N ps : List Str} {k : Nat} {A : Around} {out : List Env} {s : Shared} {H : Hp} {args : Args} {us : List Value} {vs : List V} {Q : VK} {E : XK}
    (F : L2.Fun K x qual st f fd) (S : FnScope N ps (defScope st)) (hl : vs.length = ps.length) (hr : Room (k + 1) A) (he : Env0 P w K mg base A out s H) (hb : BindsTo s fd args (ps.zip us)) (hv : Vals vs us)
    (walk : ∀ cdv : Value, Room k (A.deeper (envOfC qual (defScope st) s.heap.objs.size f cdv)) → ∃ t, PSs (cxOf CX0 P w K mg base N qual (defScope st) f cdv A out s H E).nox (defBody st) t ∧ t { nx := fun _ G => Q .non G, rt := Q } (start N vs) H) : codeAny (model P w) A (.call (.ref f) args) (CR CX0 out P w H s Q E) s := by
  obtain ⟨_, _, _, _, _, _, cdv, _, _, rfl, lk, hcd⟩ := F.ex
  exact fn_a lk hcd S hl hr he hb hv ((walk cdv (hr.deeper _)).elim fun t z => ⟨t, z.1.nox, z.2⟩)
end NF
namespace NF
open PySem PySem.Spec PyProof.Rows L2 Evl
section
variable {P : Program} {w : World} {K : PySem.W.Frag} {mg mb : Str → Option Value} {CX : CXT} {k : Nat} {fa a : Addr} {fd : FuncData} {x : Str} {sp : Sp} {s₁ : Shared} {vs : List Value} {ns : List Int}
/-- the call, where the script alone may be tracked -/
theorem goes_from {H : Hp} (g : Heap) (KX : K.In g) (NX : g.Ns mainGlobals mg) (F : FnG P w K mg g CX k fa fd [x] sp) (hr : Room k callerA) (e0 : Env0 P w K mg g callerA [] s₁ H) (bd : ∀ (s : Shared) (u : Value), BindsTo s fd ⟨[u], []⟩ [(x, u)])
    (hO : Only H) (hsp : sp [.ref a] H (fun v _ => v = .bl true) fun _ _ _ => False) (hCX : ∀ H e s', CX [] H s₁ (fun _ _ _ => False) e s' → False) :
    codeAny (model P w) callerA (.call (.ref fa) ⟨[.ref a], []⟩) (fun r s' => r = .ok (.ret (.bool true)) ∧ OldK s₁.heap s'.heap ∧ s'.os = s₁.os ∧ AllBare s'.gens) s₁ := by
  refine codeAny_mono (F.goes callerA [] s₁ H ⟨[.ref a], []⟩ [.ref a] [.ref a] _ _ rfl hr e0 (bd s₁ _) (.cons rfl .nil) hsp) ?_
  intro r s2 z
  match r, z with
  | .error e, z => exact (hCX H e s2 z).elim
  | .ok (.ret u), z =>
    obtain ⟨v, G, h1, h2, un, ok2, rv, q⟩ := z
    cases (show v = .bl true from q)
    cases (show u = Value.bool true from rv)
    refine ⟨rfl, OldK.of_keep ?_, h1, h2⟩
    intro b o eb
    rcases hO b with n | ⟨ob, xs, y⟩
    · exact un.keep b o eb n (List.not_mem_nil) (List.not_mem_nil)
    · have y1 := (e0.hok b _ y).1
      have y2 := (ok2 b _ (un.frzs b ob _ y)).1
      rw [eb] at y1
      rw [y2, y1]
theorem law_goes (KX : K.In s₁.heap) (NX : s₁.heap.Ns mainGlobals mg) (BX : s₁.heap.Ns builtinsNs mb) (bb : ∀ x : Str, x ≠ "__name__" → mb x = bootBuiltins x) (nol : s₁.heap.NoLimit) (gn : s₁.gens = #[])
    (ea : s₁.heap.get? a = some { cls := .type "list", data := .seq vs.toArray }) (hi : IntsAre vs ns) (hl : ns.length ≤ sizeLine) (hr : Room k callerA)
    (F : ∀ base : Heap, K.In base → base.Ns mainGlobals mg → FnG P w K mg base CX k fa fd [x] sp) (bd : ∀ (s : Shared) (u : Value), BindsTo s fd ⟨[u], []⟩ [(x, u)])
    (hsp : ∀ H : Hp, Only H → SqL K H a (ns.map V.int) → sp [.ref a] H (fun v _ => v = .bl true) fun _ _ _ => False) (hCX : ∀ H e s', CX [] H s₁ (fun _ _ _ => False) e s' → False) :
    codeAny (model P w) callerA (.call (.ref fa) ⟨[.ref a], []⟩) (fun r s' => r = .ok (.ret (.bool true)) ∧ OldK s₁.heap s'.heap ∧ s'.os = s₁.os ∧ AllBare s'.gens) s₁ := by
  have rv := vals_ints hi
  by_cases inK : ∃ o, K.lookup a = some o
  · obtain ⟨o, lo⟩ := inK
    have eo := (KX a o lo).symm.trans ea
    cases eo
    have ok0 : HOk P w (fun _ => none) s₁.heap := fun _ _ z => nomatch (show (none : Option HO) = some _ from z)
    have m0 : Mod K mg s₁.heap := ⟨KX, NX, ⟨mb, BX, bb⟩, nol⟩
    exact goes_from s₁.heap KX NX (F _ KX NX) hr ⟨rfl, m0, fun b o e => ⟨e, rfl⟩, Nat.le_refl _, trivial, fun b z => absurd z List.not_mem_nil, ok0, .of_eq gn⟩ bd (fun _ => .inl rfl)
      (hsp _ (fun _ => .inl rfl) (.inr ⟨_, vs.toArray, _, lo, rfl, rfl, rfl, by rw [List.size_toArray, hi.length]; exact hl, rv⟩)) hCX
  · -- the script is tracked, known to the object
    have noK : K.lookup a = none := by
      cases c : K.lookup a with
      | none => rfl
      | some o => exact absurd ⟨o, c⟩ inK
    let H : Hp := fun b => if b = a then some (.frz { cls := .type "list", data := .seq vs.toArray } (.lst (ns.map V.int))) else none
    have Ha : H a = some (.frz { cls := .type "list", data := .seq vs.toArray } (.lst (ns.map V.int))) := if_pos rfl
    have Hn : ∀ {b}, b ≠ a → H b = none := fun n => if_neg n
    have hO : Only H := fun b => by
      by_cases c : b = a
      · exact .inr ⟨_, _, c ▸ Ha⟩
      · exact .inl (Hn c)
    have ok1 : HOk P w H s₁.heap := fun b u z => by
      by_cases c : b = a
      · subst c
        rw [Ha] at z
        cases z
        exact ⟨ea, by rw [List.length_map]; exact hl, vs, _, rv, ea⟩
      · rw [Hn c] at z
        cases z
    have up : ∀ {b o}, s₁.heap.get? b = some o → b ≠ a → (hidT s₁.heap H).get? b = some o := fun e n => hidT_get e (Hn n)
    have na : ∀ {b o es ep}, s₁.heap.get? b = some o → o.data = .dict es ep → b ≠ a := fun {b o es ep} e d c => by
      subst c
      rw [ea] at e
      cases e
      cases (show Data.seq vs.toArray _ = Data.dict es ep from d)
    have upN : ∀ {b m}, s₁.heap.Ns b m → (hidT s₁.heap H).Ns b m := fun ⟨o, es, ep, e, d, r⟩ => ⟨o, es, ep, up e (na e d), d, r⟩
    have KB : K.In (hidT s₁.heap H) := fun b o e => up (KX b o e) fun c => by
      rw [c, noK] at e
      cases e
    obtain ⟨mc, c1, c2⟩ := nol
    have m1 : Mod K mg (hidT s₁.heap H) := ⟨KB, upN NX, ⟨mb, upN BX, bb⟩, ⟨mc, upN c1, c2⟩⟩
    exact goes_from _ KB (upN NX) (F _ KB (upN NX)) hr ⟨rfl, m1, fun b o e => of_hidT e, Nat.le_of_eq (hidT_size _ _), trivial, fun b z => absurd z List.not_mem_nil, ok1, .of_eq gn⟩ bd hO (hsp H hO (.inl (.inr ⟨_, Ha⟩))) hCX
end
theorem walk_g {l : PySem.W.OpenLaw} {n k : Nat} {q : Program} {loose : List Str} {XP : (Str → Option Value) → Heap → Prop} {YP : World → Heap → Prop} {d : DefRec} {K : Params → PySem.W.Frag} {sp : World → Sp} {x : Str}
    (hn : l.most = some n) (hn2 : n ≤ sizeLine) (df : d.params.defaults = []) (hr : Room k callerA) (hY : ∀ (w : World) (h : Heap), YP w h → (K w.params).In h)
    (F : ∀ (w : World) (mg : Str → Option Value) (fa : Addr) (h : Heap), (K w.params).In h → h.Ns mainGlobals mg → mg d.name = some (.ref fa) →
      ∃ fd : FuncData, (∀ (s : Shared) (u : Value), BindsTo s fd ⟨[u], []⟩ [(x, u)]) ∧ ∀ base : Heap, (K w.params).In base → base.Ns mainGlobals mg → FnG l.prog w (K w.params) mg base CX0 k fa fd [x] (sp w))
    (hsp : ∀ (w : World) (H : Hp) (a : Addr) (ns : List Int), ns.length ≤ n → Only H → SqL (K w.params) H a (ns.map V.int) → sp w [.ref a] H (fun v _ => v = .bl true) fun _ _ _ => False) :
    PySem.W.WalkO q loose XP YP l.row.toRowW d [] (fun f vs => PySem.call f vs) := by
  refine Att.attach_call hn df ?_
  intro w s₀ s₁ mg mb fa o pm cd doc a vs ns G Y ho hd hcd hmg hobj hints hlen hg
  obtain ⟨fd, bd, hF⟩ := F w mg fa _ (hY w _ Y) G.T.g hmg
  exact law_goes (hY w _ Y) G.T.g G.T.b G.T.builtins G.T.nolimit hg hobj hints (Nat.le_trans hlen hn2) hr hF bd (fun H hO hS => hsp w H a ns hlen hO hS) fun _ _ _ z => z
end NF
namespace NF
open PySem PySem.Spec PyProof.Rows L2 Evl
/-- an exception object of the class cls, raised and caught -/
def ExT (cls : Value) (d : Option Addr) (a : Addr) : HO := .ext fun h => ∃ (oe : Obj) (vs : Array Value), h.get? a = some oe ∧ Zc cls d oe ∧ oe.data = .fields vs
end NF
namespace NF
open PySem PySem.Spec PyProof.Rows L2 Evl
def Exs (st : Addr) (H H' : Hp) : Prop := ∀ b o, b ≠ st → H b = some o → H' b = some o
theorem Exs.refl (st : Addr) (H : Hp) : Exs st H H := fun _ _ _ h => h
theorem Exs.trans {st : Addr} {H H1 H2 : Hp} (a : Exs st H H1) (b : Exs st H1 H2) : Exs st H H2 := fun c o n h => b c o n (a c o n h)
theorem Exs.of {st : Addr} {H H1 : Hp} (e : Ex H H1) : Exs st H H1 := fun c o _ h => e c o h
def StA (st : Addr) (H : Hp) : Prop := ∃ (n m : Int) (c : Bool), H st = some (.lst [.int n, .int m, .bl c])
theorem StA.mono {st : Addr} {H H1 : Hp} (e : Ex H H1) (h : StA st H) : StA st H1 := by
  obtain ⟨n, m, c, h⟩ := h
  exact ⟨n, m, c, e _ _ h⟩
/-- what is no list of the state's stays -/
theorem Exs.lst {K : PySem.W.Frag} {st a : Addr} {H H1 : Hp} {xs : List V} (e : Exs st H H1) (n : a ≠ st) (h : SqL K H a xs) : SqL K H1 a xs := by
  rcases h with (h | ⟨o, h⟩) | h
  · exact .inl (.inl (e _ _ n h))
  · exact .inl (.inr ⟨o, e _ _ n h⟩)
  · exact .inr h
theorem Exs.tup {K : PySem.W.Frag} {st a : Addr} {H H1 : Hp} {xs : List V} (e : Exs st H H1) (hs : StA st H) (h : SqT K H a xs) : SqT K H1 a xs := by
  obtain ⟨n, m, c, hs⟩ := hs
  rcases h with (h | ⟨o, h⟩) | h
  · exact .inl (.inl (e _ _ (ne_of h hs (fun z => by cases z)) h))
  · exact .inl (.inr ⟨o, e _ _ (ne_of h hs (fun z => by cases z)) h⟩)
  · exact .inr h
end NF
namespace NF
open PySem PySem.Spec PyProof.Rows L2 Evl
def FineN (n : Nat) (d : PyData) : Prop := d.showable = true ∧ d.hasDict = false ∧ d.leavesShort 2000 = true ∧ d.weight ≤ n
theorem fineI {i : Int} (h : i.natAbs < 2 ^ 1900) : FineN 1900 (.int i) := by
  have hl : i.natAbs.log2 < 1900 := PySem.Flt.log2_lt_of (by decide) h
  refine ⟨?_, rfl, ?_, ?_⟩
  · simp only [PyData.showable, decide_eq_true_eq]
    omega
  · simp only [PyData.leavesShort, decide_eq_true_eq]
    show (Str.ofString (toString i)).length ≤ 2000
    have h1 := int_text_length_le (a := i) (k := 1900) (by decide) hl
    rw [PySem.ofString_length]
    omega
  · simp only [PyData.weight]
    split <;> omega
def fd (x : Rat) : PyData := .tuple [.int x.num, .int x.den]
/-- the bits of a fraction as shown -/
theorem weightI {i : Int} {B : Nat} (h : i.natAbs < 2 ^ B) (h0 : 0 < B) : PyData.weight (.int i) ≤ B := by
  have hl : i.natAbs.log2 < B := PySem.Flt.log2_lt_of h0 h
  simp only [PyData.weight]
  split <;> omega
section
variable {K : PySem.W.Frag} {H H1 H2 : Hp} {σ : L2.St} {ta tb te tl : TE} {x y z : Rat} {v w u : V} {B : Nat} {E : XK}
/-- such a list -/
def EvR (K : PySem.W.Frag) (te : TE) (σ : L2.St) (H : Hp) (xs : List Rat) : Prop := ∀ H1, Ex H H1 → ∀ Q : VK, (∀ p us H2, H1 p = none → Ex H1 H2 → H2 p = some (.lst us) → RtAll K H2 us xs → Q (.ref p) H2) → te σ H1 Q
end
end NF
namespace WL
open PySem L2
def Bk (vs : List V) : Prop := ∃ (g m : Int) (c : Bool), vs = [.int g, .int m, .bl c]
end WL
namespace WL
open PySem PySem.Spec PyProof.Rows L2 Evl NF
structure MP where
  p : Hp → V → Prop
  mono : ∀ {H H' : Hp} {v : V}, Ex H H' → p H v → p H' v
structure Wd where
  r : Hp
  h : Hp
/-- no tuple: what may change -/
def nt : HO → Bool
  | .tup _ => false
  | .frz _ (.tup _) => false
  | _ => true
def Ow (W : Wd) (p : Addr) : Prop := (∃ o, W.h p = some o ∧ nt o = true) ∧ W.r p = none
structure Le (M : Addr → Prop) (W W2 : Wd) : Prop where
  r : Ex W.r W2.r
  h : ∀ p o, ¬ M p → W.h p = some o → W2.h p = some o
  w : ∀ p, Ow W p → Ow W2 p
theorem Le.refl {M : Addr → Prop} (W : Wd) : Le M W W := ⟨Ex.refl _, fun _ _ _ h => h, fun _ h => h⟩
theorem Le.trans {M : Addr → Prop} {W W1 W2 : Wd} (a : Le M W W1) (b : Le M W1 W2) : Le M W W2 := ⟨a.r.trans b.r, fun p o n h => b.h p o n (a.h p o n h), fun p h => b.w p (a.w p h)⟩
theorem Le.more {M N : Addr → Prop} {W W2 : Wd} (a : Le M W W2) (s : ∀ p, M p → N p) : Le N W W2 := ⟨a.r, fun p o n h => a.h p o (fun z => n (s p z)) h, a.w⟩
def Bg (H : Hp) (p : Addr) : Prop := ∃ (vs : List V) (_ : Bk vs), H p = some (.lst vs)
inductive Al (H : Hp) : List V → List MP → Prop
  | nil : Al H [] []
  | cons {v : V} {vs : List V} {P : MP} {Ps : List MP} : P.p H v → Al H vs Ps → Al H (v :: vs) (P :: Ps)
theorem Al.mono {H H' : Hp} (e : Ex H H') : ∀ {vs : List V} {Ps : List MP}, Al H vs Ps → Al H' vs Ps
  | _, _, .nil => .nil
  | _, _, .cons h t => .cons (MP.mono _ e h) (Al.mono e t)
theorem Al.length {H : Hp} : ∀ {vs : List V} {Ps : List MP}, Al H vs Ps → vs.length = Ps.length
  | _, _, .nil => rfl
  | _, _, .cons _ t => congrArg Nat.succ (Al.length t)
theorem Al.get {H : Hp} : ∀ {vs : List V} {Ps : List MP} {i : Nat} {P : MP}, Al H vs Ps → Ps[i]? = some P → ∃ v, vs[i]? = some v ∧ P.p H v
  | _, _, _, _, .nil, e => by simp at e
  | _, _, 0, _, .cons h _, e => by
    have e' := Option.some.inj e
    subst e'
    exact ⟨_, rfl, h⟩
  | _, _, i + 1, _, .cons _ t, e => Al.get (i := i) t e
theorem Al.getV {H : Hp} : ∀ {vs : List V} {Ps : List MP} {i : Nat} {v : V}, Al H vs Ps → vs[i]? = some v → ∃ P, Ps[i]? = some P ∧ P.p H v
  | _, _, _, _, .nil, e => by simp at e
  | _, _, 0, _, .cons h _, e => by
    have e' := Option.some.inj e
    subst e'
    exact ⟨_, rfl, h⟩
  | _, _, i + 1, _, .cons _ t, e => Al.getV (i := i) t e
theorem Al.app {H : Hp} : ∀ {vs ws : List V} {Ps Qs : List MP}, Al H vs Ps → Al H ws Qs → Al H (vs ++ ws) (Ps ++ Qs)
  | _, _, _, _, .nil, r => r
  | _, _, _, _, .cons h t, r => .cons h (Al.app t r)
theorem Al.one {H : Hp} {v : V} {P : MP} (h : P.p H v) : Al H [v] [P] := .cons h .nil
theorem Al.set {H : Hp} {v : V} {P : MP} (h : P.p H v) : ∀ {vs : List V} {Ps : List MP} (i : Nat), Al H vs Ps → Al H (vs.set i v) (Ps.set i P)
  | _, _, _, .nil => .nil
  | _, _, 0, .cons _ t => .cons h t
  | _, _, i + 1, .cons g t => .cons g (Al.set h i t)
theorem Al.drop {H : Hp} : ∀ {vs : List V} {Ps : List MP} (n : Nat), Al H vs Ps → Al H (vs.drop n) (Ps.drop n)
  | _, _, 0, h => h
  | _, _, n + 1, .nil => .nil
  | _, _, n + 1, .cons _ t => Al.drop n t
theorem Al.take {H : Hp} : ∀ {vs : List V} {Ps : List MP} (n : Nat), Al H vs Ps → Al H (vs.take n) (Ps.take n)
  | _, _, 0, h => .nil
  | _, _, n + 1, .nil => .nil
  | _, _, n + 1, .cons h t => .cons h (Al.take n t)
inductive Sl where
  | un
  | val (P : MP)
  | own (Ps : List MP)
  | mat (Pss : List (List MP))
  | bag
/-- rows that are own, by their places -/
inductive Rw (H0 : Hp) (W : Wd) : List Addr → List (List MP) → Prop
  | nil : Rw H0 W [] []
  | cons {p : Addr} {vs : List V} {Ps : List MP} {ps : List Addr} {Pss : List (List MP)} : W.h p = some (.lst vs) → W.r p = none → H0 p = none → Al W.r vs Ps → Rw H0 W ps Pss → Rw H0 W (p :: ps) (Ps :: Pss)
theorem Rw.get {H0 : Hp} {W : Wd} : ∀ {ps : List Addr} {Pss : List (List MP)} {i : Nat} {p : Addr}, Rw H0 W ps Pss → ps[i]? = some p → ∃ vs Ps, Pss[i]? = some Ps ∧ W.h p = some (.lst vs) ∧ W.r p = none ∧ H0 p = none ∧ Al W.r vs Ps
  | _, _, _, _, .nil, e => by simp at e
  | _, _, 0, _, .cons h1 h2 h3 h4 _, e => by
    have e' := Option.some.inj e
    subst e'
    exact ⟨_, _, rfl, h1, h2, h3, h4⟩
  | _, _, i + 1, _, .cons _ _ _ _ t, e => Rw.get (i := i) t e
theorem Rw.len {H0 : Hp} {W : Wd} : ∀ {ps : List Addr} {Pss : List (List MP)}, Rw H0 W ps Pss → ps.length = Pss.length
  | _, _, .nil => rfl
  | _, _, .cons _ _ _ _ t => congrArg Nat.succ (Rw.len t)
theorem Rw.mono {H0 : Hp} {W W2 : Wd} (er : Ex W.r W2.r) : ∀ {ps : List Addr} {Pss : List (List MP)}, Rw H0 W ps Pss → (∀ p ∈ ps, ∀ o, W.h p = some o → W2.h p = some o) → (∀ p ∈ ps, W.r p = none → W2.r p = none) → Rw H0 W2 ps Pss
  | _, _, .nil, _, _ => .nil
  | _, _, .cons h1 h2 h3 h4 t, a, b => .cons (a _ (List.mem_cons_self ..) _ h1) (b _ (List.mem_cons_self ..) h2) h3 (h4.mono er) (Rw.mono er t (fun p hp => a p (List.mem_cons_of_mem _ hp)) fun p hp => b p (List.mem_cons_of_mem _ hp))
theorem Rw.mem {H0 : Hp} {W : Wd} {ps : List Addr} {Pss : List (List MP)} {p : Addr} (h : Rw H0 W ps Pss) (hp : p ∈ ps) : ∃ vs Ps, Ps ∈ Pss ∧ W.h p = some (.lst vs) ∧ W.r p = none ∧ H0 p = none ∧ Al W.r vs Ps := by
  obtain ⟨i, hi⟩ := List.mem_iff_getElem?.mp hp
  obtain ⟨vs, Ps, h1, h2⟩ := h.get hi
  exact ⟨vs, Ps, List.mem_of_getElem? h1, h2⟩
def SlOk (W0 : Wd) (M : Addr → Prop) (W : Wd) (u : Option V) : Sl → Prop
  | .un => True
  | .val P => ∃ v, u = some v ∧ P.p W.r v
  | .own Ps => ∃ p vs, u = some (.ref p) ∧ W.h p = some (.lst vs) ∧ W.r p = none ∧ W0.h p = none ∧ Al W.r vs Ps
  | .mat Pss => ∃ (p : Addr) (ps : List Addr), u = some (.ref p) ∧ W.r p = some (.lst (ps.map V.ref)) ∧ ps.Nodup ∧ Rw W0.h W ps Pss
  | .bag => ∃ p, u = some (.ref p) ∧ Bg W.h p ∧ W.r p = none ∧ (W0.h p = none ∨ M p)
/-- the places that a slot may change -/
def ft (R : Hp) (u : Option V) : Sl → Addr → Prop
  | .own _ => fun a => u = some (.ref a)
  | .bag => fun a => u = some (.ref a)
  | .mat _ => fun a => ∃ (p : Addr) (ps : List Addr), u = some (.ref p) ∧ R p = some (.lst (ps.map V.ref)) ∧ a ∈ ps
  | _ => fun _ => False
def Sl.ow : Sl → Bool
  | .own _ => true
  | .mat _ => true
  | .bag => true
  | _ => false
theorem ft_ow {R : Hp} {u : Option V} {s : Sl} {a : Addr} (h : ft R u s a) : s.ow = true := by
  cases s with
  | un => exact h.elim
  | val P => exact h.elim
  | own Ps => rfl
  | mat Pss => rfl
  | bag => rfl
theorem map_ref_inj : ∀ {ps qs : List Addr}, ps.map V.ref = qs.map V.ref → ps = qs
  | [], [], _ => rfl
  | [], _ :: _, h => by cases h
  | _ :: _, [], h => by cases h
  | p :: ps, q :: qs, h => by
    have h1 := List.cons.inj h
    have h2 : p = q := V.ref.inj h1.1
    rw [h2, map_ref_inj h1.2]
structure En (W0 : Wd) (M : Addr → Prop) (W : Wd) (σ : L2.St) (ρ : List Sl) : Prop where
  sub : Ex W.r W.h
  le : Le M W0 W
  old : ∀ p, M p → Bg W0.h p
  bags : ∀ p, M p → Bg W.h p
  len : σ.length = ρ.length
  ok : ∀ (i : Nat) s, ρ[i]? = some s → ∃ u, σ[i]? = some u ∧ SlOk W0 M W u s
  ne : ∀ (i j : Nat) s t u w a, i ≠ j → ρ[i]? = some s → ρ[j]? = some t → σ[i]? = some u → σ[j]? = some w → ft W.r u s a → ¬ ft W.r w t a
def Bags (σ : L2.St) (ρ : List Sl) (p : Addr) : Prop := ∃ i : Nat, ρ[i]? = some .bag ∧ σ[i]? = some (some (.ref p))
/-- a step of an expression: bags may turn, all else stands -/
structure Go (σ : L2.St) (ρ : List Sl) (W W2 : Wd) : Prop where
  sub : Ex W2.r W2.h
  le : Le (Bags σ ρ) W W2
  bg : ∀ p, Bags σ ρ p → Bg W2.h p
theorem Go.trans {σ : L2.St} {ρ : List Sl} {W W1 W2 : Wd} (a : Go σ ρ W W1) (b : Go σ ρ W1 W2) : Go σ ρ W W2 := ⟨b.sub, a.le.trans b.le, b.bg⟩
section
variable {W0 W W1 W2 W3 : Wd} {M : Addr → Prop} {σ : L2.St} {ρ : List Sl} {i : Nat}
theorem En.bag (e : En W0 M W σ ρ) {p : Addr} (h : Bags σ ρ p) : Bg W.h p ∧ W.r p = none ∧ (W0.h p = none ∨ M p) := by
  obtain ⟨i, h1, h2⟩ := h
  obtain ⟨u, e1, q, e2, r⟩ := e.ok i _ h1
  rw [h2] at e1
  cases e1
  cases e2
  exact r
theorem En.go (e : En W0 M W σ ρ) (g : Go σ ρ W W2) : En W0 M W2 σ ρ := by
  have st : ∀ p o, ¬ M p → W0.h p = some o → W2.h p = some o := fun p o n h => g.le.h p o (fun b => (e.bag b).2.2.elim (fun z => by rw [z] at h; cases h) n) (e.le.h p o n h)
  have dn : ∀ {i : Nat} {s : Sl} {u : Option V} {a : Addr}, ρ[i]? = some s → σ[i]? = some u → ft W2.r u s a → ft W.r u s a := fun {i s u a} hs hu h => by
    cases s with
    | un => exact h
    | val P => exact h
    | own Ps => exact h
    | bag => exact h
    | mat Pss =>
      obtain ⟨p, ps, h1, h2, h3⟩ := h
      obtain ⟨u', hu', p', ps', e1, k1, _⟩ := e.ok i _ hs
      rw [hu] at hu'
      cases hu'
      rw [h1] at e1
      cases e1
      have := g.le.r _ _ k1
      rw [h2] at this
      have := map_ref_inj (HO.lst.inj (Option.some.inj this))
      subst this
      exact ⟨p, ps, h1, k1, h3⟩
  refine ⟨g.sub, ⟨e.le.r.trans g.le.r, st, fun p h => g.le.w p (e.le.w p h)⟩, e.old, fun p m => ?_, e.len, fun i s hs => ?_, fun i j s t u w a n h1 h2 k1 k2 f1 f2 => e.ne i j s t u w a n h1 h2 k1 k2 (dn h1 k1 f1) (dn h2 k2 f2)⟩
  · by_cases b : Bags σ ρ p
    · exact g.bg p b
    · obtain ⟨x, y, h⟩ := e.bags p m
      exact ⟨x, y, g.le.h _ _ b h⟩
  · obtain ⟨u, h1, h2⟩ := e.ok i s hs
    refine ⟨u, h1, ?_⟩
    cases s with
    | un => trivial
    | val P =>
      obtain ⟨v, rfl, h⟩ := h2
      exact ⟨v, rfl, P.mono g.le.r h⟩
    | own Ps =>
      obtain ⟨p, vs, rfl, h3, h4, h5, h6⟩ := h2
      refine ⟨p, vs, rfl, g.le.h _ _ (fun b => ?_) h3, (g.le.w p ⟨⟨_, h3, rfl⟩, h4⟩).2, h5, h6.mono g.le.r⟩
      obtain ⟨j, j1, j2⟩ := b
      by_cases c : i = j
      · subst c
        rw [hs] at j1
        cases j1
      · exact e.ne i j _ _ _ _ _ c hs j1 h1 j2 (show some (V.ref p) = some (V.ref p) from rfl) rfl
    | mat Pss =>
      obtain ⟨p, ps, rfl, h3, h4, h5⟩ := h2
      refine ⟨p, ps, rfl, g.le.r _ _ h3, h4, h5.mono g.le.r (fun q hq o ho => g.le.h _ _ (fun b => ?_) ho) fun q hq hr => ?_⟩
      · obtain ⟨j, j1, j2⟩ := b
        by_cases c : i = j
        · subst c
          rw [hs] at j1
          cases j1
        · exact e.ne i j _ _ _ _ _ c hs j1 h1 j2 (show ft W.r (some (V.ref p)) (.mat Pss) q from ⟨p, ps, rfl, h3, hq⟩) rfl
      · obtain ⟨vs, Ps, _, k1, _⟩ := h5.mem hq
        exact (g.le.w q ⟨⟨_, k1, rfl⟩, hr⟩).2
    | bag =>
      obtain ⟨p, rfl, h3, h4, h5⟩ := h2
      obtain ⟨_, _, h3'⟩ := id h3
      exact ⟨p, rfl, g.bg p ⟨i, hs, h1⟩, (g.le.w p ⟨⟨_, h3', rfl⟩, h4⟩).2, h5⟩
theorem En.id (e : En W0 M W σ ρ) : Go σ ρ W W := ⟨e.sub, Le.refl W, fun p b => (e.bag b).1⟩
end
def ROk (W W2 : Wd) (v : V) : Sl → Prop
  | .val P => P.p W2.r v
  | .own Ps => ∃ p vs, v = .ref p ∧ W2.h p = some (.lst vs) ∧ W2.r p = none ∧ W.h p = none ∧ Al W2.r vs Ps
  | .mat Pss => ∃ (p : Addr) (ps : List Addr), v = .ref p ∧ W2.r p = some (.lst (ps.map V.ref)) ∧ W.h p = none ∧ ps.Nodup ∧ Rw W.h W2 ps Pss
  | _ => False
def E (ρ : List Sl) (te : TE) (Ψ : Sl → Prop) : Prop := ∀ W0 M W σ, En W0 M W σ ρ → ∀ Q : VK, (∀ s v W2, Go σ ρ W W2 → ROk W W2 v s → Ψ s → Q v W2.h) → te σ W.h Q
def T (ρ : List Sl) (tt : TT) (Ψ : Bool → Prop) : Prop := ∀ W0 M W σ, En W0 M W σ ρ → ∀ Q : Bool → Hp → Prop, (∀ b W2, Go σ ρ W W2 → Ψ b → Q b W2.h) → tt σ W.h Q
def D (ρ : List Sl) (te : TE) (P : MP) : Prop := ∀ W0 M W σ, En W0 M W σ ρ → ∀ Q : VK, (∀ v W2, Go σ ρ W W2 → P.p W2.r v → Q v W2.h) → te σ W.h Q
section
variable {K : PySem.W.Frag} {W0 W W1 W2 W3 : Wd} {M : Addr → Prop} {σ : L2.St} {ρ : List Sl} {i j : Nat} {P P1 P2 P3 : MP} {Ps Qs : List MP} {ta tb tc te : TE} {tt t1 t2 : TT} {Ψ : Sl → Prop} {Φ : Bool → Prop} {v w u : V} {b b1 b2 : Bool} {r r1 r2 : R2}
def sc (v : V) : MP := ⟨fun _ u => u = v, fun _ h => h⟩
def lst (K : PySem.W.Frag) (Ps : List MP) : MP := ⟨fun H v => ∃ p vs, v = .ref p ∧ SqL K H p vs ∧ Al H vs Ps, fun e h => by
  obtain ⟨p, vs, h1, h2, h3⟩ := h
  exact ⟨p, vs, h1, ex_l e h2, h3.mono e⟩⟩
def tup (K : PySem.W.Frag) (Ps : List MP) : MP := ⟨fun H v => ∃ p vs, v = .ref p ∧ SqT K H p vs ∧ Al H vs Ps, fun e h => by
  obtain ⟨p, vs, h1, h2, h3⟩ := h
  exact ⟨p, vs, h1, ex_t e h2, h3.mono e⟩⟩
def rat (K : PySem.W.Frag) (x : Rat) : MP := ⟨fun H v => Rt K H v x, fun e h => h.mono e⟩
theorem E.of (h : D ρ te P) (q : Ψ (.val P)) : E ρ te Ψ := fun W0 M W σ e Q k => h W0 M W σ e Q fun v W2 g r => k (.val P) v W2 g r q
theorem E.mono {Ψ2 : Sl → Prop} (h : E ρ te Ψ) (q : ∀ s, Ψ s → Ψ2 s) : E ρ te Ψ2 := fun W0 M W σ e Q k => h W0 M W σ e Q fun s v W2 g r z => k s v W2 g r (q s z)
theorem T.mono {Φ2 : Bool → Prop} (h : T ρ tt Φ) (q : ∀ s, Φ s → Φ2 s) : T ρ tt Φ2 := fun W0 M W σ e Q k => h W0 M W σ e Q fun s W2 g z => k s W2 g (q s z)
theorem D.is (h : D ρ te P) (e : P = P2) : D ρ te P2 := e ▸ h
theorem D.imp (h : D ρ te P) (q : ∀ H v, P.p H v → P2.p H v) : D ρ te P2 := fun W0 M W σ e Q k => h W0 M W σ e Q fun v W2 g r => k v W2 g (q _ _ r)
/-- an operation that reads -/
def OpV (r : R2) (P Q T : MP) : Prop := ∀ (R H : Hp) x y, Ex R H → P.p R x → Q.p R y → ∀ C : VK, (∀ v, T.p R v → C v H) → r x y H C
theorem T.of (h : D ρ te (sc (.bl b))) (q : Φ b) : T ρ (tTest te) Φ := fun W0 M W σ e Q k => h W0 M W σ e _ fun v W2 g r => by
  cases r
  exact ⟨b, rfl, k b W2 g q⟩
theorem t_yes (q : Φ true) : T ρ tYes Φ := fun W0 M W σ e Q k => k true W e.id q
end
end WL
namespace WL
open PySem PySem.Spec PyProof.Rows L2 Evl NF
inductive Set (K : PySem.W.Frag) : Sl → MP → Prop
  | val {P : MP} : Set K (.val P) P
  | own {Ps : List MP} : Set K (.own Ps) (lst K Ps)
  | mat {Pss : List (List MP)} : Set K (.mat Pss) (lst K (Pss.map (lst K)))
/-- settled with the rows at ps -/
def Rin (R H : Hp) (ps : List Addr) : Hp := fun a => if a ∈ ps then H a else R a
theorem rin_ex {R H : Hp} {ps : List Addr} (h : ∀ p ∈ ps, R p = none) : Ex R (Rin R H ps) := fun a o ha => by
  unfold Rin
  rw [if_neg fun c => ?_]
  · exact ha
  · rw [h a c] at ha
    cases ha
theorem rin_sub {R H : Hp} {ps : List Addr} (s : Ex R H) : Ex (Rin R H ps) H := fun a o ha => by
  unfold Rin at ha
  split at ha
  · exact ha
  · exact s _ _ ha
theorem rin_rows {K : PySem.W.Frag} {H0 : Hp} {W : Wd} {qs : List Addr} (hq : ∀ p ∈ qs, W.r p = none) : ∀ {ps : List Addr} {Pss : List (List MP)}, Rw H0 W ps Pss → (∀ p ∈ ps, p ∈ qs) → Al (Rin W.r W.h qs) (ps.map V.ref) (Pss.map (lst K))
  | _, _, .nil, _ => .nil
  | _, _, .cons (p := p) h1 h2 h3 h4 t, m => .cons ⟨_, _, rfl, SqL.of (by unfold Rin; rw [if_pos (m _ (List.mem_cons_self ..))]; exact h1), h4.mono (rin_ex hq)⟩ (rin_rows hq t fun p hp => m p (List.mem_cons_of_mem _ hp))
section
variable {K : PySem.W.Frag} {W0 W W1 W2 W3 : Wd} {M : Addr → Prop} {σ : L2.St} {ρ : List Sl} {i j : Nat} {P P1 P2 P3 : MP} {Ps Qs : List MP} {ta tb tc te : TE} {tt t1 t2 : TT} {Ψ : Sl → Prop} {Φ : Bool → Prop} {v w u : V} {b b1 b2 : Bool} {r r1 r2 : R2} {s : Sl}
theorem settle (e : En W0 M W σ ρ) (g : Go σ ρ W W2) (h : ROk W W2 v s) (q : Set K s P) : ∃ W3, W3.h = W2.h ∧ Ex W2.r W3.r ∧ Go σ ρ W W3 ∧ P.p W3.r v := by
  cases q with
  | val => exact ⟨W2, rfl, Ex.refl _, g, h⟩
  | own =>
    obtain ⟨p, vs, rfl, h1, h2, h3, h4⟩ := h
    have ex : Ex W2.r (upd W2.r p (.lst vs)) := Ex.new h2
    refine ⟨⟨upd W2.r p (.lst vs), W2.h⟩, rfl, ex, ⟨fun a o (ha : upd W2.r p (.lst vs) a = some o) => ?_, ⟨g.le.r.trans ex, g.le.h, fun q hq => ?_⟩, g.bg⟩, p, vs, rfl, SqL.of upd_same, h4.mono ex⟩
    · by_cases c : a = p
      · subst c
        rw [upd_same] at ha
        cases ha
        exact h1
      · rw [upd_ne c] at ha
        exact g.sub _ _ ha
    · have c : q ≠ p := fun z => by
        obtain ⟨⟨xs, hx, _⟩, _⟩ := hq
        rw [z, h3] at hx
        cases hx
      exact ⟨(g.le.w q hq).1, by show upd W2.r p _ q = none; rw [upd_ne c]; exact (g.le.w q hq).2⟩
  | mat =>
    obtain ⟨p, ps, rfl, h1, h2, h3, h4⟩ := h
    have hr : ∀ q ∈ ps, W2.r q = none := fun q hq => by
      obtain ⟨_, _, _, _, k2, _⟩ := h4.mem hq
      exact k2
    have ex : Ex W2.r (Rin W2.r W2.h ps) := rin_ex hr
    refine ⟨⟨Rin W2.r W2.h ps, W2.h⟩, rfl, ex, ⟨rin_sub g.sub, ⟨g.le.r.trans ex, g.le.h, fun q hq => ?_⟩, g.bg⟩, p, _, rfl, SqL.of (ex _ _ h1), rin_rows hr h4 fun _ z => z⟩
    have c : q ∉ ps := fun z => by
      obtain ⟨_, _, _, _, _, k3, _⟩ := h4.mem z
      obtain ⟨⟨o, ho, _⟩, _⟩ := hq
      rw [k3] at ho
      cases ho
    exact ⟨(g.le.w q hq).1, by show Rin W2.r W2.h ps q = none; unfold Rin; rw [if_neg c]; exact (g.le.w q hq).2⟩
theorem ROk.back (e : En W0 M W σ ρ) (g : Go σ ρ W W1) (r : ROk W1 W2 v s) : ROk W W2 v s := by
  cases s with
  | val P => exact r
  | own Ps =>
    obtain ⟨p, vs, h1, h2, h3, h4, h5⟩ := r
    refine ⟨p, vs, h1, h2, h3, ?_, h5⟩
    cases c : W.h p with
    | none => rfl
    | some o =>
      by_cases bb : Bags σ ρ p
      · obtain ⟨_, _, z⟩ := g.bg p bb
        rw [h4] at z
        cases z
      · have := g.le.h p o bb c
        rw [h4] at this
        cases this
  | mat Pss =>
    have nn : ∀ {p}, W1.h p = none → W.h p = none := fun {p} h4 => by
      cases c : W.h p with
      | none => rfl
      | some o =>
        by_cases bb : Bags σ ρ p
        · obtain ⟨_, _, z⟩ := g.bg p bb
          rw [h4] at z
          cases z
        · have := g.le.h p o bb c
          rw [h4] at this
          cases this
    obtain ⟨p, ps, h1, h2, h3, h4, h5⟩ := r
    refine ⟨p, ps, h1, h2, nn h3, h4, ?_⟩
    clear h2 h4
    induction h5 with
    | nil => exact .nil
    | cons k1 k2 k3 k4 _ ih => exact .cons k1 k2 (nn k3) k4 ih
  | un => exact r
  | bag => exact r
theorem D.of (h : E ρ te fun s => Set K s P) : D ρ te P := fun W0 M W σ e Q k => h W0 M W σ e _ fun s v W2 g r q => by
  obtain ⟨W3, e1, _, g3, p3⟩ := settle e g r q
  rw [← e1]
  exact k v W3 g3 p3
def AOk (σ : L2.St) (ρ : List Sl) (W : Wd) (v : V) : Sl → Prop
  | .val P => P.p W.r v
  | .bag => ∃ i : Nat, ρ[i]? = some .bag ∧ σ[i]? = some (some v)
  | _ => False
inductive AOks (σ : L2.St) (ρ : List Sl) (W : Wd) : List V → List Sl → Prop
  | nil : AOks σ ρ W [] []
  | cons {v : V} {s : Sl} {vs : List V} {ss : List Sl} : AOk σ ρ W v s → AOks σ ρ W vs ss → AOks σ ρ W (v :: vs) (s :: ss)
theorem AOk.mono (e : Ex W.r W2.r) (h : AOk σ ρ W v s) : AOk σ ρ W2 v s := by
  cases s with
  | val P => exact P.mono e h
  | bag => exact h
  | un => exact h
  | own _ => exact h
  | mat _ => exact h
def EA (ρ : List Sl) (ta : TA) (Φ : List Sl → Prop) : Prop := ∀ W0 M W σ, En W0 M W σ ρ → ∀ Q : List V → Hp → Prop, (∀ ss vs W2, Go σ ρ W W2 → AOks σ ρ W2 vs ss → Φ ss → Q vs W2.h) → ta σ W.h Q
def DA (ρ : List Sl) (ta : TA) (Ps : List MP) : Prop := ∀ W0 M W σ, En W0 M W σ ρ → ∀ Q : List V → Hp → Prop, (∀ vs W2, Go σ ρ W W2 → Al W2.r vs Ps → Q vs W2.h) → ta σ W.h Q
variable {tA tr : TA} {ΦA : List Sl → Prop}
theorem ea_nil (q : ΦA []) : EA ρ tNil ΦA := fun W0 M W σ e Q k => k [] [] W e.id .nil q
theorem ea_cons (h : E ρ ta fun s => ∃ P, Set K s P ∧ EA ρ tr fun ss => ΦA (.val P :: ss)) : EA ρ (tCons ta tr) ΦA := fun W0 M W σ e Q k => h W0 M W σ e _ fun s v W1 g1 r q => by
  obtain ⟨P, hs, q⟩ := q
  obtain ⟨W3, e1, _, g3, p3⟩ := settle e g1 r hs
  show tr σ W1.h _
  rw [← e1]
  exact q W0 M W3 σ (e.go g3) _ fun ss vs W2 g2 as q => k _ _ W2 (g3.trans g2) (.cons (s := .val P) (P.mono g2.le.r p3) as) q
theorem EA.of (h : DA ρ tA Ps) (q : ΦA (Ps.map .val)) : EA ρ tA ΦA := fun W0 M W σ e Q k => h W0 M W σ e _ fun vs W2 g a => by
  refine k (Ps.map .val) vs W2 g ?_ q
  clear q k h
  induction a with
  | nil => exact .nil
  | cons p _ ih => exact .cons p ih
def CbV (r : List V → Hp → VK → Prop) (Ps : List MP) (T : MP) : Prop := ∀ (R H : Hp) vs, Ex R H → Al R vs Ps → ∀ C : VK, (∀ v, T.p R v → C v H) → r vs H C
theorem Al.inv1 {H : Hp} {vs : List V} (h : Al H vs [P]) : ∃ v, vs = [v] ∧ P.p H v := by
  cases h with
  | cons p t =>
    cases t
    exact ⟨_, rfl, p⟩
theorem Al.inv2 {H : Hp} {vs : List V} (h : Al H vs [P, P2]) : ∃ v w, vs = [v, w] ∧ P.p H v ∧ P2.p H w := by
  cases h with
  | cons p t =>
    obtain ⟨w, rfl, q⟩ := t.inv1
    exact ⟨_, w, rfl, p, q⟩
/-- a new list, from where the heap stands -/
theorem e_new (e : En W0 M W σ ρ) (g : Go σ ρ W W2) {p : Addr} {vs : List V} (hp : W2.h p = none) (a : Al W2.r vs Ps) : ∃ W3, W3.h = upd W2.h p (.lst vs) ∧ W3.r = W2.r ∧ Go σ ρ W W3 ∧ ROk W W3 (.ref p) (.own Ps) := by
  have rp : W2.r p = none := by
    cases c : W2.r p with
    | none => rfl
    | some o => rw [g.sub _ _ c] at hp; cases hp
  have wp : W.h p = none := by
    cases c : W.h p with
    | none => rfl
    | some o =>
      by_cases bb : Bags σ ρ p
      · obtain ⟨_, _, z⟩ := g.bg p bb
        rw [hp] at z
        cases z
      · have := g.le.h p o bb c
        rw [hp] at this
        cases this
  refine ⟨⟨W2.r, upd W2.h p (.lst vs)⟩, rfl, rfl, ⟨fun q o hq => Ex.new hp _ _ (g.sub _ _ hq), ⟨g.le.r, fun q o n hq => Ex.new hp _ _ (g.le.h q o n hq), fun q hq => ?_⟩, fun q b => ?_⟩, p, vs, rfl, upd_same, rp, wp, a⟩
  · obtain ⟨⟨xs, h1, hnt⟩, h2⟩ := g.le.w q hq
    exact ⟨⟨xs, Ex.new hp _ _ h1, hnt⟩, h2⟩
  · obtain ⟨x, y, h1⟩ := g.bg q b
    exact ⟨x, y, Ex.new hp _ _ h1⟩
/-- a builtin call that makes a list -/
def CbL (r : List V → Hp → VK → Prop) (Ps Qs : List MP) : Prop := ∀ (R H : Hp) vs, Ex R H → Al R vs Ps → ∀ C : VK, (∀ p ws, H p = none → Al R ws Qs → C (.ref p) (upd H p (.lst ws))) → r vs H C
end
def noBag : List Sl → Bool
  | [] => true
  | .bag :: _ => false
  | _ :: t => noBag t
def oneBag : List Sl → Bool
  | [] => true
  | .bag :: t => noBag t
  | _ :: t => oneBag t
theorem noBag_no : ∀ {ρ : List Sl} {i : Nat}, noBag ρ = true → ρ[i]? ≠ some .bag
  | [], _, _, e => by simp at e
  | .bag :: _, _, h, _ => by cases h
  | .un :: t, 0, _, e => by simp at e
  | .val _ :: t, 0, _, e => by simp at e
  | .own _ :: t, 0, _, e => by simp at e
  | .mat _ :: t, 0, _, e => by simp at e
  | .mat _ :: t, i + 1, h, e => noBag_no (ρ := t) (i := i) h (by simpa using e)
  | .un :: t, i + 1, h, e => noBag_no (ρ := t) (i := i) h (by simpa using e)
  | .val _ :: t, i + 1, h, e => noBag_no (ρ := t) (i := i) h (by simpa using e)
  | .own _ :: t, i + 1, h, e => noBag_no (ρ := t) (i := i) h (by simpa using e)
theorem oneBag_eq : ∀ {ρ : List Sl} {i j : Nat}, oneBag ρ = true → ρ[i]? = some .bag → ρ[j]? = some .bag → i = j
  | [], _, _, _, e, _ => by simp at e
  | .bag :: t, 0, 0, _, _, _ => rfl
  | .bag :: t, i + 1, _, h, e, _ => absurd (show t[i]? = some .bag by simpa using e) (noBag_no h)
  | .bag :: t, _, j + 1, h, _, e => absurd (show t[j]? = some .bag by simpa using e) (noBag_no h)
  | .un :: t, 0, _, _, e, _ => by simp at e
  | .val _ :: t, 0, _, _, e, _ => by simp at e
  | .own _ :: t, 0, _, _, e, _ => by simp at e
  | .mat _ :: t, 0, _, _, e, _ => by simp at e
  | .un :: t, _, 0, _, _, e => by simp at e
  | .val _ :: t, _, 0, _, _, e => by simp at e
  | .own _ :: t, _, 0, _, _, e => by simp at e
  | .mat _ :: t, _, 0, _, _, e => by simp at e
  | .mat _ :: t, i + 1, j + 1, h, e1, e2 => congrArg Nat.succ (oneBag_eq (ρ := t) h (by simpa using e1) (by simpa using e2))
  | .un :: t, i + 1, j + 1, h, e1, e2 => congrArg Nat.succ (oneBag_eq (ρ := t) h (by simpa using e1) (by simpa using e2))
  | .val _ :: t, i + 1, j + 1, h, e1, e2 => congrArg Nat.succ (oneBag_eq (ρ := t) h (by simpa using e1) (by simpa using e2))
  | .own _ :: t, i + 1, j + 1, h, e1, e2 => congrArg Nat.succ (oneBag_eq (ρ := t) h (by simpa using e1) (by simpa using e2))
/-- an argument as the callee meets it -/
def POk (W : Wd) (v : V) : Sl → Prop
  | .val P => P.p W.r v
  | .bag => ∃ p, v = .ref p ∧ Bg W.h p ∧ W.r p = none
  | _ => False
inductive POks (W : Wd) : List V → List Sl → Prop
  | nil : POks W [] []
  | cons {v : V} {s : Sl} {vs : List V} {ss : List Sl} : POk W v s → POks W vs ss → POks W (v :: vs) (s :: ss)
theorem POks.length {W : Wd} : ∀ {vs : List V} {ss : List Sl}, POks W vs ss → vs.length = ss.length
  | _, _, .nil => rfl
  | _, _, .cons _ t => congrArg Nat.succ (POks.length t)
theorem POks.get {W : Wd} : ∀ {vs : List V} {ss : List Sl} {i : Nat} {s : Sl}, POks W vs ss → ss[i]? = some s → ∃ v, vs[i]? = some v ∧ POk W v s
  | _, _, _, _, .nil, e => by simp at e
  | _, _, 0, _, .cons h _, e => by
    have e' := Option.some.inj e
    subst e'
    exact ⟨_, rfl, h⟩
  | _, _, i + 1, _, .cons _ t, e => POks.get (i := i) t e
def BagOf (vs : List V) (ss : List Sl) (p : Addr) : Prop := ∃ i : Nat, ss[i]? = some .bag ∧ vs[i]? = some (.ref p)
section
variable {K : PySem.W.Frag} {W0 W W1 W2 W3 : Wd} {M : Addr → Prop} {σ : L2.St} {ρ : List Sl} {i j : Nat} {P : MP} {Ps Qs : List MP} {ta tb tc te : TE} {tA tr : TA} {Ψ : Sl → Prop} {v w u : V} {pre : List Sl → (Sl → Prop) → Prop} {dvs : List V} {Ex0 : XK}
theorem AOks.bag : ∀ {vs : List V} {ss : List Sl} {p : Addr}, AOks σ ρ W vs ss → BagOf vs ss p → Bags σ ρ p
  | _, _, _, .nil, ⟨i, e, _⟩ => by simp at e
  | _, _, _, .cons h t, ⟨0, e1, e2⟩ => by
    simp at e1 e2
    subst e1 e2
    exact h
  | _, _, _, .cons h t, ⟨i + 1, e1, e2⟩ => AOks.bag t ⟨i, by simpa using e1, by simpa using e2⟩
theorem AOks.app {Vs : List MP} {ws : List V} (a : Al W.r ws Vs) : ∀ {vs : List V} {ss : List Sl}, AOks σ ρ W vs ss → AOks σ ρ W (vs ++ ws) (ss ++ Vs.map .val)
  | _, _, .nil => by
    show AOks σ ρ W ws (Vs.map .val)
    induction a with
    | nil => exact .nil
    | cons p _ ih => exact .cons p ih
  | _, _, .cons h t => .cons h (AOks.app a t)
end
end WL
namespace WL
open PySem PySem.Spec PyProof.Rows L2 Evl NF
structure Post where
  nx : List Sl → Prop
  rt : Sl → Prop
  bk : List Sl → Prop := fun _ => False
  ct : List Sl → Prop := fun _ => False
structure Meets (W0 : Wd) (M : Addr → Prop) (D : Ends) (R : Post) : Prop where
  nx : ∀ W σ ρ, En W0 M W σ ρ → R.nx ρ → D.nx σ W.h
  bk : ∀ W σ ρ, En W0 M W σ ρ → R.bk ρ → D.bk σ W.h
  ct : ∀ W σ ρ, En W0 M W σ ρ → R.ct ρ → D.ct σ W.h
  rt : ∀ s v W, Ex W.r W.h → Le M W0 W → (∀ p, M p → Bg W.h p) → ROk W0 W v s → R.rt s → D.rt v W.h
def G (ts : TS) (ρ : List Sl) (R : Post) : Prop := ∀ W0 M W σ D, En W0 M W σ ρ → Meets W0 M D R → ts D σ W.h
section
variable {K : PySem.W.Frag} {W0 W W1 W2 W3 : Wd} {M : Addr → Prop} {σ : L2.St} {ρ ρ1 ρ2 : List Sl} {i j : Nat} {P P1 P2 P3 : MP} {Ps Qs : List MP} {ta tb tc te tl : TE} {tt t1 t2 : TT} {Ψ : Sl → Prop} {v w u : V} {b b1 b2 : Bool} {R : Post} {t tu tw tz : TS} {s : Sl} {tA : TA}
theorem ROk.base (e : En W0 M W σ ρ) (r : ROk W W2 v s) : ROk W0 W2 v s := by
  cases s with
  | val P => exact r
  | own Ps =>
    obtain ⟨p, vs, h1, h2, h3, h4, h5⟩ := r
    refine ⟨p, vs, h1, h2, h3, ?_, h5⟩
    cases c : W0.h p with
    | none => rfl
    | some o =>
      by_cases m : M p
      · obtain ⟨_, _, z⟩ := e.bags p m
        rw [h4] at z
        cases z
      · have := e.le.h p o m c
        rw [h4] at this
        cases this
  | mat Pss =>
    have nn : ∀ {p}, W.h p = none → W0.h p = none := fun {p} h4 => by
      cases c : W0.h p with
      | none => rfl
      | some o =>
        by_cases m : M p
        · obtain ⟨_, _, z⟩ := e.bags p m
          rw [h4] at z
          cases z
        · have := e.le.h p o m c
          rw [h4] at this
          cases this
    obtain ⟨p, ps, h1, h2, h3, h4, h5⟩ := r
    refine ⟨p, ps, h1, h2, nn h3, h4, ?_⟩
    clear h2 h4
    induction h5 with
    | nil => exact .nil
    | cons k1 k2 k3 k4 _ ih => exact .cons k1 k2 (nn k3) k4 ih
  | un => exact r
  | bag => exact r
/-- what a slot may change stands in the heap -/
theorem En.ft_some (e : En W0 M W σ ρ) {k : Nat} {t' : Sl} {u : Option V} {a : Addr} (hk : ρ[k]? = some t') (hu : σ[k]? = some u) (h : ft W.r u t' a) : ∃ o, W.h a = some o := by
  obtain ⟨u', hu', q⟩ := e.ok k t' hk
  rw [hu] at hu'
  cases hu'
  cases t' with
  | un => exact h.elim
  | val P => exact h.elim
  | own Qs =>
    obtain ⟨p', vs', e1, q2, _⟩ := q
    have h' : u = some (.ref a) := h
    rw [h'] at e1
    cases e1
    exact ⟨_, q2⟩
  | bag =>
    obtain ⟨p', e1, ⟨_, _, q2⟩, _⟩ := q
    have h' : u = some (.ref a) := h
    rw [h'] at e1
    cases e1
    exact ⟨_, q2⟩
  | mat Pss =>
    obtain ⟨p, ps, e1, k1, _, rw_⟩ := q
    obtain ⟨p2, ps2, e2, k2, hm⟩ := h
    rw [e1] at e2
    cases e2
    rw [k1] at k2
    have := map_ref_inj (HO.lst.inj (Option.some.inj k2))
    subst this
    obtain ⟨vs, _, _, k3, _⟩ := rw_.mem hm
    exact ⟨_, k3⟩
/-- a slot is set -/
theorem En.set (e : En W0 M W σ ρ) (g : Go σ ρ W W2) (r : ROk W W2 v s) (hi : i < ρ.length) : En W0 M W2 (σ.set i (some v)) (ρ.set i s) := by
  have e2 := e.go g
  have rb := ROk.base e r
  have hσ : i < σ.length := by rw [e.len]; exact hi
  refine ⟨e2.sub, e2.le, e2.old, e2.bags, by rw [List.length_set, List.length_set]; exact e.len, fun k t hk => ?_, fun k l t t' u w a hkl hk hl ku lu o1 o2 => ?_⟩
  · by_cases c : i = k
    · subst c
      rw [List.getElem?_set_self hi] at hk
      cases hk
      refine ⟨some v, List.getElem?_set_self hσ, ?_⟩
      cases s with
      | un => trivial
      | val P => exact ⟨v, rfl, r⟩
      | own Ps =>
        obtain ⟨p, vs, rfl, h2, h3, h4, h5⟩ := rb
        exact ⟨p, vs, rfl, h2, h3, h4, h5⟩
      | mat Pss =>
        obtain ⟨p, ps, rfl, h2, h3, h4, h5⟩ := rb
        exact ⟨p, ps, rfl, h2, h4, h5⟩
      | bag => exact r.elim
    · rw [List.getElem?_set_ne c] at hk
      rw [List.getElem?_set_ne c]
      exact e2.ok k t hk
  · have fr : ∀ {l : Nat} {t' : Sl} {w : Option V} {a : Addr}, ρ[l]? = some t' → σ[l]? = some w → ft W2.r w t' a → ¬ ft W2.r (some v) s a := by
      clear hk hl o1 o2 hkl ku lu
      intro l t' w a hl lu o2 o1
      have st : ∃ o, W.h a = some o := by
        refine e.ft_some hl lu ?_
        cases t' with
        | un => exact o2
        | val P => exact o2
        | own Ps => exact o2
        | bag => exact o2
        | mat Pss =>
          obtain ⟨p, ps, h1, h2, h3⟩ := o2
          obtain ⟨u', hu', p', ps', e1, k1, _⟩ := e.ok l _ hl
          rw [lu] at hu'
          cases hu'
          rw [h1] at e1
          cases e1
          have := g.le.r _ _ k1
          rw [h2] at this
          have := map_ref_inj (HO.lst.inj (Option.some.inj this))
          subst this
          exact ⟨p, ps, h1, k1, h3⟩
      obtain ⟨o, ho⟩ := st
      cases s with
      | un => exact o1
      | val P => exact o1
      | bag => exact r
      | own Ps =>
        obtain ⟨p, vs, rfl, h2, h3, h4, h5⟩ := r
        have o1' : some (V.ref p) = some (.ref a) := o1
        cases o1'
        rw [h4] at ho
        cases ho
      | mat Pss =>
        obtain ⟨p, ps, rfl, h2, h3, h4, h5⟩ := r
        obtain ⟨p', ps', e1, k1, hm⟩ := o1
        cases e1
        rw [h2] at k1
        have := map_ref_inj (HO.lst.inj (Option.some.inj k1))
        subst this
        obtain ⟨_, _, _, _, _, k3, _⟩ := h5.mem hm
        rw [k3] at ho
        cases ho
    by_cases c : i = k
    · subst c
      have c2 : i ≠ l := hkl
      rw [List.getElem?_set_self hi] at hk
      rw [List.getElem?_set_ne c2] at hl lu
      cases hk
      rw [List.getElem?_set_self hσ] at ku
      cases ku
      exact fr hl lu o2 o1
    · rw [List.getElem?_set_ne c] at hk ku
      by_cases c2 : i = l
      · subst c2
        rw [List.getElem?_set_self hi] at hl
        cases hl
        rw [List.getElem?_set_self hσ] at lu
        cases lu
        exact fr hk ku o1 o2
      · rw [List.getElem?_set_ne c2] at hl lu
        exact e2.ne k l t t' u w a hkl hk hl ku lu o1 o2
/-- less is said of a slot -/
theorem En.less (e : En W0 M W σ ρ) (hl : ρ2.length = ρ.length) (h : ∀ (i : Nat) s, ρ2[i]? = some s → s = .un ∨ ρ[i]? = some s) : En W0 M W σ ρ2 := by
  refine ⟨e.sub, e.le, e.old, e.bags, by rw [e.len, hl], fun i s hs => ?_, fun i j s t u w a n h1 h2 k1 k2 o1 o2 => ?_⟩
  · rcases h i s hs with rfl | h'
    · have hi : i < ρ2.length := (List.getElem?_eq_some_iff.mp hs).1
      exact ⟨_, List.getElem?_eq_getElem (by rw [e.len, ← hl]; exact hi), trivial⟩
    · exact e.ok i s h'
  · have a' : ρ[i]? = some s := (h i s h1).resolve_left fun z => by subst z; exact o1
    have b' : ρ[j]? = some t := (h j t h2).resolve_left fun z => by subst z; exact o2
    exact e.ne i j s t u w a n a' b' k1 k2 o1 o2
/-- what is own is settled -/
theorem En.calm (e : En W0 M W σ ρ) (h : ρ[i]? = some (.own Ps)) (hP : ∀ (R : Hp) (p : Addr) (vs : List V), R p = some (.lst vs) → Al R vs Ps → P.p R (.ref p)) : ∃ W', W'.h = W.h ∧ Ex W.r W'.r ∧ En W0 M W' σ (ρ.set i (.val P)) := by
  obtain ⟨u, h1, p, vs, rfl, h3, h4, h5, h6⟩ := e.ok i _ h
  have ex : Ex W.r (upd W.r p (.lst vs)) := Ex.new h4
  have hi : i < ρ.length := (List.getElem?_eq_some_iff.mp h).1
  have ne' : ∀ {k : Nat} {s : Sl} {u : Option V} {a : Addr}, i ≠ k → ρ[k]? = some s → σ[k]? = some u → ft W.r u s a → a ≠ p := fun {k s u a} c hk hu hf z => e.ne i k _ _ _ _ p c h hk h1 hu rfl (z ▸ hf)
  have dn : ∀ {k : Nat} {s : Sl} {u : Option V} {a : Addr}, ρ[k]? = some s → σ[k]? = some u → ft (upd W.r p (.lst vs)) u s a → ft W.r u s a := fun {k s u a} hs hu hf => by
    cases s with
    | un => exact hf
    | val P => exact hf
    | own Ps => exact hf
    | bag => exact hf
    | mat Pss =>
      obtain ⟨p1, ps, h1, h2, h3⟩ := hf
      obtain ⟨u', hu', p', ps', e1, k1, _⟩ := e.ok k _ hs
      rw [hu] at hu'
      cases hu'
      rw [h1] at e1
      cases e1
      have := ex _ _ k1
      rw [h2] at this
      have := map_ref_inj (HO.lst.inj (Option.some.inj this))
      subst this
      exact ⟨p1, ps, h1, k1, h3⟩
  refine ⟨⟨upd W.r p (.lst vs), W.h⟩, rfl, ex, ⟨fun a o (ha : upd W.r p (.lst vs) a = some o) => ?_, ⟨e.le.r.trans ex, e.le.h, fun q hq => ?_⟩, e.old, e.bags, by rw [List.length_set]; exact e.len, fun k s hk => ?_, fun k l s t u w a hkl hk hl ku lu o1 o2 => ?_⟩⟩
  · by_cases c : a = p
    · subst c
      rw [upd_same] at ha
      cases ha
      exact h3
    · rw [upd_ne c] at ha
      exact e.sub _ _ ha
  · have c : q ≠ p := fun z => by
      obtain ⟨⟨xs, hx, _⟩, _⟩ := hq
      rw [z, h5] at hx
      cases hx
    exact ⟨(e.le.w q hq).1, by show upd W.r p _ q = none; rw [upd_ne c]; exact (e.le.w q hq).2⟩
  · by_cases c : i = k
    · subst c
      rw [List.getElem?_set_self hi] at hk
      cases hk
      exact ⟨_, h1, _, rfl, hP _ _ _ upd_same (h6.mono ex)⟩
    · rw [List.getElem?_set_ne c] at hk
      obtain ⟨u, hu, q⟩ := e.ok k s hk
      refine ⟨u, hu, ?_⟩
      cases s with
      | un => trivial
      | val P =>
        obtain ⟨v, rfl, h⟩ := q
        exact ⟨v, rfl, P.mono ex h⟩
      | own Qs =>
        obtain ⟨p', vs', rfl, q3, q4, q5, q6⟩ := q
        have c' : p' ≠ p := ne' c hk hu rfl
        exact ⟨p', vs', rfl, q3, by show upd W.r p _ p' = none; rw [upd_ne c']; exact q4, q5, q6.mono ex⟩
      | mat Pss =>
        obtain ⟨p', ps, rfl, q3, q4, q5⟩ := q
        refine ⟨p', ps, rfl, ex _ _ q3, q4, q5.mono ex (fun _ _ _ z => z) fun x hx hr => ?_⟩
        have c' : x ≠ p := ne' c hk hu ⟨p', ps, rfl, q3, hx⟩
        show upd W.r p _ x = none
        rw [upd_ne c']
        exact hr
      | bag =>
        obtain ⟨p', rfl, q3, q4, q5⟩ := q
        have c' : p' ≠ p := ne' c hk hu rfl
        exact ⟨p', rfl, q3, by show upd W.r p _ p' = none; rw [upd_ne c']; exact q4, q5⟩
  · have c1 : i ≠ k := fun z => by subst z; rw [List.getElem?_set_self hi] at hk; cases hk; exact o1
    have c2 : i ≠ l := fun z => by subst z; rw [List.getElem?_set_self hi] at hl; cases hl; exact o2
    rw [List.getElem?_set_ne c1] at hk
    rw [List.getElem?_set_ne c2] at hl
    exact e.ne k l s t u w a hkl hk hl ku lu (dn hk ku o1) (dn hl lu o2)
/-- an own list is another list behind -/
theorem En.put (e : En W0 M W σ ρ) (h : ρ[i]? = some (.own Ps)) {p : Addr} (h1 : σ[i]? = some (some (.ref p))) {vs : List V} (a : Al W.r vs Qs) : En W0 M ⟨W.r, upd W.h p (.lst vs)⟩ σ (ρ.set i (.own Qs)) := by
  obtain ⟨u, h1', p', vs', e1, h3, h4, h5, h6⟩ := e.ok i _ h
  rw [h1] at h1'
  cases h1'
  cases e1
  have hi : i < ρ.length := (List.getElem?_eq_some_iff.mp h).1
  have np : ∀ q, M q → q ≠ p := fun q m z => by
    obtain ⟨_, _, x⟩ := e.old q m
    rw [z, h5] at x
    cases x
  refine ⟨fun a o ha => ?_, ⟨e.le.r, fun q o n hq => ?_, fun q hq => ?_⟩, e.old, fun q m => ?_, by rw [List.length_set]; exact e.len, fun k s hk => ?_, fun k l s t u w a hkl hk hl ku lu o1 o2 => ?_⟩
  · have c : a ≠ p := fun z => by subst z; rw [show (⟨W.r, upd W.h a (.lst vs)⟩ : Wd).r a = W.r a from rfl, h4] at ha; cases ha
    show upd W.h p _ a = _
    rw [upd_ne c]
    exact e.sub _ _ ha
  · have c : q ≠ p := fun z => by subst z; rw [h5] at hq; cases hq
    show upd W.h p _ q = _
    rw [upd_ne c]
    exact e.le.h _ _ n hq
  · obtain ⟨⟨xs, hx, hnt⟩, h2⟩ := e.le.w q hq
    by_cases c : q = p
    · exact ⟨⟨_, by show upd W.h p _ q = _; rw [c, upd_same], rfl⟩, h2⟩
    · exact ⟨⟨xs, by show upd W.h p _ q = _; rw [upd_ne c]; exact hx, hnt⟩, h2⟩
  · obtain ⟨x, y, hb⟩ := e.bags q m
    exact ⟨x, y, by show upd W.h p _ q = _; rw [upd_ne (np q m)]; exact hb⟩
  · by_cases c : i = k
    · subst c
      rw [List.getElem?_set_self hi] at hk
      cases hk
      exact ⟨_, h1, p, vs, rfl, upd_same, h4, h5, a⟩
    · rw [List.getElem?_set_ne c] at hk
      obtain ⟨u, hu, q⟩ := e.ok k s hk
      refine ⟨u, hu, ?_⟩
      cases s with
      | un => trivial
      | val P => exact q
      | own Rs =>
        obtain ⟨p', vs', rfl, q3, q4, q5, q6⟩ := q
        have c' : p' ≠ p := fun z => e.ne i k _ _ _ _ p c h hk h1 hu rfl (z ▸ (show ft W.r (some (V.ref p')) (.own Rs) p' from rfl))
        exact ⟨p', vs', rfl, by show upd W.h p _ p' = _; rw [upd_ne c']; exact q3, q4, q5, q6⟩
      | mat Pss =>
        obtain ⟨p', ps, rfl, q3, q4, q5⟩ := q
        refine ⟨p', ps, rfl, q3, q4, Rw.mono (W := W) (W2 := ⟨W.r, upd W.h p (.lst vs)⟩) (Ex.refl _) q5 (fun x hx o ho => ?_) fun _ _ z => z⟩
        have c' : x ≠ p := fun z => e.ne i k _ _ _ _ p c h hk h1 hu rfl (z ▸ (show ft W.r (some (V.ref p')) (.mat Pss) x from ⟨p', ps, rfl, q3, hx⟩))
        show upd W.h p _ x = _
        rw [upd_ne c']
        exact ho
      | bag =>
        obtain ⟨p', rfl, ⟨x, y, q3⟩, q4, q5⟩ := q
        have c' : p' ≠ p := fun z => e.ne i k _ _ _ _ p c h hk h1 hu rfl (z ▸ (show ft W.r (some (V.ref p')) .bag p' from rfl))
        exact ⟨p', rfl, ⟨x, y, by show upd W.h p _ p' = _; rw [upd_ne c']; exact q3⟩, q4, q5⟩
  · have up : ∀ {k : Nat} {s : Sl} {u : Option V} {a : Addr}, (ρ.set i (.own Qs))[k]? = some s → ft W.r u s a → ∃ s', ρ[k]? = some s' ∧ ft W.r u s' a := fun {k s u a} hk o => by
      by_cases c : i = k
      · subst c
        rw [List.getElem?_set_self hi] at hk
        cases hk
        exact ⟨_, h, o⟩
      · rw [List.getElem?_set_ne c] at hk
        exact ⟨s, hk, o⟩
    obtain ⟨s', a1, a2⟩ := up hk o1
    obtain ⟨t', b1, b2⟩ := up hl o2
    exact e.ne k l s' t' u w a hkl a1 b1 ku lu a2 b2
/-- the base may be raised to what is settled by now -/
theorem En.up (e : En W0 M W σ ρ) : En ⟨W.r, W0.h⟩ M W σ ρ := ⟨e.sub, ⟨Ex.refl _, e.le.h, fun p hp => by
  obtain ⟨h1, h2⟩ := hp
  exact ⟨by
    obtain ⟨xs, hx, hnt⟩ := h1
    by_cases m : M p
    · obtain ⟨x, y, hb⟩ := e.bags p m
      exact ⟨_, hb, rfl⟩
    · exact ⟨xs, e.le.h p _ m hx, hnt⟩, h2⟩⟩, e.old, e.bags, e.len, e.ok, e.ne⟩
theorem Le.down {W' : Wd} (e : Le M W0 W) (l : Le M ⟨W.r, W0.h⟩ W') : Le M W0 W' := ⟨e.r.trans l.r, l.h, fun p hp => l.w p ⟨hp.1, (e.w p hp).2⟩⟩
theorem En.down {W' : Wd} {σ' : L2.St} {ρ' : List Sl} (e : Le M W0 W) (e' : En ⟨W.r, W0.h⟩ M W' σ' ρ') : En W0 M W' σ' ρ' := ⟨e'.sub, Le.down e e'.le, e'.old, e'.bags, e'.len, e'.ok, e'.ne⟩
end
section
variable {P : Program} {w : World} {K : PySem.W.Frag} {mg : Str → Option Value} {base : Heap} {f : Addr} {fd : FuncData} {pre : List Sl → (Sl → Prop) → Prop}
theorem en_start {N : List Str} {W : Wd} {vs : List V} {ss : List Sl} (sub : Ex W.r W.h) (h : POks W vs ss) (ob : oneBag ss = true) (hl : ss.length ≤ N.length) : En W (BagOf vs ss) W (start N vs) (ss ++ List.replicate (N.length - ss.length) .un) := by
  have hm : ∀ p, BagOf vs ss p → Bg W.h p ∧ W.r p = none := fun p ⟨i, h1, h2⟩ => by
    obtain ⟨v, e1, q, e2, h3, h4⟩ := h.get h1
    rw [h2] at e1
    cases e1
    cases e2
    exact ⟨h3, h4⟩
  have hin : ∀ {i : Nat} {s : Sl}, (ss ++ List.replicate (N.length - ss.length) Sl.un)[i]? = some s → s = .un ∨ ss[i]? = some s := fun {i s} hi => by
    by_cases c : i < ss.length
    · rw [List.getElem?_append_left c] at hi
      exact .inr hi
    · rw [List.getElem?_append_right (by omega)] at hi
      exact .inl (List.eq_of_mem_replicate (List.mem_of_getElem? hi))
  have lv := h.length
  have st : ∀ {i : Nat} {v : V}, vs[i]? = some v → (start N vs)[i]? = some (some v) := fun {i v} hi => by
    have hlt : i < vs.length := (List.getElem?_eq_some_iff.mp hi).1
    unfold L2.start
    rw [List.getElem?_append_left (by rw [List.length_map]; exact hlt), List.getElem?_map, hi]
    rfl
  have ln : (start N vs).length = N.length := by
    unfold L2.start
    rw [List.length_append, List.length_map, List.length_replicate]
    omega
  refine ⟨sub, Le.refl W, fun p m => (hm p m).1, fun p m => (hm p m).1, ?_, fun i s hi => ?_, fun i j s t u w a hij h1 h2 k1 k2 o1 o2 => ?_⟩
  · rw [ln, List.length_append, List.length_replicate]
    omega
  · have hlt : i < N.length := by
      have := (List.getElem?_eq_some_iff.mp hi).1
      rw [List.length_append, List.length_replicate] at this
      omega
    rcases hin hi with rfl | h'
    · exact ⟨_, List.getElem?_eq_getElem (by rw [ln]; exact hlt), trivial⟩
    · obtain ⟨v, e1, q⟩ := h.get h'
      refine ⟨_, st e1, ?_⟩
      cases s with
      | un => trivial
      | val P => exact ⟨v, rfl, q⟩
      | own Ps => exact q.elim
      | mat Pss => exact q.elim
      | bag =>
        obtain ⟨p, rfl, h3, h4⟩ := q
        exact ⟨p, rfl, h3, h4, .inr ⟨i, h', e1⟩⟩
  · have bagOf : ∀ {k : Nat} {s : Sl}, (ss ++ List.replicate (N.length - ss.length) Sl.un)[k]? = some s → s.ow = true → ss[k]? = some .bag := fun {k s} hk o => by
      rcases hin hk with rfl | h'
      · cases o
      · obtain ⟨v, e1, q⟩ := h.get h'
        cases s with
        | un => cases o
        | val P => cases o
        | own Ps => exact q.elim
        | mat Pss => exact q.elim
        | bag => exact h'
    exact hij (oneBag_eq ob (bagOf h1 (ft_ow o1)) (bagOf h2 (ft_ow o2)))
end
end WL
namespace WL
open PySem PySem.Spec PyProof.Rows L2 Evl NF
structure Grow (W W2 : Wd) : Prop where
  sub : Ex W2.r W2.h
  le : Le (fun _ => False) W W2
abbrev Bd := List (Nat × MP)
def setV : L2.St → Bd → List V → L2.St
  | σ, (j, _) :: L, v :: vs => setV (σ.set j (some v)) L vs
  | σ, _, _ => σ
def setS : List Sl → Bd → List Sl
  | ρ, (j, P) :: L => setS (ρ.set j (.val P)) L
  | ρ, [] => ρ
structure Turns (J : It) (W : Wd) (g : TG) (n : Nat) (B : Nat → Bd → Prop) : Prop where
  stop : ∀ (i : Nat) (W1 : Wd), Ex W.r W1.r → Ex W1.r W1.h → n ≤ i → J.stop i W1.h
  go : ∀ (i : Nat) (W1 : Wd), Ex W.r W1.r → Ex W1.r W1.h → i < n → J.go i W1.h
  yld : ∀ (i : Nat) (W1 : Wd) x H', Ex W.r W1.r → Ex W1.r W1.h → i < n → J.yld i W1.h x H' → ∀ (σ : L2.St) (Q : L2.St → Hp → Prop), (∀ L W2 vs, B i L → Grow W1 W2 → Al W2.r vs (L.map (·.2)) → Q (setV σ L vs) W2.h) → g x σ H' Q
def Wk (ρ : List Sl) (wi : TI) (g : TG) (Φ : Nat → (Nat → Bd → Prop) → Prop) : Prop := ∀ W0 M W σ, En W0 M W σ ρ → ∀ R : It → Hp → Prop, (∀ J W2 n B, Go σ ρ W W2 → Turns J W2 g n B → Φ n B → R J W2.h) → wi σ W.h R
def wipeS (ρ : List Sl) : List Nat → List Sl
  | [] => ρ
  | v :: vs => (wipeS ρ vs).set v .un
section
variable {K : PySem.W.Frag} {W0 W W1 W2 W3 : Wd} {M : Addr → Prop} {σ σ2 : L2.St} {ρ ρ2 : List Sl} {i j k n : Nat} {P P1 P2 P3 : MP} {Ps Qs : List MP} {ta tb tc te tl : TE} {tt t1 t2 : TT} {Ψ : Sl → Prop} {v w u : V} {R : Post} {t tu tw tz : TS} {s : Sl} {tA : TA} {wi : TI} {g : TG} {L : Bd} {Φ : Nat → (Nat → Bd → Prop) → Prop} {vs : List Nat}
theorem Grow.refl (h : Ex W.r W.h) : Grow W W := ⟨h, Le.refl W⟩
theorem Grow.go (e : En W0 M W σ ρ) (g : Grow W W2) : Go σ ρ W W2 := ⟨g.sub, g.le.more fun _ z => z.elim, fun p b => by
  obtain ⟨x, y, h⟩ := (e.bag b).1
  exact ⟨x, y, g.le.h _ _ (fun z => z) h⟩⟩
theorem En.sets : ∀ {L : Bd} {σ : L2.St} {ρ : List Sl} {vs : List V}, En W0 M W σ ρ → (∀ x ∈ L, x.1 < ρ.length) → Al W.r vs (L.map (·.2)) → En W0 M W (setV σ L vs) (setS ρ L)
  | [], _, _, _, e, _, .nil => e
  | (j, P) :: L, σ, ρ, _, e, h, .cons (v := v) (vs := vs) p t => by
    have e1 : En W0 M W (σ.set j (some v)) (ρ.set j (.val P)) := e.set (s := .val P) e.id p (h (j, P) (List.mem_cons_self ..))
    exact En.sets (L := L) e1 (fun x hx => by rw [List.length_set]; exact h x (List.mem_cons_of_mem _ hx)) t
theorem En.wipe1 (e : En W0 M W σ ρ) : En W0 M W (σ.set i none) (ρ.set i .un) := by
  refine ⟨e.sub, e.le, e.old, e.bags, by rw [List.length_set, List.length_set]; exact e.len, fun k s hk => ?_, fun k l s t u w a n h1 h2 k1 k2 o1 o2 => ?_⟩
  · by_cases c : i = k
    · subst c
      have hl : i < (ρ.set i Sl.un).length := (List.getElem?_eq_some_iff.mp hk).1
      rw [List.length_set] at hl
      rw [List.getElem?_set_self hl] at hk
      cases hk
      exact ⟨none, List.getElem?_set_self (by rw [e.len]; exact hl), trivial⟩
    · rw [List.getElem?_set_ne c] at hk ⊢
      exact e.ok k s hk
  · have ne : ∀ {k : Nat} {s : Sl} {u : Option V} {a : Addr}, (ρ.set i Sl.un)[k]? = some s → ft W.r u s a → i ≠ k := fun {k s u a} hk o c => by
      subst c
      have hl : i < (ρ.set i Sl.un).length := (List.getElem?_eq_some_iff.mp hk).1
      rw [List.length_set] at hl
      rw [List.getElem?_set_self hl] at hk
      cases hk
      exact o
    have a' := ne h1 o1
    have b' := ne h2 o2
    rw [List.getElem?_set_ne a'] at h1 k1
    rw [List.getElem?_set_ne b'] at h2 k2
    exact e.ne k l s t u w a n h1 h2 k1 k2 o1 o2
theorem En.wipe : ∀ (vs : List Nat), En W0 M W σ ρ → En W0 M W (L2.wipe σ vs) (wipeS ρ vs)
  | [], e => e
  | v :: vs, e => (En.wipe vs e).wipe1
theorem wipeS_len : ∀ (vs : List Nat) (ρ : List Sl), (wipeS ρ vs).length = ρ.length
  | [], _ => rfl
  | v :: vs, ρ => by rw [wipeS, List.length_set, wipeS_len vs]
theorem wipe_get : ∀ {vs : List Nat} {σ : L2.St} {i : Nat}, (L2.wipe σ vs)[i]? = if i ∈ vs then (if i < σ.length then some none else none) else σ[i]?
  | [], σ, i => by simp [L2.wipe]
  | v :: vs, σ, i => by
    show ((L2.wipe σ vs).set v none)[i]? = _
    by_cases c : v = i
    · subst c
      rw [List.getElem?_set]
      simp only [if_true, L2.wipe_length, List.mem_cons_self]
    · rw [List.getElem?_set_ne c, wipe_get]
      have : i ∈ v :: vs ↔ i ∈ vs := by simp [Ne.symm c]
      simp only [this]
theorem setV_len : ∀ (L : Bd) (σ : L2.St) (vs : List V), (setV σ L vs).length = σ.length
  | [], _, _ => by cases ‹List V› <;> rfl
  | _ :: _, _, [] => rfl
  | (j, P) :: L, σ, v :: vs => by rw [setV, setV_len L, List.length_set]
theorem setV_get : ∀ {L : Bd} {σ : L2.St} {us : List V} {i : Nat}, (∀ x ∈ L, x.1 ≠ i) → (setV σ L us)[i]? = σ[i]?
  | [], σ, us, i, _ => by cases us <;> rfl
  | _ :: _, _, [], _, _ => rfl
  | (j, P) :: L, σ, v :: vs, i, h => by
    rw [setV, setV_get (fun x hx => h x (List.mem_cons_of_mem _ hx)), List.getElem?_set_ne (h (j, P) (List.mem_cons_self ..))]
theorem wipe_sets {us : List V} (h : ∀ x ∈ L, x.1 ∈ vs) : L2.wipe (setV (L2.wipe σ vs) L us) vs = L2.wipe σ vs := by
  apply List.ext_getElem?
  intro i
  rw [wipe_get, setV_len, L2.wipe_length]
  by_cases c : i ∈ vs
  · rw [if_pos c, wipe_get, if_pos c]
  · rw [if_neg c, setV_get (i := i) fun x hx z => c (by rw [← z]; exact h x hx)]
def fitS (L : Bd) (n : Nat) : Bool := L.all fun x => Nat.blt x.1 n
def fitC (L : Bd) (n : Nat) (vs : List Nat) : Bool := L.all fun x => Nat.blt x.1 n && vs.any fun v => Nat.beq x.1 v
theorem fitS_ok (h : fitS L n = true) : ∀ x ∈ L, x.1 < n := fun x hx => Nat.le_of_ble_eq_true (List.all_eq_true.mp h x hx)
theorem fitC_ok (h : fitC L n vs = true) : ∀ x ∈ L, x.1 < n ∧ x.1 ∈ vs := fun x hx => by
  have := List.all_eq_true.mp h x hx
  rw [Bool.and_eq_true] at this
  obtain ⟨a, b⟩ := this
  obtain ⟨v, hv, e⟩ := List.any_eq_true.mp b
  refine ⟨Nat.le_of_ble_eq_true a, ?_⟩
  rw [Nat.eq_of_beq_eq_true e]
  exact hv
end
end WL
namespace NF
open PySem PySem.Spec PyProof.Rows L2 Evl
theorem call_listK {X : Cx} {K : PySem.W.Frag} (h : X.K = K) : CallR X (.type "list") (rListS K) := h ▸ call_list_of
def Mk (z : Str) : Prop := 1 ≤ z.cps.size ∧ z.cps.size ≤ 4 ∧ ∀ c ∈ z.cps.toList, 97 ≤ c ∧ c ≤ 122
def Shr (x : Rat) : Prop := 0 ≤ x.num ∧ x.num ≤ x.den ∧ x.den ≤ 999
theorem Shr.sz {x : Rat} (h : Shr x) : Sz 10 x := by
  obtain ⟨h1, h2, h3⟩ := h
  constructor <;> omega
/-- the shares of a room: fractions, each a share, together one -/
def Shs (xs : List Rat) (n : Nat) : Prop := xs.length = n ∧ (∀ x ∈ xs, Shr x) ∧ sumF 0 xs = 1
/-- rows of shares -/
inductive Rows (K : PySem.W.Frag) (H : Hp) : List V → List (List Rat) → Prop
  | nil : Rows K H [] []
  | cons {p : Addr} {us vs : List V} {xs : List Rat} {xss : List (List Rat)} : SqL K H p us → RtAll K H us xs → Rows K H vs xss → Rows K H (.ref p :: vs) (xs :: xss)
theorem Rows.mono {K : PySem.W.Frag} {H H1 : Hp} (e : Ex H H1) : ∀ {vs : List V} {xss : List (List Rat)}, Rows K H vs xss → Rows K H1 vs xss
  | _, _, .nil => .nil
  | _, _, .cons h r t => .cons (ex_l e h) (r.mono e) (Rows.mono e t)
theorem Rows.length {K : PySem.W.Frag} {H : Hp} : ∀ {vs : List V} {xss : List (List Rat)}, Rows K H vs xss → vs.length = xss.length
  | _, _, .nil => rfl
  | _, _, .cons _ _ t => congrArg Nat.succ (Rows.length t)
theorem Rows.get {K : PySem.W.Frag} {H : Hp} : ∀ {vs : List V} {xss : List (List Rat)} {i : Nat} {v : V}, Rows K H vs xss → vs[i]? = some v → ∃ p us xs, v = .ref p ∧ xss[i]? = some xs ∧ SqL K H p us ∧ RtAll K H us xs
  | _, _, _, _, .nil, e => by simp at e
  | _, _, 0, _, .cons h r _, e => by
    have e' := Option.some.inj e
    subst e'
    exact ⟨_, _, _, rfl, rfl, h, r⟩
  | _, _, i + 1, _, .cons _ _ t, e => Rows.get (i := i) t e
end NF
namespace NF
open PySem PySem.Spec PyProof.Rows L2 Evl
structure LenO (P : Program) (w : World) (K : PySem.W.Frag) (mg : Str → Option Value) (base : Heap) (C : Addr) (k : Nat) (sp : Sp) : Prop where
  ex : ∃ (f : Addr) (fd : FuncData), PySem.W.findIn K (.ref C) "__len__" = some (some (.ref f)) ∧ PySem.W.isFn K (.ref f) = true ∧ FnOk P w K mg base CX0 k f fd ["self"] sp ∧ Binds K fd ["self"] []
def rLenO (C : Addr) (sp : Sp) : List V → Hp → VK → Prop := fun xs H Q => ∃ (a dx : Addr) (fs : List (Str × V)), xs = [.ref a] ∧ H a = some (.ins C dx fs) ∧ sp [.ref a] H (fun v H' => ∃ n : Int, v = .int n ∧ 0 ≤ n ∧ n < 2 ^ 63 ∧ Q (.int n) H') E0
theorem call_lenO {X : Cx} {C : Addr} {k j : Nat} {sp : Sp} (L : LenO X.prog X.w X.K X.mg X.base C k sp) (hr : Room j X.A) (hk : k + 1 ≤ j) : CallR X (.builtin "len") (rLenO C sp) := by
  obtain ⟨f, fd, hl, hf, F, hb⟩ := L.ex
  intro pins s σ H xs us Q I r h
  obtain ⟨a, dx, fs, rfl, ea, hs⟩ := h
  obtain ⟨u, rfl, ru⟩ := vals1 r
  cases (show u = Value.ref a from ru)
  obtain ⟨mA, O, _⟩ := ins_get I.hok ea
  obtain ⟨od, J, _⟩ := O.look
  obtain ⟨m, fr⟩ := I.fr
  have b := hb s [.ref a] I.kIn rfl
  refine PySem.W.len_K fr I.ok.mod.kin J hl hf (wpAny_call (codeAny_mono (F.run X.A.in1 X.stack s H ⟨[.ref a], []⟩ [.ref a] [.ref a] _ E0 (hr.mono hk).in1 I.env0.in1 b (.cons rfl .nil) hs) ?_))
  intro rr s2 z
  match rr, z with
  | .error y, z => exact z.elim
  | .ok (.ret u), z =>
    obtain ⟨v, H', I', rv, n, rfl, h0, h1, q⟩ := I.after z
    obtain ⟨t, rfl⟩ := rv
    exact ⟨⟨h0, h1⟩, .int n, H', I'.tok _, ⟨_, rfl⟩, q⟩
structure CalM (P : Program) (w : World) (K : PySem.W.Frag) (mg : Str → Option Value) (base : Heap) (C : Addr) (k : Nat) (m : Str) (ps : List Str) (sp : Sp) : Prop where
  ex : ∃ (f : Addr) (fd : FuncData), Meth K C m f ∧ FnOk P w K mg base CX0 k f fd ps sp ∧ Binds K fd ps []
  cl : Cls K C
def MaAt (K : PySem.W.Frag) (C : Addr) (H : Hp) (m : Addr) (zs : List Str) (xss : List (List Rat)) : Prop := ∃ (dx am as : Addr) (us : List V), H m = some (.ins C dx [("kept_marks", .ref am), ("kept_shares", .ref as)]) ∧ H am = some (.lst (zs.map V.str)) ∧ H as = some (.lst us) ∧ Rows K H us xss
theorem MaAt.mono {K : PySem.W.Frag} {C m : Addr} {H H1 : Hp} {zs : List Str} {xss : List (List Rat)} (h : MaAt K C H m zs xss) (e : Ex H H1) : MaAt K C H1 m zs xss := by
  obtain ⟨dx, am, as, us, h1, h2, h3, h4⟩ := h
  exact ⟨dx, am, as, us, e _ _ h1, e _ _ h2, e _ _ h3, h4.mono e⟩
/-- a machine as the document has it -/
def Good (zs : List Str) (xss : List (List Rat)) : Prop := 1 ≤ zs.length ∧ zs.length ≤ 6 ∧ (∀ z ∈ zs, NF.Mk z) ∧ xss.length = zs.length ∧ ∀ xs ∈ xss, Shs xs zs.length
theorem RtAll.sq {K : PySem.W.Frag} {H H1 : Hp} (e : ∀ {a xs}, SqT K H a xs → SqT K H1 a xs) : ∀ {vs : List V} {xs : List Rat}, RtAll K H vs xs → RtAll K H1 vs xs
  | _, _, .nil => .nil
  | _, _, .cons ⟨p, e1, h⟩ t => .cons ⟨p, e1, e h⟩ (RtAll.sq e t)
theorem Rows.snoc {K : PySem.W.Frag} {H : Hp} {p : Addr} {us : List V} {xs : List Rat} (h : SqL K H p us) (r : RtAll K H us xs) : ∀ {vs : List V} {xss : List (List Rat)}, Rows K H vs xss → Rows K H (vs ++ [.ref p]) (xss ++ [xs])
  | _, _, .nil => .cons h r .nil
  | _, _, .cons h' r' t => .cons h' r' (Rows.snoc h r t)
end NF
namespace NF
open PySem PySem.Spec PyProof.Rows L2 Evl
theorem pi_listK {X : Cx} {K : PySem.W.Frag} {tg l : Expr} {tl : TE} (h : X.K = K) (hl : PE X l tl) : PI X tg l (iList K tl) := h ▸ pi_list hl
section
variable {K : PySem.W.Frag} {H H1 H2 : Hp} {σ : L2.St} {ta tb te tl : TE} {E : XK} {D : Ends} {tz : TS} {B : Nat}
theorem RtAll.push : ∀ {vs : List V} {xs : List Rat} {v : V} {x : Rat}, RtAll K H vs xs → Rt K H v x → RtAll K H (vs ++ [v]) (xs ++ [x])
  | _, _, _, _, .nil, r => .cons r .nil
  | _, _, _, _, .cons h t, r => .cons h (RtAll.push t r)
end
def dot (xss : List (List Rat)) (cs : List Rat) (to : Nat) : Rat := sumF 0 ((List.range xss.length).map fun r => cs.getD r 0 * (xss.getD r []).getD to 0)
def step1 (xss : List (List Rat)) (cs : List Rat) : List Rat := (List.range xss.length).map (dot xss cs)
def unit (n r : Nat) : List Rat := (List.range n).map fun i => if i = r then 1 else 0
def walk (xss : List (List Rat)) (r : Nat) : Nat → List Rat
  | 0 => unit xss.length r
  | k + 1 => step1 xss (walk xss r k)
end NF
namespace NF
open PySem PySem.Spec PyProof.Rows L2 Evl
def Bg (st : Addr) (H : Hp) : Prop := ∃ g m : Int, H st = some (.lst [.int g, .int m])
theorem Bg.mono {st : Addr} {H H1 : Hp} (e : Ex H H1) (h : Bg st H) : Bg st H1 := by
  obtain ⟨g, m, h⟩ := h
  exact ⟨g, m, e _ _ h⟩
def ExS (st : Addr) (H H' : Hp) : Prop := ∀ b o, b ≠ st → H b = some o → H' b = some o
theorem ExS.refl (st : Addr) (H : Hp) : ExS st H H := fun _ _ _ h => h
theorem ExS.trans {st : Addr} {H H1 H2 : Hp} (a : ExS st H H1) (b : ExS st H1 H2) : ExS st H H2 := fun c o n h => b c o n (a c o n h)
theorem ExS.of {st : Addr} {H H1 : Hp} (e : Ex H H1) : ExS st H H1 := fun c o _ h => e c o h
theorem ExS.upd {st : Addr} {H : Hp} {o : HO} : ExS st H (upd H st o) := fun c u n h => by rw [upd_ne n]; exact h
theorem ExS.ex {st : Addr} {H H1 : Hp} (h : H st = none) (e : ExS st H H1) : Ex H H1 := fun b o hb => e b o (ne_of_none hb h) hb
theorem ExS.tup {K : PySem.W.Frag} {st a : Addr} {H H1 : Hp} {xs : List V} (e : ExS st H H1) (hs : Bg st H) (h : SqT K H a xs) : SqT K H1 a xs := by
  obtain ⟨g, m, hs⟩ := hs
  rcases h with (h | ⟨o, h⟩) | h
  · exact .inl (.inl (e _ _ (ne_of h hs (fun z => by cases z)) h))
  · exact .inl (.inr ⟨o, e _ _ (ne_of h hs (fun z => by cases z)) h⟩)
  · exact .inr h
def spBag (K : PySem.W.Frag) : Sp := fun vs H Q _ => ∃ (a : Addr) (ns : List Int) (k : Nat), vs = [.ref a, .int (k : Int)] ∧ SqL K H a (ns.map V.int) ∧ ns.length ≤ 1000 ∧ k ≤ 1000 ∧ ∀ st H', H st = none → Ex H H' → Bg st H' → Q (.ref st) H'
def spOut : Sp := fun vs H Q _ => ∃ (st : Addr) (many : Int), vs = [.ref st, .int many] ∧ Bg st H ∧ 0 < many ∧ many < 2 ^ 60 ∧ ∀ d H', 0 ≤ d → d < many → Bg st H' → ExS st H H' → Q (.int d) H'
end NF
namespace NF
def Ml (N : Nat) (x : Rat) : Prop := ∃ t : Int, x * (N : Rat) = (t : Rat)
theorem Ml.add {N : Nat} {x y : Rat} (h : Ml N x) (g : Ml N y) : Ml N (x + y) := by
  obtain ⟨s, hs⟩ := h
  obtain ⟨t, ht⟩ := g
  exact ⟨s + t, by rw [Rat.add_mul, hs, ht, Rat.intCast_add]⟩
theorem Ml.mul {M N : Nat} {x y : Rat} (h : Ml M x) (g : Ml N y) : Ml (M * N) (x * y) := by
  obtain ⟨s, hs⟩ := h
  obtain ⟨t, ht⟩ := g
  refine ⟨s * t, ?_⟩
  rw [Rat.intCast_mul, ← hs, ← ht, Rat.natCast_mul]
  grind
theorem Ml.zero {N : Nat} : Ml N 0 := ⟨0, by simp⟩
theorem Ml.one {N : Nat} : Ml N 1 := ⟨(N : Int), by rw [Rat.one_mul]; rfl⟩
theorem Ml.up {M N : Nat} {x : Rat} (h : Ml M x) (d : M ∣ N) : Ml N x := by
  obtain ⟨s, hs⟩ := h
  obtain ⟨k, rfl⟩ := d
  refine ⟨s * k, ?_⟩
  rw [Rat.intCast_mul, ← hs, Rat.natCast_mul]
  have e : ((k : Int) : Rat) = (k : Rat) := rfl
  grind
theorem div_eq (t : Int) {b : Nat} (hb : 0 < b) : Rat.divInt t b * (b : Rat) = (t : Rat) := by
  have hb' : (b : Rat) ≠ 0 := by
    intro z
    have : b = 0 := by exact_mod_cast z
    omega
  rw [Rat.divInt_eq_div]
  have e : ((b : Int) : Rat) = (b : Rat) := rfl
  rw [e]
  grind
theorem Ml.eq {N : Nat} {x : Rat} (h : Ml N x) (hN : 0 < N) : ∃ t : Int, x = Rat.divInt t N := by
  obtain ⟨t, ht⟩ := h
  refine ⟨t, ?_⟩
  have h2 := div_eq t hN
  have hb' : (N : Rat) ≠ 0 := by
    intro z
    have : N = 0 := by exact_mod_cast z
    omega
  grind
theorem den_le {t : Int} {N : Nat} (hN : 0 < N) : (Rat.divInt t N).den ≤ N := by
  rw [Rat.den_divInt, if_neg (by omega)]
  exact Nat.le_trans (Nat.div_le_self ..) (by omega)
theorem num01 {x : Rat} (h0 : 0 ≤ x) (h1 : x ≤ 1) : 0 ≤ x.num ∧ x.num ≤ x.den := by
  constructor
  · exact Rat.num_nonneg.mpr h0
  · have h := (not_congr (lt_rt 1 x)).mp (by grind)
    have e1 : (1 : Rat).num = 1 := rfl
    have e2 : (1 : Rat).den = 1 := rfl
    rw [e1, e2] at h
    omega
theorem of01 {x : Rat} (h0 : 0 ≤ x.num) (h1 : x.num ≤ x.den) : 0 ≤ x ∧ x ≤ 1 := by
  constructor
  · exact Rat.num_nonneg.mp h0
  · have h := (not_congr (lt_rt 1 x)).mpr (by
      have e1 : (1 : Rat).num = 1 := rfl
      have e2 : (1 : Rat).den = 1 := rfl
      rw [e1, e2]
      omega)
    grind
theorem Ml.sz {N B : Nat} {x : Rat} (h : Ml N x) (hN : 0 < N) (h0 : 0 ≤ x) (h1 : x ≤ 1) (hb : N < 2 ^ B) : Sz B x := by
  obtain ⟨t, rfl⟩ := h.eq hN
  have hd := den_le (t := t) hN
  obtain ⟨a, b⟩ := num01 h0 h1
  constructor <;> omega
theorem sumF_snoc (x0 : Rat) (xs : List Rat) (x : Rat) : sumF x0 (xs ++ [x]) = sumF x0 xs + x := by simp [sumF]
theorem sumF_shift (f : Rat) : ∀ (x0 : Rat) (xs : List Rat), sumF (x0 + f) xs = sumF x0 xs + f
  | _, [] => rfl
  | x0, x :: xs => by
    show sumF (x0 + f + x) xs = sumF (x0 + x) xs + f
    rw [show x0 + f + x = x0 + x + f by grind]
    exact sumF_shift f (x0 + x) xs
theorem sumF_first (f : Rat) (xs : List Rat) : sumF f xs = sumF 0 xs + f := by
  rw [← sumF_shift, show (0 : Rat) + f = f by grind]
theorem sumF_cons (x : Rat) (xs : List Rat) : sumF 0 (x :: xs) = x + sumF 0 xs := by
  show sumF (0 + x) xs = _
  rw [sumF_first]
  grind
/-- the sum of f 0 .. f (n - 1) -/
def Su (n : Nat) (f : Nat → Rat) : Rat := sumF 0 ((List.range n).map f)
theorem su_succ (n : Nat) (f : Nat → Rat) : Su (n + 1) f = Su n f + f n := by
  unfold Su
  rw [List.range_succ, List.map_append]
  exact sumF_snoc ..
theorem su_zero (f : Nat → Rat) : Su 0 f = 0 := rfl
theorem su_add (f g : Nat → Rat) : ∀ n, Su n (fun i => f i + g i) = Su n f + Su n g
  | 0 => by simp [su_zero]; grind
  | n + 1 => by
    rw [su_succ, su_succ, su_succ, su_add f g n]
    grind
theorem su_mul (c : Rat) (f : Nat → Rat) : ∀ n, Su n (fun i => c * f i) = c * Su n f
  | 0 => by simp [su_zero]
  | n + 1 => by
    rw [su_succ, su_succ, su_mul c f n]
    grind
theorem su_swap (f : Nat → Nat → Rat) (n : Nat) : ∀ m, Su n (fun j => Su m fun i => f i j) = Su m fun i => Su n fun j => f i j
  | 0 => by
    simp only [su_zero]
    have : ∀ n, Su n (fun _ => (0 : Rat)) = 0 := fun n => by
      induction n with
      | zero => rfl
      | succ n ih => rw [su_succ, ih]; grind
    exact this n
  | m + 1 => by
    simp only [su_succ]
    rw [su_add (fun j => Su m fun i => f i j) (fun j => f m j) n, su_swap f n m]
theorem su_congr {f g : Nat → Rat} : ∀ {n : Nat}, (∀ i, i < n → f i = g i) → Su n f = Su n g
  | 0, _ => rfl
  | n + 1, h => by
    rw [su_succ, su_succ, h n (by omega), su_congr fun i hi => h i (by omega)]
theorem su_list (xs : List Rat) : sumF 0 xs = Su xs.length fun i => xs.getD i 0 := by
  unfold Su
  congr 1
  apply List.ext_getElem?
  intro i
  by_cases h : i < xs.length
  · simp [h]
  · simp [h]
theorem Shr.le {x : Rat} (h : Shr x) : 0 ≤ x ∧ x ≤ 1 := of01 h.1 h.2.1
/-- the machines that the laws draw: their bottoms are small, or there are few steps -/
def Bot (b : Nat) (xss : List (List Rat)) : Prop := ∀ xs ∈ xss, ∃ d : Nat, 0 < d ∧ d ≤ b ∧ ∀ x ∈ xs, Ml d x
end NF
namespace NF
open PySem PySem.Spec PyProof.Rows L2 Evl
theorem foldl_cps : ∀ (cs : List Nat) (acc : Array Nat), ((cs.map fun c => (⟨#[c]⟩ : Str)).foldl (fun (acc : Array Nat) p => acc ++ (Str.ofString "").cps ++ p.cps) acc).toList = acc.toList ++ cs
  | [], acc => by simp
  | c :: cs, acc => by
    rw [List.map_cons, List.foldl_cons, foldl_cps cs]
    have : (Str.ofString "").cps = #[] := by decide +kernel
    simp [this]
theorem glue_cps (cs : List Nat) : (Txt.join (Str.ofString "") (cs.map fun c => ⟨#[c]⟩)).cps.toList = cs := by
  cases cs with
  | nil => rfl
  | cons c cs =>
    show ((cs.map fun c => (⟨#[c]⟩ : Str)).foldl (fun (acc : Array Nat) p => acc ++ (Str.ofString "").cps ++ p.cps) #[c]).toList = _
    rw [foldl_cps]
    rfl
theorem mk_glue {cs : List Nat} (h1 : 1 ≤ cs.length) (h4 : cs.length ≤ 4) (hc : ∀ c ∈ cs, 97 ≤ c ∧ c ≤ 122) : NF.Mk (Txt.join (Str.ofString "") (cs.map fun c => ⟨#[c]⟩)) := by
  have e := glue_cps cs
  have el : (Txt.join (Str.ofString "") (cs.map fun c => ⟨#[c]⟩)).cps.size = cs.length := by
    rw [← Array.length_toList, e]
  exact ⟨by omega, by omega, by rw [e]; exact hc⟩
section
variable {K : PySem.W.Frag} {H H1 H2 : Hp} {σ : L2.St} {ta tb te tl : TE} {v w u : V} {x y : Rat} {E : XK} {D : Ends} {tz t1 t2 : TS} {tc : TT} {tA : TA} {Q : VK} {l st : Addr} {xs ys : List V}
theorem RtAll.append : ∀ {vs ws : List V} {xs ys : List Rat}, RtAll K H vs xs → RtAll K H ws ys → RtAll K H (vs ++ ws) (xs ++ ys)
  | _, _, _, _, .nil, h => h
  | _, _, _, _, .cons r t, h => .cons r (RtAll.append t h)
theorem RtAll.drop : ∀ {vs : List V} {xs : List Rat} (k : Nat), RtAll K H vs xs → RtAll K H (vs.drop k) (xs.drop k)
  | _, _, 0, h => h
  | _, _, k + 1, .nil => .nil
  | _, _, k + 1, .cons _ t => RtAll.drop k t
theorem RtAll.take : ∀ {vs : List V} {xs : List Rat} (k : Nat), RtAll K H vs xs → RtAll K H (vs.take k) (xs.take k)
  | _, _, 0, _ => .nil
  | _, _, k + 1, .nil => .nil
  | _, _, k + 1, .cons r t => .cons r (RtAll.take k t)
def Off (S : List Addr) (H : Hp) : Hp := fun b => if b ∈ S then none else H b
theorem Off.ex {S : List Addr} (h : ∀ b o, b ∉ S → H b = some o → H1 b = some o) : Ex (Off S H) (Off S H1) := fun b o e => by
  unfold Off at e ⊢
  by_cases c : b ∈ S
  · rw [if_pos c] at e
    cases e
  · rw [if_neg c] at e ⊢
    exact h b o c e
theorem Off.le {S : List Addr} : Ex (Off S H) H := fun b o e => by
  unfold Off at e
  by_cases c : b ∈ S
  · rw [if_pos c] at e
    cases e
  · rw [if_neg c] at e
    exact e
theorem Off.lst {S : List Addr} {a : Addr} {us : List V} (n : a ∉ S) (h : SqL K H a us) : SqL K (Off S H) a us := by
  have e : ∀ {o}, H a = some o → Off S H a = some o := fun h => by
    unfold Off
    rw [if_neg n]
    exact h
  rcases h with (h | ⟨ob, h⟩) | h
  · exact .inl (.inl (e h))
  · exact .inl (.inr ⟨ob, e h⟩)
  · exact .inr h
theorem Off.rt {S : List Addr} (hS : ∀ b ∈ S, ∃ xs, H b = some (.lst xs)) {vs : List V} {xs : List Rat} (h : RtAll K H vs xs) : RtAll K (Off S H) vs xs := h.sq fun {a zs} ht => by
  have e : ∀ {o}, (∀ xs, o ≠ .lst xs) → H a = some o → Off S H a = some o := fun hn h => by
    unfold Off
    rw [if_neg fun c => ?_]
    · exact h
    · obtain ⟨xs, hx⟩ := hS a c
      rw [hx] at h
      cases h
      exact hn _ rfl
  rcases ht with (h | ⟨ob, h⟩) | h
  · exact .inl (.inl (e (fun _ z => by cases z) h))
  · exact .inl (.inr ⟨ob, e (fun _ z => by cases z) h⟩)
  · exact .inr h
theorem Bg.new {p : Addr} {o : HO} (h : Bg st H) (np : H p = none) : Bg st (upd H p o) := h.mono (Ex.new np)
theorem Bg.upd {p : Addr} {o : HO} (h : Bg st H) (n : p ≠ st) : Bg st (upd H p o) := by
  obtain ⟨g, m, h⟩ := h
  exact ⟨g, m, by rw [upd_ne n.symm]; exact h⟩
/-- names and rows of a machine in the heap -/
def KitAt (K : PySem.W.Frag) (H : Hp) (a b : Addr) (zs : List Str) (us : List V) (xss : List (List Rat)) : Prop := H a = some (.lst (zs.map V.str)) ∧ H b = some (.lst us) ∧ Rows K H us xss ∧ Good zs xss
theorem KitAt.mono {a b : Addr} {zs : List Str} {us : List V} {xss : List (List Rat)} (h : KitAt K H a b zs us xss) (e : Ex H H1) : KitAt K H1 a b zs us xss := ⟨e _ _ h.1, e _ _ h.2.1, h.2.2.1.mono e, h.2.2.2⟩
end
end NF
namespace NF
open PySem PySem.Spec PyProof.Rows L2 Evl
section
variable {K : PySem.W.Frag} {H H1 H2 : Hp} {σ : L2.St} {ta tb te tl : TE} {v w u : V} {x y : Rat} {E : XK} {D : Ends} {tz t1 t2 : TS} {tc : TT} {tA : TA} {Q : VK} {l st C m : Addr} {xs ys : List Rat} {zs : List Str} {xss : List (List Rat)}
/-- a list of fractions, old or new -/
def EvLs (K : PySem.W.Frag) (te : TE) (σ : L2.St) (H : Hp) (xs : List Rat) : Prop := ∀ H1, Ex H H1 → ∀ Q : VK, (∀ p us H2, Ex H1 H2 → SqL K H2 p us → RtAll K H2 us xs → Q (.ref p) H2) → te σ H1 Q
theorem EvR.ls (h : EvR K te σ H xs) : EvLs K te σ H xs := fun H1 e Q q => h H1 e _ fun p us H2 _ e2 hp hr => q p us H2 e2 (SqL.of hp) hr
end
structure CalK (P : Program) (w : World) (K : PySem.W.Frag) (mg : Str → Option Value) (base : Heap) (k : Nat) (x : Str) (C : Addr) (ps : List Str) (sp : Sp) : Prop where
  ex : ∃ (f : Addr) (fd : FuncData), L2.Mk K C f ∧ FnOk P w K mg base CX0 k f fd ps sp ∧ Binds K fd ps []
  nm : mg x = some (.ref C)
theorem pe_calK {X : Cx} {j k : Nat} {x : Str} {C : Addr} {ps : List Str} {sp : Sp} {e : Expr} {es : List Expr} {t : TA} {p pos : Pos} (M : CalK X.prog X.w X.K X.mg X.base k x C ps sp) (hr : Room j X.A) (hk : k + 1 ≤ j) (hg : Gl X x)
    (ha : PA X (e :: es) t) (hdb : (x == ("__debug__" : Str)) = false := by decide) (he : starEach (e :: es) X.env = (false, eval e X.env) :: starEach es X.env := by rfl) (hpl : (backTo pos (starEach es X.env)).any (·.1) = false := by rfl) :
    PE X (.Call (.Name x p) (e :: es) [] pos) (tMake C sp [] E0 t) := by
  obtain ⟨f, fd, m, F, b⟩ := M.ex
  exact pe_make m F (hr.mono hk) hg M.nm b .nil pass0 ha hdb he hpl
end NF
namespace WL
open PySem PySem.Spec PyProof.Rows L2 Evl NF
section
variable {K : PySem.W.Frag} {W0 W W1 W2 W3 : Wd} {M : Addr → Prop} {σ σ2 : L2.St} {ρ ρ2 : List Sl} {i j k n : Nat} {P P1 P2 P3 : MP} {Ps Qs : List MP} {ta tb tc td te tl : TE} {tt t1 t2 : TT} {Ψ : Sl → Prop} {v w u : V} {R : Post} {t tu tw tz : TS} {s : Sl} {tA tr : TA} {b b1 b2 b3 : Bool} {r r1 r2 r3 : R2}
abbrev int (i : Int) : MP := sc (.int i)
abbrev str (z : Str) : MP := sc (.str z)
abbrev tru (b : Bool) : MP := sc (.bl b)
abbrev rats (K : PySem.W.Frag) (xs : List Rat) : MP := lst K (xs.map (rat K))
abbrev rows (K : PySem.W.Frag) (xss : List (List Rat)) : MP := lst K (xss.map (rats K))
theorem T.is (h : D ρ te (tru b)) : T ρ (tTest te) fun c => c = b := T.of h rfl
theorem T.eq (h : T ρ tt fun c => c = b1) (e : b1 = b) : T ρ tt fun c => c = b := e ▸ h
def cut {α : Type} (xs : List α) (lo hi : Option Int) : List α := (xs.drop (HT.sIx xs.length 0 lo)).take (HT.sIx xs.length xs.length hi - HT.sIx xs.length 0 lo)
theorem al_cut {H : Hp} {vs : List V} {lo hi : Option Int} (h : Al H vs Ps) : Al H (cutV vs lo hi) (cut Ps lo hi) := by
  unfold cutV cut
  rw [h.length]
  exact (h.drop _).take _
theorem cut_hi {α : Type} {xs : List α} {k : Nat} (h : k ≤ xs.length) : cut xs (some (k : Int)) none = xs.drop k := by
  have e1 : HT.sIx xs.length 0 (some (k : Int)) = k := by
    unfold HT.sIx
    simp only []
    rw [if_neg (by omega)]
    simp
    omega
  have e2 : HT.sIx xs.length xs.length none = xs.length := rfl
  unfold cut
  rw [e1, e2, List.take_of_length_le (by rw [List.length_drop]; omega)]
theorem cut_lo {α : Type} {xs : List α} {k : Nat} (h : k ≤ xs.length) : cut xs none (some (k : Int)) = xs.take k := by
  have e1 : HT.sIx xs.length xs.length (some (k : Int)) = k := by
    unfold HT.sIx
    simp only []
    rw [if_neg (by omega)]
    simp
    omega
  have e2 : HT.sIx xs.length 0 none = 0 := rfl
  unfold cut
  rw [e1, e2]
  simp
end
end WL
/-- the program and the world of which all below speaks -/
class PW where
  P : PySem.Program
  w : PySem.World
namespace SL
open PySem PySem.Spec PyProof.Rows L2 Evl NF WL
mutual
inductive NKey (K : PySem.W.Frag) (H : Hp) : NestedKey → V → Prop
  | int (i : Int) : NKey K H (.num i) (.int i)
  | text (z : Str) : NKey K H (.text z) (.str z)
  | tup {p : Addr} {vs : List V} {ks : List NestedKey} : SqT K H p vs → NKeys K H ks vs → NKey K H (.tup ks) (.ref p)
inductive NKeys (K : PySem.W.Frag) (H : Hp) : List NestedKey → List V → Prop
  | nil : NKeys K H [] []
  | cons {k : NestedKey} {v : V} {ks : List NestedKey} {vs : List V} : NKey K H k v → NKeys K H ks vs → NKeys K H (k :: ks) (v :: vs)
end
section
variable {X : Cx} {pins : List (Addr × Obj)} {σ : L2.St} {H H2 : Hp} {s : Shared} {a : Addr} {K : PySem.W.Frag}
mutual
theorem NKey.is (I : Inv X pins σ H s) : ∀ {k : NestedKey} {v : V} {u : Value}, NKey X.K H k v → RelV v u → NestedIs s.heap k u
  | _, _, _, .int i, r => by
    obtain ⟨t, rfl⟩ := r
    exact .int i t
  | _, _, _, .text z, r => by
    obtain ⟨t, rfl⟩ := r
    exact .text z t
  | _, _, _, .tup h hs, r => by
    cases r
    obtain ⟨its, rv, ⟨o, e, hc, n, hd⟩, _⟩ := I.tuple h
    exact .tup e hc hd (NKeys.is I hs rv)
theorem NKeys.is (I : Inv X pins σ H s) : ∀ {ks : List NestedKey} {vs : List V} {us : List Value}, NKeys X.K H ks vs → Vals vs us → NestedAll s.heap ks us
  | _, _, _, .nil, .nil => .nil
  | _, _, _, .cons h hs, .cons r rs => .cons (NKey.is I h r) (NKeys.is I hs rs)
end
theorem SqT.up {a : Addr} {xs : List V} (e : ∀ b o, H b = some o → H2 b = some o) (h : SqT K H a xs) : SqT K H2 a xs := h.elim (fun h => .inl (h.elim (fun h => .inl (e _ _ h)) fun ⟨o, h⟩ => .inr ⟨o, e _ _ h⟩)) fun h => .inr h
mutual
theorem NKey.up (e : ∀ b o, H b = some o → H2 b = some o) : ∀ {k : NestedKey} {v : V}, NKey K H k v → NKey K H2 k v
  | _, _, .int i => .int i
  | _, _, .text z => .text z
  | _, _, .tup h hs => .tup (SqT.up e h) (NKeys.up e hs)
theorem NKeys.up (e : ∀ b o, H b = some o → H2 b = some o) : ∀ {ks : List NestedKey} {vs : List V}, NKeys K H ks vs → NKeys K H2 ks vs
  | _, _, .nil => .nil
  | _, _, .cons h hs => .cons (NKey.up e h) (NKeys.up e hs)
end
end
def RelE (x : NestedKey × Addr × V) (y : NestedKey × Addr × Value) : Prop := x.1 = y.1 ∧ x.2.1 = y.2.1 ∧ RelV x.2.2 y.2.2
def HoldsN (P : Program) (w : World) (a : Addr) (xs : List (NestedKey × Addr × V)) (h : Heap) : Prop := xs.length ≤ sizeLine ∧ (a == sysModules) = false ∧ (xs.map (·.1)).Nodup ∧ ∃ ys : List (NestedKey × Addr × Value), Paired RelE xs ys ∧ ∃ o es ep, h.get? a = some o ∧ o.ExactDict ∧ o.data = .dict es ep ∧ es.toList = ys.map (entryOfKey (nestedKind P w))
def dN (P : Program) (w : World) (a : Addr) (xs : List (NestedKey × Addr × V)) : HO := .ext (HoldsN P w a xs)
end SL
namespace SL
open PySem PySem.Spec PyProof.Rows L2 Evl NF WL
variable [PW]
inductive PV where
  | non
  | bl (b : Bool)
  | int (i : Int)
  | str (z : Str)
  | lst (as : List PV)
  | tup (as : List PV)
  | dic (ks : List Key) (as : List PV)
  | dit (ks : List NestedKey) (as : List PV)
  | ins (c : Addr) (ns : List Str) (as : List PV)
  | exc (c : Addr) (ns : List Str) (as : List PV)
  | cls (c : Addr)
  | scr (ns : List Int)
  | ptr (p : Addr)
  | hole
def insP (c : Addr) (ns : List Str) (Ps : List MP) : MP := ⟨fun H v => ∃ p dx vs, v = .ref p ∧ H p = some (.ins c dx (ns.zip vs)) ∧ vs.length = ns.length ∧ Al H vs Ps, fun e h => by
  obtain ⟨p, dx, vs, h1, h2, h3, h4⟩ := h
  exact ⟨p, dx, vs, h1, e _ _ h2, h3, h4.mono e⟩⟩
/-- an exception that was caught: its own dict holds what it was made of -/
def excP (c : Addr) (ns : List Str) (Ps : List MP) : MP := ⟨fun H v => ∃ p d, v = .ref p ∧ H p = some (ExT (.ref c) d p) ∧ ((d = none ∧ ns = []) ∨ ∃ dx vs, d = some dx ∧ H dx = some (.xd (ns.zip vs)) ∧ vs.length = ns.length ∧ Al H vs Ps), fun e h => by
  obtain ⟨p, d, h1, h2, h3⟩ := h
  refine ⟨p, d, h1, e _ _ h2, ?_⟩
  rcases h3 with h3 | ⟨dx, vs, k1, k2, k3, k4⟩
  · exact .inl h3
  · exact .inr ⟨dx, vs, k1, e _ _ k2, k3, k4.mono e⟩⟩
def dicP (ks : List Key) (Ps : List MP) : MP := ⟨fun H v => ∃ p vs, v = .ref p ∧ H p = some (.dK (ks.zip vs)) ∧ vs.length = ks.length ∧ Al H vs Ps, fun e h => by
  obtain ⟨p, vs, h1, h2, h3, h4⟩ := h
  exact ⟨p, vs, h1, e _ _ h2, h3, h4.mono e⟩⟩
def ditP (K : PySem.W.Frag) (ks : List NestedKey) (Ps : List MP) : MP := ⟨fun H v => ∃ p xs, v = .ref p ∧ H p = some (dN PW.P PW.w p xs) ∧ xs.map (·.1) = ks ∧ (∀ x ∈ xs, NKey K H x.1 (.ref x.2.1) ∧ x.1.depth ≤ 8) ∧ Al H (xs.map fun x => x.2.2) Ps, fun e h => by
  obtain ⟨p, xs, h1, h2, h3, h4, h5⟩ := h
  exact ⟨p, xs, h1, e _ _ h2, h3, fun x hx => ⟨NKey.up e (h4 x hx).1, (h4 x hx).2⟩, h5.mono e⟩⟩
def trk (Ps : List MP) : MP := ⟨fun H v => ∃ p vs, v = .ref p ∧ H p = some (.lst vs) ∧ Al H vs Ps, fun e h => by
  obtain ⟨p, vs, h1, h2, h3⟩ := h
  exact ⟨p, vs, h1, e _ _ h2, h3.mono e⟩⟩
def scrP (K : PySem.W.Frag) (ns : List Int) : MP := ⟨fun H v => ∃ p, v = .ref p ∧ SqL K H p (ns.map V.int), fun e h => by
  obtain ⟨p, h1, h2⟩ := h
  exact ⟨p, h1, ex_l e h2⟩⟩
def anyP : MP := ⟨fun _ _ => True, fun _ h => h⟩
mutual
def mp (K : PySem.W.Frag) : PV → MP
  | .non => sc .non
  | .bl b => sc (.bl b)
  | .int i => sc (.int i)
  | .str z => sc (.str z)
  | .lst as => trk (mps K as)
  | .tup as => WL.tup K (mps K as)
  | .dic ks as => dicP ks (mps K as)
  | .dit ks as => ditP K ks (mps K as)
  | .ins c ns as => insP c ns (mps K as)
  | .exc c ns as => excP c ns (mps K as)
  | .cls c => sc (.ref c)
  | .scr ns => scrP K ns
  | .ptr p => sc (.ref p)
  | .hole => anyP
def mps (K : PySem.W.Frag) : List PV → List MP
  | [] => []
  | a :: as => mp K a :: mps K as
end
theorem mps_map (K : PySem.W.Frag) : ∀ as : List PV, mps K as = as.map (mp K)
  | [] => rfl
  | a :: as => by rw [mps, mps_map K as]; rfl
theorem mps_len (K : PySem.W.Frag) (as : List PV) : (mps K as).length = as.length := by rw [mps_map, List.length_map]
theorem mps_get {K : PySem.W.Frag} {as : List PV} {i : Nat} {a : PV} (h : as[i]? = some a) : (mps K as)[i]? = some (mp K a) := by rw [mps_map, List.getElem?_map, h]; rfl
theorem mps_app (K : PySem.W.Frag) (as bs : List PV) : mps K (as ++ bs) = mps K as ++ mps K bs := by rw [mps_map, mps_map, mps_map, List.map_append]
inductive Cl where
  | lst (as : List PV)
  | ins (c dx : Addr) (ns : List Str) (as : List PV)
  | dic (ks : List Key) (as : List PV)
  | dit (ks : List NestedKey) (as : List PV)
  | bag2
  | bag3
abbrev Sto := Addr → Option Cl
def Cl.ok (K : PySem.W.Frag) (R H : Hp) (p : Addr) : Cl → Prop
  | .lst as => ∃ vs, H p = some (.lst vs) ∧ Al R vs (mps K as)
  | .ins c dx ns as => ∃ vs, H p = some (.ins c dx (ns.zip vs)) ∧ vs.length = ns.length ∧ Al R vs (mps K as)
  | .dic ks as => ∃ vs, H p = some (.dK (ks.zip vs)) ∧ vs.length = ks.length ∧ Al R vs (mps K as)
  | .dit ks as => ∃ xs, H p = some (dN PW.P PW.w p xs) ∧ xs.map (·.1) = ks ∧ (∀ x ∈ xs, NKey K R x.1 (.ref x.2.1) ∧ x.1.depth ≤ 8) ∧ Al R (xs.map fun x => x.2.2) (mps K as)
  | .bag2 => ∃ a b : Int, H p = some (.lst [.int a, .int b])
  | .bag3 => ∃ (a b : Int) (c : Bool), H p = some (.lst [.int a, .int b, .bl c])
theorem Cl.ok.there {K : PySem.W.Frag} {R H : Hp} {p : Addr} {c : Cl} (h : c.ok K R H p) : ∃ o, H p = some o ∧ nt o = true := by
  cases c with
  | lst as => obtain ⟨vs, h, _⟩ := h; exact ⟨_, h, rfl⟩
  | ins c dx ns as => obtain ⟨vs, h, _⟩ := h; exact ⟨_, h, rfl⟩
  | dic ks as => obtain ⟨vs, h, _⟩ := h; exact ⟨_, h, rfl⟩
  | dit ks as => obtain ⟨vs, h, _⟩ := h; exact ⟨_, h, rfl⟩
  | bag2 => obtain ⟨_, _, h⟩ := h; exact ⟨_, h, rfl⟩
  | bag3 => obtain ⟨_, _, _, h⟩ := h; exact ⟨_, h, rfl⟩
theorem Cl.ok.stay {K : PySem.W.Frag} {R R2 H H2 : Hp} {p : Addr} {c : Cl} (h : c.ok K R H p) (e : Ex R R2) (g : ∀ o, H p = some o → H2 p = some o) : c.ok K R2 H2 p := by
  cases c with
  | lst as => obtain ⟨vs, h, a⟩ := h; exact ⟨vs, g _ h, a.mono e⟩
  | ins c dx ns as => obtain ⟨vs, h, l, a⟩ := h; exact ⟨vs, g _ h, l, a.mono e⟩
  | dic ks as => obtain ⟨vs, h, l, a⟩ := h; exact ⟨vs, g _ h, l, a.mono e⟩
  | dit ks as => obtain ⟨xs, h, l, n, a⟩ := h; exact ⟨xs, g _ h, l, fun x hx => ⟨NKey.up e (n x hx).1, (n x hx).2⟩, a.mono e⟩
  | bag2 => obtain ⟨a, b, h⟩ := h; exact ⟨a, b, g _ h⟩
  | bag3 => obtain ⟨a, b, c, h⟩ := h; exact ⟨a, b, c, g _ h⟩
def put (S : Sto) (p : Addr) (c : Cl) : Sto := fun q => if q = p then some c else S q
theorem put_same {S : Sto} {p : Addr} {c : Cl} : put S p c p = some c := by unfold put; rw [if_pos rfl]
theorem put_ne {S : Sto} {p q : Addr} {c : Cl} (h : q ≠ p) : put S p c q = S q := by unfold put; rw [if_neg h]
theorem put_put {S : Sto} {p : Addr} {c d : Cl} : put (put S p c) p d = put S p d := by
  funext q
  unfold put
  split <;> rfl
structure Wd where
  r : Hp
  h : Hp
  s : Sto
structure Ok (K : PySem.W.Frag) (W : Wd) : Prop where
  sub : Ex W.r W.h
  cell : ∀ p c, W.s p = some c → W.r p = none ∧ c.ok K W.r W.h p
structure Le (W W2 : Wd) : Prop where
  r : Ex W.r W2.r
  h : ∀ p o, W.s p = none → W.h p = some o → W2.h p = some o
  w : ∀ p o, W.h p = some o → nt o = true → W.r p = none → W.s p = none → W2.r p = none
  d : ∀ p c, W.s p = some c → ∃ o, W2.h p = some o ∧ nt o = true
  n : ∀ p c, W2.s p = some c → W.s p = none → W.h p = none
structure Go (K : PySem.W.Frag) (W W2 : Wd) : Prop where
  ok : Ok K W2
  le : Le W W2
section
variable {K : PySem.W.Frag} {W0 W W1 W2 W3 : Wd}
theorem Ok.stands (o : Ok K W) {p : Addr} {c : Cl} (h : W.s p = some c) : ∃ u, W.h p = some u ∧ nt u = true := (o.cell p c h).2.there
theorem Le.refl (o : Ok K W) : Le W W := ⟨Ex.refl _, fun _ _ _ h => h, fun _ _ _ _ h _ => h, fun _ c h => o.stands h, fun p c h n => by rw [h] at n; cases n⟩
/-- what stands stands on -/
theorem Le.there (a : Le W W2) {p : Addr} {u : HO} (h : W.h p = some u) : ∃ u2, W2.h p = some u2 := by
  cases c : W.s p with
  | none => exact ⟨u, a.h p u c h⟩
  | some k =>
    obtain ⟨u2, e, _⟩ := a.d p k c
    exact ⟨u2, e⟩
theorem Le.fresh (a : Le W W2) (o2 : Ok K W2) {p : Addr} (h : W2.h p = none) : W.h p = none := by
  cases c : W.h p with
  | none => rfl
  | some u =>
    obtain ⟨u2, e⟩ := a.there c
    rw [h] at e
    cases e
theorem Le.trans (a : Le W W1) (b : Le W1 W2) (o : Ok K W1) : Le W W2 := by
  have s1 : ∀ p u, W.s p = none → W.h p = some u → W1.s p = none := fun p u n h => by
    cases c : W1.s p with
    | none => rfl
    | some k => rw [a.n p k c n] at h; cases h
  refine ⟨a.r.trans b.r, fun p u n h => b.h p u (s1 p u n h) (a.h p u n h), fun p u h t e n => b.w p u (a.h p u n h) t (a.w p u h t e n) (s1 p u n h), fun p c h => ?_, fun p c h n => ?_⟩
  · obtain ⟨u, e, t⟩ := a.d p c h
    cases c1 : W1.s p with
    | none => exact ⟨u, b.h p u c1 e, t⟩
    | some k => exact b.d p k c1
  · cases c1 : W1.s p with
    | none =>
      have := b.n p c h c1
      cases c0 : W.h p with
      | none => rfl
      | some u => rw [a.h p u n c0] at this; cases this
    | some k => exact a.n p k c1 n
theorem Go.trans (a : Go K W W1) (b : Go K W1 W2) : Go K W W2 := ⟨b.ok, a.le.trans b.le a.ok⟩
theorem Go.id (o : Ok K W) : Go K W W := ⟨o, Le.refl o⟩
theorem Ok.rnone (o : Ok K W) {p : Addr} (h : W.h p = none) : W.r p = none := by
  cases c : W.r p with
  | none => rfl
  | some u => rw [o.sub _ _ c] at h; cases h
theorem Ok.snone (o : Ok K W) {p : Addr} (h : W.h p = none) : W.s p = none := by
  cases c : W.s p with
  | none => rfl
  | some k =>
    obtain ⟨u, e, _⟩ := o.stands c
    rw [h] at e
    cases e
theorem upd_ex {R H : Hp} {p : Addr} {o : HO} (s : Ex R H) (hp : H p = none) : Ex (upd R p o) (upd H p o) := fun q u hq => by
  by_cases c : q = p
  · subst c
    rw [upd_same] at hq
    cases hq
    exact upd_same
  · rw [upd_ne c] at hq
    rw [upd_ne c]
    exact s _ _ hq
/-- a new thing that is settled -/
theorem new_set {p : Addr} {u : HO} (o : Ok K W) (hp : W.h p = none) : Go K W ⟨upd W.r p u, upd W.h p u, W.s⟩ := by
  have rp := o.rnone hp
  refine ⟨⟨upd_ex o.sub hp, fun q c h => ?_⟩, Ex.new rp, fun q v n h => Ex.new hp _ _ h, fun q v h t e _ => ?_, fun q c h => (o.stands h).imp fun _ z => ⟨Ex.new hp _ _ z.1, z.2⟩, fun q c h n => ?_⟩
  · have a := (o.cell q c h).1
    have b := (o.cell q c h).2
    have nq : q ≠ p := fun z => by rw [z, o.snone hp] at h; cases h
    exact ⟨by show upd W.r p u q = none; rw [upd_ne nq]; exact a, b.stay (Ex.new rp) fun _ h => Ex.new hp _ _ h⟩
  · have nq : q ≠ p := fun z => by rw [z, hp] at h; cases h
    show upd W.r p u q = none
    rw [upd_ne nq]
    exact e
  · have h' : W.s q = some c := h
    rw [n] at h'
    cases h'
/-- a new thing that is not settled yet -/
theorem new_own {p : Addr} {u : HO} (o : Ok K W) (hp : W.h p = none) : Go K W ⟨W.r, upd W.h p u, W.s⟩ := by
  refine ⟨⟨fun q v h => Ex.new hp _ _ (o.sub _ _ h), fun q c h => ?_⟩, Ex.refl _, fun q v n h => Ex.new hp _ _ h, fun q v h t e _ => e, fun q c h => (o.stands h).imp fun _ z => ⟨Ex.new hp _ _ z.1, z.2⟩, fun q c h n => ?_⟩
  · have a := (o.cell q c h).1
    have b := (o.cell q c h).2
    exact ⟨a, b.stay (Ex.refl _) fun _ h => Ex.new hp _ _ h⟩
  · have h' : W.s q = some c := h
    rw [n] at h'
    cases h'
/-- a new place that may change -/
theorem new_cell {p : Addr} {u : HO} {c : Cl} (o : Ok K W) (hp : W.h p = none) (hc : c.ok K W.r (upd W.h p u) p) : Go K W ⟨W.r, upd W.h p u, put W.s p c⟩ := by
  refine ⟨⟨fun q v h => Ex.new hp _ _ (o.sub _ _ h), fun q k h => ?_⟩, Ex.refl _, fun q v n h => Ex.new hp _ _ h, fun q v h t e _ => e, fun q k h => (o.stands h).imp fun _ z => ⟨Ex.new hp _ _ z.1, z.2⟩, fun q k h n => ?_⟩
  · have h' : put W.s p c q = some k := h
    by_cases e : q = p
    · subst e
      rw [put_same] at h'
      cases h'
      exact ⟨o.rnone hp, hc⟩
    · rw [put_ne e] at h'
      have a := (o.cell q k h').1
      have b := (o.cell q k h').2
      exact ⟨a, b.stay (Ex.refl _) fun _ h => Ex.new hp _ _ h⟩
  · by_cases e : q = p
    · subst e
      exact hp
    · have h' : put W.s p c q = some k := h
      rw [put_ne e, n] at h'
      cases h'
/-- a place changes -/
theorem put_cell {p : Addr} {u : HO} {c c2 : Cl} (o : Ok K W) (hs : W.s p = some c) (hc : c2.ok K W.r (upd W.h p u) p) : Go K W ⟨W.r, upd W.h p u, put W.s p c2⟩ := by
  have rp := (o.cell p c hs).1
  have st : ∀ q v, q ≠ p → W.h q = some v → upd W.h p u q = some v := fun q v e h => by rw [upd_ne e]; exact h
  refine ⟨⟨fun q v h => st q v (fun z => by rw [z] at h; rw [show W.r p = some v from h] at rp; cases rp) (o.sub _ _ h), fun q k h => ?_⟩, Ex.refl _, fun q v n h => st q v (fun z => by rw [z, hs] at n; cases n) h, fun q v h t e _ => e, fun q k h => ?_, fun q k h n => ?_⟩
  · have h' : put W.s p c2 q = some k := h
    by_cases e : q = p
    · subst e
      rw [put_same] at h'
      cases h'
      exact ⟨rp, hc⟩
    · rw [put_ne e] at h'
      have a := (o.cell q k h').1
      have b := (o.cell q k h').2
      exact ⟨a, b.stay (Ex.refl _) fun v h => st q v e h⟩
  · by_cases e : q = p
    · subst e
      exact hc.there
    · obtain ⟨v, a, b⟩ := o.stands h
      exact ⟨v, st q v e a, b⟩
  · by_cases e : q = p
    · subst e
      rw [hs] at n
      cases n
    · have h' : put W.s p c2 q = some k := h
      rw [put_ne e, n] at h'
      cases h'
def rem (S : Sto) (p : Addr) : Sto := fun q => if q = p then none else S q
theorem rem_ne {S : Sto} {p q : Addr} (h : q ≠ p) : rem S p q = S q := by unfold rem; rw [if_neg h]
theorem rem_same {S : Sto} {p : Addr} : rem S p p = none := by unfold rem; rw [if_pos rfl]
/-- a place that may change is settled -/
theorem calm_cell {p : Addr} {u : HO} {c : Cl} (o : Ok K W) (hs : W.s p = some c) (hp : W.h p = some u) : Go K W ⟨upd W.r p u, W.h, rem W.s p⟩ := by
  have rp := (o.cell p c hs).1
  have ex : Ex W.r (upd W.r p u) := Ex.new rp
  refine ⟨⟨fun q v hq => ?_, fun q k h => ?_⟩, ex, fun q v n h => h, fun q v h t e n => ?_, fun q k h => o.stands h, fun q k h n => ?_⟩
  · have hq' : upd W.r p u q = some v := hq
    by_cases e : q = p
    · subst e
      rw [upd_same] at hq'
      cases hq'
      exact hp
    · rw [upd_ne e] at hq'
      exact o.sub _ _ hq'
  · have h' : rem W.s p q = some k := h
    have e : q ≠ p := fun z => by rw [z, rem_same] at h'; cases h'
    rw [rem_ne e] at h'
    have a := (o.cell q k h').1
    have b := (o.cell q k h').2
    exact ⟨by show upd W.r p u q = none; rw [upd_ne e]; exact a, b.stay ex fun _ h => h⟩
  · have e' : q ≠ p := fun z => by rw [z, hs] at n; cases n
    show upd W.r p u q = none
    rw [upd_ne e']
    exact e
  · have h' : rem W.s p q = some k := h
    have e : q ≠ p := fun z => by rw [z, rem_same] at h'; cases h'
    rw [rem_ne e, n] at h'
    cases h'
end
inductive Sl where
  | un
  | val (a : PV)
  | own (as : List PV)
def OwnOk (K : PySem.W.Frag) (W : Wd) (p : Addr) (as : List PV) : Prop := ∃ vs, W.h p = some (.lst vs) ∧ W.r p = none ∧ W.s p = none ∧ Al W.r vs (mps K as)
def SlOk (K : PySem.W.Frag) (W0 W : Wd) (u : Option V) : Sl → Prop
  | .un => True
  | .val a => ∃ v, u = some v ∧ (mp K a).p W.r v
  | .own as => ∃ p, u = some (.ref p) ∧ W0.h p = none ∧ OwnOk K W p as
structure En (K : PySem.W.Frag) (W0 W : Wd) (σ : L2.St) (ρ : List Sl) : Prop where
  ok : Ok K W
  le : Le W0 W
  len : σ.length = ρ.length
  sl : ∀ (i : Nat) s, ρ[i]? = some s → ∃ u, σ[i]? = some u ∧ SlOk K W0 W u s
  ne : ∀ (i j : Nat) as bs p, i ≠ j → ρ[i]? = some (.own as) → ρ[j]? = some (.own bs) → σ[i]? = some (some (.ref p)) → σ[j]? ≠ some (some (.ref p))
section
variable {K : PySem.W.Frag} {W0 W W1 W2 W3 : Wd} {σ : L2.St} {ρ ρ2 : List Sl} {i j : Nat} {p : Addr} {as bs : List PV} {a : PV} {v : V}
theorem OwnOk.go (h : OwnOk K W p as) (g : Go K W W2) : OwnOk K W2 p as := by
  obtain ⟨vs, h1, h2, h3, h4⟩ := h
  refine ⟨vs, g.le.h _ _ h3 h1, g.le.w _ _ h1 rfl h2 h3, ?_, h4.mono g.le.r⟩
  cases c : W2.s p with
  | none => rfl
  | some k => rw [g.le.n _ _ c h3] at h1; cases h1
theorem En.go (e : En K W0 W σ ρ) (g : Go K W W2) : En K W0 W2 σ ρ := by
  refine ⟨g.ok, e.le.trans g.le e.ok, e.len, fun i s hs => ?_, e.ne⟩
  obtain ⟨u, h1, h2⟩ := e.sl i s hs
  refine ⟨u, h1, ?_⟩
  cases s with
  | un => trivial
  | val a =>
    obtain ⟨v, rfl, h⟩ := h2
    exact ⟨v, rfl, MP.mono _ g.le.r h⟩
  | own as =>
    obtain ⟨p, rfl, h3, h4⟩ := h2
    exact ⟨p, rfl, h3, h4.go g⟩
theorem En.id (e : En K W0 W σ ρ) : Go K W W := Go.id e.ok
/-- an answer that is a new list -/
def ROk (K : PySem.W.Frag) (W W2 : Wd) (v : V) (as : List PV) : Prop := ∃ p, v = .ref p ∧ W.h p = none ∧ OwnOk K W2 p as
theorem ROk.back (o : Ok K W1) (g : Go K W W1) (r : ROk K W1 W2 v as) : ROk K W W2 v as := by
  obtain ⟨p, h1, h2, h3⟩ := r
  exact ⟨p, h1, g.le.fresh o h2, h3⟩
theorem ROk.base (e : En K W0 W σ ρ) (r : ROk K W W2 v as) : ROk K W0 W2 v as := by
  obtain ⟨p, h1, h2, h3⟩ := r
  exact ⟨p, h1, e.le.fresh e.ok h2, h3⟩
theorem e_new (o : Ok K W) {vs : List V} (hp : W.h p = none) (al : Al W.r vs (mps K as)) : ∃ W3, W3.h = upd W.h p (.lst vs) ∧ W3.s = W.s ∧ Go K W W3 ∧ ROk K W W3 (.ref p) as :=
  ⟨⟨W.r, upd W.h p (.lst vs), W.s⟩, rfl, rfl, new_own o hp, p, rfl, hp, vs, upd_same, o.rnone hp, o.snone hp, al⟩
/-- a new list is settled -/
theorem settle (g : Go K W W2) (h : ROk K W W2 v as) : ∃ W3, W3.h = W2.h ∧ W3.s = W2.s ∧ Ex W2.r W3.r ∧ Go K W W3 ∧ (mp K (.lst as)).p W3.r v := by
  obtain ⟨p, rfl, hp, vs, h1, h2, h3, h4⟩ := h
  have ex : Ex W2.r (upd W2.r p (.lst vs)) := Ex.new h2
  refine ⟨⟨upd W2.r p (.lst vs), W2.h, W2.s⟩, rfl, rfl, ex, ⟨⟨fun q o (hq : upd W2.r p (.lst vs) q = some o) => ?_, fun q c hc => ?_⟩, g.le.r.trans ex, g.le.h, fun q o hq t e ns => ?_, g.le.d, g.le.n⟩, p, vs, rfl, upd_same, h4.mono ex⟩
  · by_cases c : q = p
    · subst c
      rw [upd_same] at hq
      cases hq
      exact h1
    · rw [upd_ne c] at hq
      exact g.ok.sub _ _ hq
  · have nq : q ≠ p := fun z => by
      have hc' : W2.s q = some c := hc
      rw [z, h3] at hc'
      cases hc'
    have a := (g.ok.cell q c hc).1
    have b := (g.ok.cell q c hc).2
    exact ⟨by show upd W2.r p _ q = none; rw [upd_ne nq]; exact a, b.stay ex fun _ h => h⟩
  · have nq : q ≠ p := fun z => by rw [z, hp] at hq; cases hq
    show upd W2.r p _ q = none
    rw [upd_ne nq]
    exact g.le.w _ _ hq t e ns
/-- a new list becomes a place that may change -/
theorem celled (g : Go K W W2) (h : ROk K W W2 v as) : ∃ p W3, v = .ref p ∧ W2.s p = none ∧ W3.h = W2.h ∧ W3.r = W2.r ∧ W3.s = put W2.s p (.lst as) ∧ Go K W W3 := by
  obtain ⟨p, rfl, hp, vs, h1, h2, h3, h4⟩ := h
  refine ⟨p, ⟨W2.r, W2.h, put W2.s p (.lst as)⟩, rfl, h3, rfl, rfl, rfl, ⟨g.ok.sub, fun q c hc => ?_⟩, g.le.r, g.le.h, g.le.w, g.le.d, fun q c hc n => ?_⟩
  · have hc' : put W2.s p (.lst as) q = some c := hc
    by_cases e : q = p
    · subst e
      rw [put_same] at hc'
      cases hc'
      exact ⟨h2, vs, h1, h4⟩
    · rw [put_ne e] at hc'
      exact g.ok.cell q c hc'
  · by_cases e : q = p
    · subst e
      exact hp
    · have hc' : put W2.s p (.lst as) q = some c := hc
      rw [put_ne e] at hc'
      exact g.le.n q c hc' n
theorem En.setV (e : En K W0 W σ ρ) (h : (mp K a).p W.r v) (hi : i < ρ.length) : En K W0 W (σ.set i (some v)) (ρ.set i (.val a)) := by
  have hσ : i < σ.length := by rw [e.len]; exact hi
  refine ⟨e.ok, e.le, by rw [List.length_set, List.length_set]; exact e.len, fun k t hk => ?_, fun k l as bs p hkl hk hl ku lu => ?_⟩
  · by_cases c : i = k
    · subst c
      rw [List.getElem?_set_self hi] at hk
      cases hk
      exact ⟨some v, List.getElem?_set_self hσ, v, rfl, h⟩
    · rw [List.getElem?_set_ne c] at hk
      rw [List.getElem?_set_ne c]
      exact e.sl k t hk
  · have c1 : i ≠ k := fun c => by
      subst c
      rw [List.getElem?_set_self hi] at hk
      cases hk
    have c2 : i ≠ l := fun c => by
      subst c
      rw [List.getElem?_set_self hi] at hl
      cases hl
    rw [List.getElem?_set_ne c1] at hk ku
    rw [List.getElem?_set_ne c2] at hl lu
    exact e.ne k l as bs p hkl hk hl ku lu
/-- where an own list lies stands in the heap -/
theorem En.own_some (e : En K W0 W σ ρ) (h : ρ[i]? = some (.own as)) (hu : σ[i]? = some (some (.ref p))) : W0.h p = none ∧ OwnOk K W p as := by
  obtain ⟨u, h1, q, h2, h3⟩ := e.sl i _ h
  rw [hu] at h1
  cases h1
  cases h2
  exact h3
theorem En.setO (e : En K W0 W σ ρ) (g : Go K W W2) (r : ROk K W W2 v as) (hi : i < ρ.length) : En K W0 W2 (σ.set i (some v)) (ρ.set i (.own as)) := by
  have e2 := e.go g
  have hσ : i < σ.length := by rw [e.len]; exact hi
  obtain ⟨p, rfl, hp, ho⟩ := r
  have fr : ∀ {l : Nat} {bs : List PV}, ρ[l]? = some (.own bs) → σ[l]? ≠ some (some (.ref p)) := fun {l bs} hl lu => by
    obtain ⟨_, vs, z, _⟩ := e.own_some hl lu
    rw [hp] at z
    cases z
  refine ⟨e2.ok, e2.le, by rw [List.length_set, List.length_set]; exact e.len, fun k t hk => ?_, fun k l as' bs q hkl hk hl ku lu => ?_⟩
  · by_cases c : i = k
    · subst c
      rw [List.getElem?_set_self hi] at hk
      cases hk
      exact ⟨_, List.getElem?_set_self hσ, p, rfl, e.le.fresh e.ok hp, ho⟩
    · rw [List.getElem?_set_ne c] at hk
      rw [List.getElem?_set_ne c]
      exact e2.sl k t hk
  · by_cases c1 : i = k
    · subst c1
      rw [List.getElem?_set_self hσ] at ku
      cases ku
      rw [List.getElem?_set_ne hkl] at hl lu
      exact fr hl lu
    · rw [List.getElem?_set_ne c1] at hk ku
      by_cases c2 : i = l
      · subst c2
        rw [List.getElem?_set_self hσ] at lu
        cases lu
        exact fr hk ku
      · rw [List.getElem?_set_ne c2] at hl lu
        exact e.ne k l as' bs q hkl hk hl ku lu
theorem En.less (e : En K W0 W σ ρ) (hl : ρ2.length = ρ.length) (h : ∀ (i : Nat) s, ρ2[i]? = some s → s = .un ∨ ρ[i]? = some s) : En K W0 W σ ρ2 := by
  refine ⟨e.ok, e.le, by rw [e.len, hl], fun i s hs => ?_, fun i j as bs p n h1 h2 k1 k2 => ?_⟩
  · rcases h i s hs with rfl | h'
    · have hi : i < ρ2.length := (List.getElem?_eq_some_iff.mp hs).1
      exact ⟨_, List.getElem?_eq_getElem (by rw [e.len, ← hl]; exact hi), trivial⟩
    · exact e.sl i s h'
  · exact e.ne i j as bs p n ((h i _ h1).resolve_left fun z => by cases z) ((h j _ h2).resolve_left fun z => by cases z) k1 k2
/-- what is own is settled -/
theorem En.calm (e : En K W0 W σ ρ) (h : ρ[i]? = some (.own as)) : ∃ W', W'.h = W.h ∧ W'.s = W.s ∧ Ex W.r W'.r ∧ En K W0 W' σ (ρ.set i (.val (.lst as))) := by
  obtain ⟨u, h1, p, rfl, h2, vs, h3, h4, h5, h6⟩ := e.sl i _ h
  have ex : Ex W.r (upd W.r p (.lst vs)) := Ex.new h4
  have hi : i < ρ.length := (List.getElem?_eq_some_iff.mp h).1
  refine ⟨⟨upd W.r p (.lst vs), W.h, W.s⟩, rfl, rfl, ex, ⟨fun q o (hq : upd W.r p (.lst vs) q = some o) => ?_, fun q c hc => ?_⟩, ⟨e.le.r.trans ex, e.le.h, fun q o hq t z ns => ?_, e.le.d, e.le.n⟩, by rw [List.length_set]; exact e.len, fun k s hk => ?_, fun k l as' bs q hkl hk hl ku lu => ?_⟩
  · by_cases c : q = p
    · subst c
      rw [upd_same] at hq
      cases hq
      exact h3
    · rw [upd_ne c] at hq
      exact e.ok.sub _ _ hq
  · have nq : q ≠ p := fun z => by
      have hc' : W.s q = some c := hc
      rw [z, h5] at hc'
      cases hc'
    have a := (e.ok.cell q c hc).1
    have b := (e.ok.cell q c hc).2
    exact ⟨by show upd W.r p _ q = none; rw [upd_ne nq]; exact a, b.stay ex fun _ h => h⟩
  · have nq : q ≠ p := fun y => by rw [y, h2] at hq; cases hq
    show upd W.r p _ q = none
    rw [upd_ne nq]
    exact e.le.w _ _ hq t z ns
  · by_cases c : i = k
    · subst c
      rw [List.getElem?_set_self hi] at hk
      cases hk
      exact ⟨_, h1, _, rfl, p, vs, rfl, upd_same, h6.mono ex⟩
    · rw [List.getElem?_set_ne c] at hk
      obtain ⟨u, k1, k2⟩ := e.sl k s hk
      refine ⟨u, k1, ?_⟩
      cases s with
      | un => trivial
      | val a =>
        obtain ⟨v, rfl, h⟩ := k2
        exact ⟨v, rfl, MP.mono _ ex h⟩
      | own bs =>
        obtain ⟨q, rfl, q1, us, q2, q3, q4, q5⟩ := k2
        have nq : q ≠ p := fun z => by
          subst z
          exact e.ne i k _ _ q c h hk h1 k1
        exact ⟨q, rfl, q1, us, q2, by show upd W.r p _ q = none; rw [upd_ne nq]; exact q3, q4, q5.mono ex⟩
  · have c1 : i ≠ k := fun c => by
      subst c
      rw [List.getElem?_set_self hi] at hk
      cases hk
    have c2 : i ≠ l := fun c => by
      subst c
      rw [List.getElem?_set_self hi] at hl
      cases hl
    rw [List.getElem?_set_ne c1] at hk
    rw [List.getElem?_set_ne c2] at hl
    exact e.ne k l as' bs q hkl hk hl ku lu
/-- an own list changes -/
theorem En.put (e : En K W0 W σ ρ) (h : ρ[i]? = some (.own as)) (hu : σ[i]? = some (some (.ref p))) {vs : List V} (al : Al W.r vs (mps K bs)) : En K W0 ⟨W.r, upd W.h p (.lst vs), W.s⟩ σ (ρ.set i (.own bs)) := by
  obtain ⟨h2, us, h3, h4, h5, h6⟩ := e.own_some h hu
  have hi : i < ρ.length := (List.getElem?_eq_some_iff.mp h).1
  have st : ∀ q v, q ≠ p → W.h q = some v → upd W.h p (.lst vs) q = some v := fun q v e h => by rw [upd_ne e]; exact h
  refine ⟨⟨fun q v hq => st q v (fun z => by rw [z] at hq; rw [show W.r p = some v from hq] at h4; cases h4) (e.ok.sub _ _ hq), fun q c hc => ?_⟩, ⟨e.le.r, fun q v n hq => st q v (fun z => by rw [z, h2] at hq; cases hq) (e.le.h q v n hq), e.le.w, fun q c hq => by
    obtain ⟨v, a, b⟩ := e.le.d q c hq
    by_cases z : q = p
    · subst z
      exact ⟨_, upd_same, rfl⟩
    · exact ⟨v, st q v z a, b⟩, e.le.n⟩, by rw [List.length_set]; exact e.len, fun k s hk => ?_, fun k l as' bs' q hkl hk hl ku lu => ?_⟩
  · have nq : q ≠ p := fun z => by
      have hc' : W.s q = some c := hc
      rw [z, h5] at hc'
      cases hc'
    have a := (e.ok.cell q c hc).1
    have b := (e.ok.cell q c hc).2
    exact ⟨a, b.stay (Ex.refl _) fun v h => st q v nq h⟩
  · by_cases c : i = k
    · subst c
      rw [List.getElem?_set_self hi] at hk
      cases hk
      exact ⟨_, hu, p, rfl, h2, vs, upd_same, h4, h5, al⟩
    · rw [List.getElem?_set_ne c] at hk
      obtain ⟨u, k1, k2⟩ := e.sl k s hk
      refine ⟨u, k1, ?_⟩
      cases s with
      | un => trivial
      | val a => exact k2
      | own cs =>
        obtain ⟨q, rfl, q1, us', q2, q3, q4, q5⟩ := k2
        have nq : q ≠ p := fun z => by
          subst z
          exact e.ne i k _ _ q c h hk hu k1
        exact ⟨q, rfl, q1, us', st q _ nq q2, q3, q4, q5⟩
  · by_cases c1 : i = k
    · subst c1
      rw [hu] at ku
      cases ku
      rw [List.getElem?_set_ne hkl] at hl
      exact e.ne i l _ _ p hkl h hl hu lu
    · rw [List.getElem?_set_ne c1] at hk
      by_cases c2 : i = l
      · subst c2
        exact e.ne k i _ _ q hkl hk h ku lu
      · rw [List.getElem?_set_ne c2] at hl
        exact e.ne k l as' bs' q hkl hk hl ku lu
end
end SL
namespace SL
open PySem PySem.Spec PyProof.Rows L2 Evl NF WL
variable [PW]
structure XV where
  c : Addr
  ns : List Str
  as : List PV
abbrev W (α : Type) := Sto → (α → Sto → Prop) → (XV → Sto → Prop) → Prop
def ret {α : Type} (a : α) : W α := fun S Ψ _ => Ψ a S
def bind {α β : Type} (m : W α) (k : α → W β) : W β := fun S Ψ Ξ => m S (fun a S2 => k a S2 Ψ Ξ) Ξ
def fail {α : Type} : W α := fun _ _ _ => False
def lift {α : Type} (o : Option α) : W α := fun S Ψ _ => ∃ a, o = some a ∧ Ψ a S
def noX {α : Type} (m : W α) : W α := fun S Ψ _ => m S Ψ fun _ _ => False
/-- the places themselves -/
def look {α : Type} (f : Sto → Option α) : W α := fun S Ψ _ => ∃ a, f S = some a ∧ Ψ a S
theorem lift_some {α : Type} (a : α) : lift (some a) = ret a := by
  funext S Ψ Ξ
  exact propext ⟨fun ⟨b, e, h⟩ => by cases e; exact h, fun h => ⟨a, rfl, h⟩⟩
def XOk (K : PySem.W.Frag) (H : Hp) (cls : Value) (d : Option Addr) (x : XV) : Prop := cls = .ref x.c ∧ ((d = none ∧ x.ns = []) ∨ ∃ dx vs, d = some dx ∧ H dx = some (.xd (x.ns.zip vs)) ∧ vs.length = x.ns.length ∧ Al H vs (mps K x.as))
section
variable (K : PySem.W.Frag) (Z : WX) (ρ : List Sl)
def KX (σ : L2.St) (W : Wd) (Ξ : XV → Sto → Prop) : Prop := ∀ x cls d W2, Go K W W2 → XOk K W2.r cls d x → Ξ x W2.s → Z cls d σ W2.h
def EP (te : TE) (m : W PV) : Prop := ∀ W0 W σ, En K W0 W σ ρ → ∀ (Q : VK) Ψ Ξ, m W.s Ψ Ξ → (∀ a v W2, Go K W W2 → (mp K a).p W2.r v → Ψ a W2.s → Q v W2.h) → KX K Z σ W Ξ → te σ W.h Q
def EO (te : TE) (m : W (List PV)) : Prop := ∀ W0 W σ, En K W0 W σ ρ → ∀ (Q : VK) Ψ Ξ, m W.s Ψ Ξ → (∀ as v W2, Go K W W2 → ROk K W W2 v as → Ψ as W2.s → Q v W2.h) → KX K Z σ W Ξ → te σ W.h Q
def TP (tt : TT) (m : W Bool) : Prop := ∀ W0 W σ, En K W0 W σ ρ → ∀ (Q : Bool → Hp → Prop) Ψ Ξ, m W.s Ψ Ξ → (∀ b W2, Go K W W2 → Ψ b W2.s → Q b W2.h) → KX K Z σ W Ξ → tt σ W.h Q
def VP (tA : TA) (m : W (List PV)) : Prop := ∀ W0 W σ, En K W0 W σ ρ → ∀ (Q : List V → Hp → Prop) Ψ Ξ, m W.s Ψ Ξ → (∀ as vs W2, Go K W W2 → Al W2.r vs (mps K as) → Ψ as W2.s → Q vs W2.h) → KX K Z σ W Ξ → tA σ W.h Q
end
section
variable {K : PySem.W.Frag} {Z : WX} {W0 W1 W2 W3 : Wd} {σ : L2.St} {ρ : List Sl} {i j : Nat} {ta tb tc te : TE} {tt t1 t2 : TT} {tA tr : TA} {ma mb mc m : W PV} {ms : W (List PV)} {r r1 r2 : R2}
theorem KX.go {W : Wd} {Ξ : XV → Sto → Prop} (h : KX K Z σ W Ξ) (g : Go K W W1) : KX K Z σ W1 Ξ := fun x cls d W2 g2 => h x cls d W2 (g.trans g2)
theorem ep_var {a : PV} (h : ρ[i]? = some (.val a)) : EP K Z ρ (tVar i) (ret a) := fun W0 W σ e Q Ψ Ξ hm k _ => by
  obtain ⟨u, h1, v, rfl, h2⟩ := e.sl i _ h
  exact ⟨v, h1, k a v W e.id h2 hm⟩
theorem ep_c {a : PV} {v : V} (h : ∀ H, (mp K a).p H v) : EP K Z ρ (tC v) (ret a) := fun W0 W σ e Q Ψ Ξ hm k _ => k a v W e.id (h _) hm
theorem ep_int {n : Int} : EP K Z ρ (tC (.int n)) (ret (.int n)) := ep_c fun _ => rfl
theorem ep_bl {b : Bool} : EP K Z ρ (tC (.bl b)) (ret (.bl b)) := ep_c fun _ => rfl
theorem ep_str {z : Str} : EP K Z ρ (tC (.str z)) (ret (.str z)) := ep_c fun _ => rfl
theorem ep_non : EP K Z ρ (tC .non) (ret .non) := ep_c fun _ => rfl
/-- an operation that reads, by values -/
def OpW (K : PySem.W.Frag) (r : R2) (f : PV → PV → Option PV) : Prop := ∀ a b c, f a b = some c → OpV r (mp K a) (mp K b) (mp K c)
def op2 (f : PV → PV → Option PV) (ma mb : W PV) : W PV := bind ma fun a => bind mb fun b => lift (f a b)
def op1 (f : PV → Option PV) (ma : W PV) : W PV := bind ma fun a => lift (f a)
theorem p_op {f : PV → PV → Option PV} (hf : OpW K r f) (ha : EP K Z ρ ta ma) (hb : EP K Z ρ tb mb) : EP K Z ρ (tOp r ta tb) (op2 f ma mb) := fun W0 W σ e Q Ψ Ξ hm k kx =>
  ha W0 W σ e _ _ _ hm (fun a x W1 g1 px h2 => hb W0 W1 σ (e.go g1) _ _ _ h2 (fun b y W2 g2 py ⟨c, ec, hc⟩ => hf a b c ec W2.r W2.h x y g2.ok.sub (MP.mono _ g2.le.r px) py _ fun v pv => k c v W2 (g1.trans g2) pv hc) (kx.go g1)) kx
def isB : PV → Option Bool
  | .bl b => some b
  | _ => none
theorem isB_p {a : PV} {b : Bool} {H : Hp} {v : V} (h : isB a = some b) (p : (mp K a).p H v) : v = .bl b := by
  cases a <;> try cases h
  exact p
def tst (m : W PV) : W Bool := bind m fun a => lift (isB a)
def andT (m1 m2 : W Bool) : W Bool := bind m1 fun b => if b = true then m2 else ret false
def orT (m1 m2 : W Bool) : W Bool := bind m1 fun b => if b = true then ret true else m2
def notT (m1 : W Bool) : W Bool := bind m1 fun b => ret !b
def andV (ma mb : W PV) : W PV := bind ma fun a => bind (lift (isB a)) fun b => if b = true then mb else ret (.bl false)
def orV (ma mb : W PV) : W PV := bind ma fun a => bind (lift (isB a)) fun b => if b = true then ret (.bl true) else mb
def notV (ma : W PV) : W PV := bind ma fun a => bind (lift (isB a)) fun b => ret (.bl !b)
def ifE {α : Type} (mt : W Bool) (ma mb : W α) : W α := bind mt fun b => if b = true then ma else mb
def chain (f1 f2 : PV → PV → Option PV) (ma mb mc : W PV) : W PV := bind ma fun a => bind mb fun b => bind (lift (f1 a b)) fun u => bind (lift (isB u)) fun t => if t = true then bind mc fun c => lift (f2 b c) else ret (.bl false)
def chain3 (f1 f2 f3 : PV → PV → Option PV) (ma mb mc md : W PV) : W PV := bind ma fun a => bind mb fun b => bind (lift (f1 a b)) fun u => bind (lift (isB u)) fun t => if t = true then bind mc fun c => bind (lift (f2 b c)) fun u2 => bind (lift (isB u2)) fun t2 => if t2 = true then bind md fun d => lift (f3 c d) else ret (.bl false) else ret (.bl false)
theorem t_tst (h : EP K Z ρ te m) : TP K Z ρ (tTest te) (tst m) := fun W0 W σ e Q Ψ Ξ hm k kx => h W0 W σ e _ _ _ hm (fun a v W1 g p ⟨b, eb, hb⟩ => ⟨b, isB_p eb p, k b W1 g hb⟩) kx
theorem t_tB (h : EP K Z ρ te m) : TP K Z ρ (tB te) (tst m) := t_tst h
variable {m1 m2 : W Bool}
theorem t_orT (h1 : TP K Z ρ t1 m1) (h2 : TP K Z ρ t2 m2) : TP K Z ρ (tOr t1 t2) (orT m1 m2) := fun W0 W σ e Q Ψ Ξ hm k kx => h1 W0 W σ e _ _ _ hm (fun b W1 g q => by
  cases b with
  | true => exact k true W1 g q
  | false => exact h2 W0 W1 σ (e.go g) _ _ _ q (fun c W2 g2 z => k c W2 (g.trans g2) z) (kx.go g)) kx
theorem t_notT (h1 : TP K Z ρ t1 m1) : TP K Z ρ (tNot t1) (notT m1) := fun W0 W σ e Q Ψ Ξ hm k kx => h1 W0 W σ e _ _ _ hm (fun b W1 g q => k (!b) W1 g q) kx
theorem t_yes : TP K Z ρ tYes (ret true) := fun W0 W σ e Q Ψ Ξ hm k kx => k true W e.id hm
theorem p_and (ha : EP K Z ρ ta ma) (hb : EP K Z ρ tb mb) : EP K Z ρ (tAndV ta tb) (andV ma mb) := fun W0 W σ e Q Ψ Ξ hm k kx => ha W0 W σ e _ _ _ hm (fun a v W1 g p q => by
  obtain ⟨b, eb, q⟩ := q
  refine ⟨b, isB_p eb p, ?_⟩
  cases b with
  | true => exact hb W0 W1 σ (e.go g) _ _ _ q (fun c v W2 g2 z => k c v W2 (g.trans g2) z) (kx.go g)
  | false => exact k (.bl false) _ W1 g rfl q) kx
theorem p_not (ha : EP K Z ρ ta ma) : EP K Z ρ (tNotV ta) (notV ma) := fun W0 W σ e Q Ψ Ξ hm k kx => ha W0 W σ e _ _ _ hm (fun a v W1 g p q => by
  obtain ⟨b, eb, q⟩ := q
  exact ⟨b, isB_p eb p, k (.bl !b) _ W1 g rfl q⟩) kx
theorem p_if (h : TP K Z ρ tt m1) (ha : EP K Z ρ ta ma) (hb : EP K Z ρ tb mb) : EP K Z ρ (tIf tt ta tb) (ifE m1 ma mb) := fun W0 W σ e Q Ψ Ξ hm k kx => h W0 W σ e _ _ _ hm (fun b W1 g q => by
  cases b with
  | true => exact ha W0 W1 σ (e.go g) _ _ _ q (fun c v W2 g2 z => k c v W2 (g.trans g2) z) (kx.go g)
  | false => exact hb W0 W1 σ (e.go g) _ _ _ q (fun c v W2 g2 z => k c v W2 (g.trans g2) z) (kx.go g)) kx
theorem p_chain {f1 f2 : PV → PV → Option PV} (hf1 : OpW K r1 f1) (hf2 : OpW K r2 f2) (ha : EP K Z ρ ta ma) (hb : EP K Z ρ tb mb) (hc : EP K Z ρ tc mc) : EP K Z ρ (tChain r1 r2 ta tb tc) (chain f1 f2 ma mb mc) := fun W0 W σ e Q Ψ Ξ hm k kx =>
  ha W0 W σ e _ _ _ hm (fun a x W1 g1 px h2 => hb W0 W1 σ (e.go g1) _ _ _ h2 (fun b y W2 g2 py ⟨u, eu, t, et, h3⟩ => hf1 a b u eu W2.r W2.h x y g2.ok.sub (MP.mono _ g2.le.r px) py _ fun v pv => by
    refine ⟨t, isB_p et pv, ?_⟩
    have e2 := (e.go g1).go g2
    cases t with
    | true => exact hc W0 W2 σ e2 _ _ _ h3 (fun c z W3 g3 pz ⟨q, eq, hq⟩ => hf2 b c q eq W3.r W3.h y z g3.ok.sub (MP.mono _ g3.le.r py) pz _ fun v pv => k q v W3 ((g1.trans g2).trans g3) pv hq) (kx.go (g1.trans g2))
    | false => exact k (.bl false) _ W2 (g1.trans g2) rfl h3) (kx.go g1)) kx
def vcons (ma : W PV) (ms : W (List PV)) : W (List PV) := bind ma fun a => bind ms fun as => ret (a :: as)
def vnil : W (List PV) := ret []
theorem v_nil : VP K Z ρ tNil vnil := fun W0 W σ e Q Ψ Ξ hm k kx => k [] [] W e.id .nil hm
theorem v_cons (h : EP K Z ρ ta ma) (t : VP K Z ρ tr ms) : VP K Z ρ (tCons ta tr) (vcons ma ms) := fun W0 W σ e Q Ψ Ξ hm k kx =>
  h W0 W σ e _ _ _ hm (fun a v W1 g1 p h2 => t W0 W1 σ (e.go g1) _ _ _ h2 (fun as vs W2 g2 ps h3 => k (a :: as) _ W2 (g1.trans g2) (.cons (MP.mono _ g2.le.r p) ps) h3) (kx.go g1)) kx
def CbW (K : PySem.W.Frag) (r : List V → Hp → VK → Prop) (f : List PV → Option PV) : Prop := ∀ as c, f as = some c → CbV r (mps K as) (mp K c)
def cb (f : List PV → Option PV) (ms : W (List PV)) : W PV := bind ms fun as => lift (f as)
theorem p_cb {r : List V → Hp → VK → Prop} {f : List PV → Option PV} (hf : CbW K r f) (ha : VP K Z ρ tA ms) : EP K Z ρ (tCB r tA) (cb f ms) := fun W0 W σ e Q Ψ Ξ hm k kx =>
  ha W0 W σ e _ _ _ hm (fun as vs W1 g1 p ⟨c, ec, hc⟩ => hf as c ec W1.r W1.h vs g1.ok.sub p _ fun v pv => k c v W1 g1 pv hc) kx
def CbM (K : PySem.W.Frag) (r : List V → Hp → VK → Prop) (f : List PV → Option (List PV)) : Prop := ∀ as cs, f as = some cs → CbL r (mps K as) (mps K cs)
def cbO (f : List PV → Option (List PV)) (ms : W (List PV)) : W (List PV) := bind ms fun as => lift (f as)
theorem o_new {W : Wd} {Q : VK} {Ψ : List PV → Sto → Prop} (k : ∀ as v W2, Go K W W2 → ROk K W W2 v as → Ψ as W2.s → Q v W2.h) (g : Go K W W1) {p : Addr} {vs : List V} {as : List PV} (hp : W1.h p = none) (al : Al W1.r vs (mps K as)) (z : Ψ as W1.s) : Q (.ref p) (upd W1.h p (.lst vs)) := by
  obtain ⟨W3, e1, e2, g3, r3⟩ := e_new g.ok hp al
  rw [← e1]
  exact k as _ W3 (g.trans g3) (r3.back g.ok g) (by rw [e2]; exact z)
theorem o_cb {r : List V → Hp → VK → Prop} {f : List PV → Option (List PV)} (hf : CbM K r f) (ha : VP K Z ρ tA ms) : EO K Z ρ (tCB r tA) (cbO f ms) := fun W0 W σ e Q Ψ Ξ hm k kx =>
  ha W0 W σ e _ _ _ hm (fun as vs W1 g1 p ⟨cs, ec, hc⟩ => hf as cs ec W1.r W1.h vs g1.ok.sub p _ fun q ws hq al => o_new k g1 hq al hc) kx
def lstO (ms : W (List PV)) : W (List PV) := bind ms fun as => lift (if as.length ≤ 100000 then some as else none)
def tupW (ms : W (List PV)) : W PV := bind ms fun as => lift (if as.length ≤ 100000 then some (.tup as) else none)
def setl (ms : W (List PV)) : W PV := bind ms fun as => ret (.lst as)
theorem o_lst (ha : VP K Z ρ tA ms) : EO K Z ρ (tLst tA) (lstO ms) := fun W0 W σ e Q Ψ Ξ hm k kx =>
  ha W0 W σ e _ _ _ hm (fun as vs W1 g1 al ⟨cs, ec, hc⟩ => by
    split at ec
    · rename_i hl
      cases ec
      exact ⟨sz_of (by rw [al.length, mps_len]; exact hl), fun p hp => o_new k g1 hp al hc⟩
    · cases ec) kx
/-- what is made is settled at once -/
theorem p_set (h : EO K Z ρ te ms) : EP K Z ρ te (setl ms) := fun W0 W σ e Q Ψ Ξ hm k kx =>
  h W0 W σ e _ _ _ hm (fun as v W1 g1 r h2 => by
    obtain ⟨W3, e1, e2, _, g3, p3⟩ := settle g1 r
    rw [← e1]
    exact k (.lst as) v W3 g3 p3 (by rw [e2]; exact h2)) kx
/-- what is made becomes a place that may change -/
def cellW (ms : W (List PV)) : W PV := fun S Ψ Ξ => ms S (fun as S2 => ∀ p, S2 p = none → Ψ (.ptr p) (put S2 p (.lst as))) Ξ
theorem p_cell (h : EO K Z ρ te ms) : EP K Z ρ te (cellW ms) := fun W0 W σ e Q Ψ Ξ hm k kx =>
  h W0 W σ e _ _ _ hm (fun as v W1 g1 r h2 => by
    obtain ⟨p, W3, rfl, sp, e1, e3, e2, g3⟩ := celled g1 r
    rw [← e1]
    exact k (.ptr p) _ W3 g3 rfl (by rw [e2]; exact h2 p sp)) kx
theorem p_tup (ha : VP K Z ρ tA ms) : EP K Z ρ (tTup tA) (tupW ms) := fun W0 W σ e Q Ψ Ξ hm k kx =>
  ha W0 W σ e _ _ _ hm (fun as vs W1 g1 al ⟨c, ec, hc⟩ => by
    split at ec
    · rename_i hl
      cases ec
      refine ⟨sz_of (by rw [al.length, mps_len]; exact hl), fun p hp => ?_⟩
      have g2 := new_set (u := .tup vs) g1.ok hp
      exact k (.tup as) _ _ (g1.trans g2) ⟨p, vs, rfl, SqT.of upd_same, al.mono g2.le.r⟩ hc
    · cases ec) kx
end
end SL
namespace SL
open PySem PySem.Spec PyProof.Rows L2 Evl NF WL
variable [PW]
inductive RV where
  | v (a : PV)
  | o (as : List PV)
def RV.pv : RV → PV
  | .v a => a
  | .o as => .lst as
def RRk (K : PySem.W.Frag) (W W2 : Wd) (v : V) : RV → Prop
  | .v a => (mp K a).p W2.r v
  | .o as => ROk K W W2 v as
inductive Fl (S : Type) where
  | nx (s : S)
  | rt (r : RV)
def bindF {S T : Type} (m : W (Fl S)) (k : S → W (Fl T)) : W (Fl T) := bind m fun f => match f with
  | .nx s => k s
  | .rt r => ret (.rt r)
def runF (m : W (Fl Unit)) : W RV := bind m fun f => match f with
  | .nx _ => ret (.v .non)
  | .rt r => ret r
structure MeetsP (K : PySem.W.Frag) (Z : WX) (W0 : Wd) (D : Ends) {S : Type} (pat : S → List Sl) (Φ : Fl S → Sto → Prop) (Ξ : XV → Sto → Prop) : Prop where
  nx : ∀ W σ s, En K W0 W σ (pat s) → Φ (.nx s) W.s → D.nx σ W.h
  rt : ∀ r v W, Go K W0 W → RRk K W0 W v r → Φ (.rt r) W.s → D.rt v W.h
  xc : ∀ x cls d σ W, Go K W0 W → XOk K W.r cls d x → Ξ x W.s → Z cls d σ W.h
def GP (K : PySem.W.Frag) (Z : WX) (ρ : List Sl) (ts : TS) {S : Type} (pat : S → List Sl) (m : W (Fl S)) : Prop := ∀ W0 W σ D, En K W0 W σ ρ → ∀ Φ Ξ, m W.s Φ Ξ → MeetsP K Z W0 D pat Φ Ξ → ts D σ W.h
section
variable {K : PySem.W.Frag} {Z : WX} {W0 W1 W2 W3 : Wd} {σ : L2.St} {ρ ρ2 : List Sl} {i j : Nat} {ta tb tc te : TE} {tt : TT} {tA : TA} {ma mb mc me : W PV} {mt : W Bool} {ms : W (List PV)} {t tu tw : TS} {S S1 S2 : Type} {pat : S → List Sl} {pat1 : S1 → List Sl} {pat2 : S2 → List Sl} {m : W (Fl S)}
theorem En.gone (e : En K W0 W1 σ ρ) : Go K W0 W1 := ⟨e.ok, e.le⟩
theorem MeetsP.x {W : Wd} {D : Ends} {Φ : Fl S → Sto → Prop} {Ξ : XV → Sto → Prop} (q : MeetsP K Z W0 D pat Φ Ξ) (e : En K W0 W σ ρ) : KX K Z σ W Ξ := fun x cls d W2 g h z => q.xc x cls d σ W2 (e.go g).gone h z
theorem gp_seq {k : S → W (Fl S2)} (h : GP K Z ρ t pat m) (h2 : ∀ s, GP K Z (pat s) tu pat2 (k s)) : GP K Z ρ (tSeq t tu) pat2 (bindF m k) := fun W0 W σ D e Φ Ξ hm q =>
  h W0 W σ _ e _ _ hm ⟨fun W2 σ2 s e2 z => h2 s W0 W2 σ2 D e2 _ _ z q, fun r v W2 a b z => q.rt r v W2 a b z, q.xc⟩
theorem gp_next {s : S} (h : pat s = ρ) : GP K Z ρ tNext pat (ret (.nx s)) := fun W0 W σ D e Φ Ξ hm q => q.nx W σ s (h ▸ e) hm
theorem gp_asg {k : PV → W (Fl S)} (he : EP K Z ρ te me) (h : ∀ a, GP K Z (ρ.set i (.val a)) t pat (k a)) (hi : Nat.blt i ρ.length = true := by rfl) : GP K Z ρ (tSeq (tAsg te (gName i)) t) pat (bind me k) := fun W0 W σ D e Φ Ξ hm q =>
  he W0 W σ e _ _ _ hm (fun a v W2 g p z => h a W0 W2 _ D ((e.go g).setV p (Nat.le_of_ble_eq_true hi)) _ _ z q) (q.x e)
theorem gp_asg1 (he : EP K Z ρ te me) {f : PV → S} (h : ∀ a, pat (f a) = ρ.set i (.val a)) (hi : Nat.blt i ρ.length = true := by rfl) : GP K Z ρ (tAsg te (gName i)) pat (bind me fun a => ret (.nx (f a))) := fun W0 W σ D e Φ Ξ hm q =>
  he W0 W σ e _ _ _ hm (fun a v W2 g p z => q.nx W2 _ (f a) (h a ▸ (e.go g).setV p (Nat.le_of_ble_eq_true hi)) z) (q.x e)
theorem gp_own {k : List PV → W (Fl S)} {me : W (List PV)} (he : EO K Z ρ te me) (h : ∀ as, GP K Z (ρ.set i (.own as)) t pat (k as)) (hi : Nat.blt i ρ.length = true := by rfl) : GP K Z ρ (tSeq (tAsg te (gName i)) t) pat (bind me k) := fun W0 W σ D e Φ Ξ hm q =>
  he W0 W σ e _ _ _ hm (fun as v W2 g r z => h as W0 W2 _ D (e.setO g r (Nat.le_of_ble_eq_true hi)) _ _ z q) (q.x e)
def lessS : List Sl → List Sl → Prop
  | [], [] => True
  | a :: as, b :: bs => (b = .un ∨ a = b) ∧ lessS as bs
  | _, _ => False
theorem lessS_len : ∀ {as bs : List Sl}, lessS as bs → bs.length = as.length
  | [], [], _ => rfl
  | _ :: _, _ :: _, h => congrArg Nat.succ (lessS_len h.2)
  | [], _ :: _, h => h.elim
  | _ :: _, [], h => h.elim
theorem lessS_get : ∀ {as bs : List Sl} {i : Nat} {s : Sl}, lessS as bs → bs[i]? = some s → s = .un ∨ as[i]? = some s
  | [], [], _, _, _, e => by simp at e
  | a :: as, b :: bs, 0, s, h, e => by
    have e' := Option.some.inj e
    subst e'
    rcases h.1 with h | h
    · exact .inl h
    · exact .inr (by rw [h]; rfl)
  | a :: as, b :: bs, i + 1, s, h, e => lessS_get (i := i) h.2 (by simpa using e)
  | [], _ :: _, _, _, h, _ => h.elim
  | _ :: _, [], _, _, h, _ => h.elim
theorem En.lessS (e : En K W0 W1 σ ρ) (hl : lessS ρ ρ2) : En K W0 W1 σ ρ2 := e.less (lessS_len hl) fun i s hs => lessS_get hl hs
theorem gp_less (hl : lessS ρ ρ2) (h : GP K Z ρ2 t pat m) : GP K Z ρ t pat m := fun W0 W σ D e Φ Ξ hm q => h W0 W σ D (e.lessS hl) Φ Ξ hm q
theorem g_last {m : W (Fl S1)} (f : S1 → S) (hl : ∀ s, SL.lessS (pat1 s) (pat (f s))) (h : GP K Z ρ t pat1 m) : GP K Z ρ t pat (bindF m fun s => ret (.nx (f s))) := fun W0 W σ D e Φ Ξ hm q =>
  h W0 W σ D e _ _ hm ⟨fun W σ s e z => q.nx W σ (f s) (e.lessS (hl s)) z, fun r v W a b z => q.rt r v W a b z, q.xc⟩
theorem gp_drop {k : W (Fl S)} (he : EP K Z ρ te me) (h : GP K Z ρ t pat k) : GP K Z ρ (tSeq (tDrop te) t) pat (bind me fun _ => k) := fun W0 W σ D e Φ Ξ hm q =>
  he W0 W σ e _ _ _ hm (fun a v W2 g p z => h W0 W2 σ D (e.go g) _ _ z q) (q.x e)
theorem gp_ret (he : EP K Z ρ te me) : GP K Z ρ (tRet te) pat (bind me fun a => ret (.rt (.v a))) := fun W0 W σ D e Φ Ξ hm q =>
  he W0 W σ e _ _ _ hm (fun a v W2 g p z => q.rt (.v a) v W2 (e.go g).gone p z) (q.x e)
theorem gp_retO {me : W (List PV)} (he : EO K Z ρ te me) : GP K Z ρ (tRet te) pat (bind me fun as => ret (.rt (.o as))) := fun W0 W σ D e Φ Ξ hm q =>
  he W0 W σ e _ _ _ hm (fun as v W2 g r z => q.rt (.o as) v W2 (e.go g).gone (ROk.base e r) z) (q.x e)
theorem gp_retV {as : List PV} (h : ρ[i]? = some (.own as)) : GP K Z ρ (tRet (tVar i)) pat (ret (.rt (.o as))) := fun W0 W σ D e Φ Ξ hm q => by
  obtain ⟨u, h1, p, rfl, h2, h3⟩ := e.sl i _ h
  exact ⟨_, h1, q.rt (.o as) _ W e.gone ⟨p, rfl, h2, h3⟩ hm⟩
theorem gp_if {m1 m2 : W (Fl S)} (ht : TP K Z ρ tt mt) (h1 : GP K Z ρ tu pat m1) (h2 : GP K Z ρ tw pat m2) : GP K Z ρ (tIfS tt tu tw) pat (bind mt fun b => if b = true then m1 else m2) := fun W0 W σ D e Φ Ξ hm q =>
  ht W0 W σ e _ _ _ hm (fun b W2 g z => by
    cases b with
    | true => exact h1 W0 W2 σ D (e.go g) _ _ z q
    | false => exact h2 W0 W2 σ D (e.go g) _ _ z q) (q.x e)
/-- if t: (what never goes on), what follows -/
theorem gp_when {m1 : W (Fl Empty)} {m2 : W (Fl S)} {pe : Empty → List Sl} (ht : TP K Z ρ tt mt) (h1 : GP K Z ρ tu pe m1) (h2 : GP K Z ρ t pat m2) : GP K Z ρ (tSeq (tIfS tt tu tNext) t) pat (bind mt fun b => if b = true then bindF m1 (fun s => s.elim) else m2) := fun W0 W σ D e Φ Ξ hm q =>
  ht W0 W σ e _ _ _ hm (fun b W2 g z => by
    cases b with
    | true => exact h1 W0 W2 σ _ (e.go g) _ _ z ⟨fun _ _ s => s.elim, fun r v W2 a b z => q.rt r v W2 a b z, q.xc⟩
    | false => exact h2 W0 W2 σ D (e.go g) _ _ z q) (q.x e)
/-- what never comes -/
theorem gp_no : GP K Z ρ (fun _ _ _ => False) pat fail := fun W0 W σ D e Φ Ξ hm q => hm.elim
def two : List PV → Option (PV × PV)
  | [a, b] => some (a, b)
  | _ => none
theorem g_par2L {pat : PV × PV → List Sl} (he : VP K Z ρ tA ms) (h : ∀ x, pat x = (ρ.set i (.val x.1)).set j (.val x.2)) (hi : Nat.blt i ρ.length = true := by rfl) (hj : Nat.blt j ρ.length = true := by rfl) : GP K Z ρ (tPar i j tA) pat (bind ms fun as => bind (lift (two as)) fun x => ret (.nx x)) := fun W0 W σ D e Φ Ξ hm q =>
  he W0 W σ e _ _ _ hm (fun as vs W2 g al ⟨x, eb, z⟩ => by
    match as, eb with
    | [a, b], eb =>
      cases eb
      obtain ⟨v, w, rfl, p1, p2⟩ := Al.inv2 al
      have e1 := (e.go g).setV (i := i) p1 (Nat.le_of_ble_eq_true hi)
      exact ⟨v, w, rfl, q.nx W2 _ (a, b) (h (a, b) ▸ e1.setV (i := j) p2 (by rw [List.length_set]; exact Nat.le_of_ble_eq_true hj)) z⟩) (q.x e)
/-- x.append(e) of an own list -/
theorem app_core {as : List PV} {Q : VK} {Ψ : List PV → Sto → Prop} {Ξ : XV → Sto → Prop} {W : Wd} (e : En K W0 W σ ρ) (h : ρ[i]? = some (.own as)) (he : EP K Z ρ te me) (hm : (bind me fun a => lift (if as.length < 100000 then some (as ++ [a]) else none)) W.s Ψ Ξ)
    (k : ∀ bs W2, En K W0 W2 σ (ρ.set i (.own bs)) → Ψ bs W2.s → Q .non W2.h) (kx : KX K Z σ W Ξ) : tBM K "list" rAppend (tVar i) (tCons te tNil) σ W.h Q := by
  obtain ⟨u, h1, p, rfl, h2, vs, h3, h4, h5, h6⟩ := e.sl i _ h
  refine ⟨_, h1, .inl ⟨rfl, _, SqL.of h3⟩, ?_⟩
  refine he W0 W σ e _ _ _ hm (fun a v W3 g3 p3 ⟨bs, eb, z⟩ => ?_) kx
  split at eb
  · rename_i hl
    cases eb
    have e3 := e.go g3
    obtain ⟨_, us, k3, k4, k5, k6⟩ := e3.own_some h h1
    refine ⟨p, us, v, rfl, rfl, k3, sz_lt (by rw [k6.length, mps_len]; exact hl), ?_⟩
    exact k (as ++ [a]) ⟨W3.r, upd W3.h p (.lst (us ++ [v])), W3.s⟩ (e3.put h h1 (by rw [mps_app]; exact k6.app (Al.one p3))) z
  · cases eb
theorem gp_app1 {f : List PV → S} {as : List PV} (h : ρ[i]? = some (.own as)) (he : EP K Z ρ te me) (hk : ∀ bs, pat (f bs) = ρ.set i (.own bs)) : GP K Z ρ (tDrop (tBM K "list" rAppend (tVar i) (tCons te tNil))) pat (bind me fun a => bind (lift (if as.length < 100000 then some (as ++ [a]) else none)) fun bs => ret (.nx (f bs))) := fun W0 W σ D e Φ Ξ hm q =>
  app_core e h he (Ψ := fun bs S => Φ (.nx (f bs)) S) hm (fun bs W2 e2 z => q.nx W2 σ (f bs) (hk bs ▸ e2) z) (q.x e)
end
end SL
namespace SL
open PySem PySem.Spec PyProof.Rows L2 Evl NF WL
variable [PW]
abbrev Bd := List (Nat × PV)
def setV : L2.St → Bd → List V → L2.St
  | σ, (j, _) :: L, v :: vs => setV (σ.set j (some v)) L vs
  | σ, _, _ => σ
def setS : List Sl → Bd → List Sl
  | ρ, (j, a) :: L => setS (ρ.set j (.val a)) L
  | ρ, [] => ρ
def wipeS (ρ : List Sl) : List Nat → List Sl
  | [] => ρ
  | v :: vs => (wipeS ρ vs).set v .un
def fitS (L : Bd) (n : Nat) : Bool := L.all fun x => Nat.blt x.1 n
def fitC (L : Bd) (n : Nat) (vs : List Nat) : Bool := L.all fun x => Nat.blt x.1 n && vs.any fun v => Nat.beq x.1 v
theorem fitS_ok {L : Bd} {n : Nat} (h : fitS L n = true) : ∀ x ∈ L, x.1 < n := fun x hx => Nat.le_of_ble_eq_true (List.all_eq_true.mp h x hx)
theorem fitC_ok {L : Bd} {n : Nat} {vs : List Nat} (h : fitC L n vs = true) : ∀ x ∈ L, x.1 < n ∧ x.1 ∈ vs := fun x hx => by
  have h1 := List.all_eq_true.mp h x hx
  rw [Bool.and_eq_true] at h1
  obtain ⟨v, hv, e⟩ := List.any_eq_true.mp h1.2
  rw [Nat.eq_of_beq_eq_true e]
  exact ⟨by rw [← Nat.eq_of_beq_eq_true e]; exact Nat.le_of_ble_eq_true h1.1, hv⟩
theorem wipeS_len : ∀ (vs : List Nat) (ρ : List Sl), (wipeS ρ vs).length = ρ.length
  | [], _ => rfl
  | v :: vs, ρ => by rw [wipeS, List.length_set, wipeS_len vs]
theorem setV_len : ∀ (L : Bd) (σ : L2.St) (vs : List V), (setV σ L vs).length = σ.length
  | [], _, _ => by simp [setV]
  | _ :: _, _, [] => by simp [setV]
  | (j, P) :: L, σ, v :: vs => by rw [setV, setV_len L, List.length_set]
theorem setV_get : ∀ {L : Bd} {σ : L2.St} {us : List V} {i : Nat}, (∀ x ∈ L, x.1 ≠ i) → (setV σ L us)[i]? = σ[i]?
  | [], _, _, _, _ => by simp [setV]
  | _ :: _, _, [], _, _ => by simp [setV]
  | (j, P) :: L, σ, v :: vs, i, h => by
    rw [setV, setV_get fun x hx => h x (List.mem_cons_of_mem _ hx), List.getElem?_set_ne (h (j, P) (List.mem_cons_self ..))]
theorem setV_app : ∀ (L1 L2' : Bd) (σ : L2.St) (us ws : List V), us.length = L1.length → setV (setV σ L1 us) L2' ws = setV σ (L1 ++ L2') (us ++ ws)
  | [], _, _, [], _, _ => rfl
  | [], _, _, _ :: _, _, h => by cases h
  | _ :: _, _, _, [], _, h => by cases h
  | (j, P) :: L1, L2', σ, u :: us, ws, h => setV_app L1 L2' (σ.set j (some u)) us ws (by simpa using h)
theorem wipeLen : ∀ (vs : List Nat) (σ : L2.St), (L2.wipe σ vs).length = σ.length
  | [], _ => rfl
  | v :: vs, σ => by
    show ((L2.wipe σ vs).set v none).length = _
    rw [List.length_set, wipeLen vs]
theorem wipe_sets {L : Bd} {vs : List Nat} {σ : L2.St} {us : List V} (h : ∀ x ∈ L, x.1 ∈ vs) : L2.wipe (setV (L2.wipe σ vs) L us) vs = L2.wipe σ vs := by
  apply List.ext_getElem?
  intro i
  rw [wipe_get, wipe_get]
  by_cases c : i ∈ vs
  · rw [if_pos c, if_pos c, setV_len, wipeLen]
  · rw [if_neg c, if_neg c, setV_get (i := i) fun x hx z => c (by rw [← z]; exact h x hx), wipe_get, if_neg c]
section
variable {K : PySem.W.Frag} {W0 W W1 W2 W3 : Wd} {σ : L2.St} {ρ : List Sl} {i : Nat}
theorem En.sets : ∀ {L : Bd} {σ : L2.St} {ρ : List Sl} {vs : List V}, En K W0 W σ ρ → (∀ x ∈ L, x.1 < ρ.length) → Al W.r vs (mps K (L.map (·.2))) → En K W0 W (SL.setV σ L vs) (setS ρ L)
  | [], _, _, _, e, _, .nil => e
  | (j, a) :: L, σ, ρ, _, e, h, .cons (v := v) (vs := vs) p t => by
    have e1 : En K W0 W (σ.set j (some v)) (ρ.set j (.val a)) := e.setV p (h (j, a) (List.mem_cons_self ..))
    exact En.sets (L := L) e1 (fun x hx => by rw [List.length_set]; exact h x (List.mem_cons_of_mem _ hx)) t
theorem En.wipe1 (e : En K W0 W σ ρ) : En K W0 W (σ.set i none) (ρ.set i .un) := by
  refine ⟨e.ok, e.le, by rw [List.length_set, List.length_set]; exact e.len, fun k s hk => ?_, fun k l as bs p n h1 h2 k1 k2 => ?_⟩
  · by_cases c : i = k
    · subst c
      have hl : i < (ρ.set i Sl.un).length := (List.getElem?_eq_some_iff.mp hk).1
      rw [List.length_set] at hl
      rw [List.getElem?_set_self hl] at hk
      cases hk
      exact ⟨none, List.getElem?_set_self (by rw [e.len]; exact hl), trivial⟩
    · rw [List.getElem?_set_ne c] at hk
      rw [List.getElem?_set_ne c]
      exact e.sl k s hk
  · have c1 : i ≠ k := fun c => by
      subst c
      have hl : i < (ρ.set i Sl.un).length := (List.getElem?_eq_some_iff.mp h1).1
      rw [List.length_set] at hl
      rw [List.getElem?_set_self hl] at h1
      cases h1
    have c2 : i ≠ l := fun c => by
      subst c
      have hl : i < (ρ.set i Sl.un).length := (List.getElem?_eq_some_iff.mp h2).1
      rw [List.length_set] at hl
      rw [List.getElem?_set_self hl] at h2
      cases h2
    rw [List.getElem?_set_ne c1] at h1 k1
    rw [List.getElem?_set_ne c2] at h2 k2
    exact e.ne k l as bs p n h1 h2 k1 k2
theorem En.wipe : ∀ (vs : List Nat), En K W0 W σ ρ → En K W0 W (L2.wipe σ vs) (wipeS ρ vs)
  | [], e => e
  | _ :: vs, e => (En.wipe vs e).wipe1
end
section
variable {K : PySem.W.Frag} {W0 W W1 W2 W3 : Wd} {σ : L2.St} {ρ : List Sl} {i : Nat}
theorem En.up (e : En K W0 W σ ρ) : En K ⟨W.r, W0.h, W0.s⟩ W σ ρ := ⟨e.ok, ⟨Ex.refl _, e.le.h, fun _ _ _ _ h _ => h, e.le.d, e.le.n⟩, e.len, e.sl, e.ne⟩
theorem Le.down (a : Le W0 W1) (b : Le ⟨W1.r, W0.h, W0.s⟩ W2) : Le W0 W2 := ⟨a.r.trans b.r, b.h, fun p o h t e n => b.w p o h t (a.w p o h t e n) n, b.d, b.n⟩
theorem Go.down (b : Go K ⟨W1.r, W0.h, W0.s⟩ W2) (a : Le W0 W1) : Go K W0 W2 := ⟨b.ok, a.down b.le⟩
theorem En.down (e : En K ⟨W1.r, W0.h, W0.s⟩ W2 σ ρ) (a : Le W0 W1) : En K W0 W2 σ ρ := ⟨e.ok, a.down e.le, e.len, fun i s hs => (e.sl i s hs).imp fun u ⟨h1, h2⟩ => ⟨h1, by
  cases s with
  | un => exact h2
  | val a => exact h2
  | own as => exact h2⟩, e.ne⟩
end
def TgP (K : PySem.W.Frag) {A : Type} (g : TG) (f : PV → Option A) (bd : A → Bd) : Prop := ∀ a x, f a = some x → ∀ (R H : Hp) v σ (Q : L2.St → Hp → Prop), Ex R H → (mp K a).p R v → (∀ vs, Al R vs (mps K ((bd x).map (·.2))) → Q (setV σ (bd x) vs) H) → g v σ H Q
def ItP (K : PySem.W.Frag) (J : It) (W : Wd) (as : List PV) : Prop :=
  (∀ (i : Nat) (W1 : Wd), Ex W.r W1.r → Ok K W1 → as.length = i → J.stop i W1.h) ∧ (∀ (i : Nat) (W1 : Wd), Ex W.r W1.r → Ok K W1 → i < as.length → J.go i W1.h) ∧
  ∀ (i : Nat) (W1 : Wd) x H', Ex W.r W1.r → Ok K W1 → i < as.length → J.yld i W1.h x H' → ∃ W2 a, W2.h = H' ∧ W2.s = W1.s ∧ Go K W1 W2 ∧ as[i]? = some a ∧ (mp K a).p W2.r x
def WkP (K : PySem.W.Frag) (Z : WX) (ρ : List Sl) (wi : TI) (m : W (List PV)) : Prop := ∀ W0 W σ, En K W0 W σ ρ → ∀ (R : It → Hp → Prop) Ψ Ξ, m W.s Ψ Ξ → (∀ J W2 as, Go K W W2 → ItP K J W2 as → Ψ as W2.s → R J W2.h) → KX K Z σ W Ξ → wi σ W.h R
def asL : PV → Option (List PV)
  | .lst as => some as
  | _ => none
def rngL : List PV → Option (List PV)
  | [.int n] => if -(2 ^ 60) < n ∧ n < 2 ^ 60 then some ((List.range n.toNat).map fun i : Nat => .int (i : Int)) else none
  | _ => none
def enumF : Nat → List PV → List PV
  | _, [] => []
  | k, a :: as => .tup [.int (k : Int), a] :: enumF (k + 1) as
def enumL : List PV → Option (List PV)
  | [.lst as] => some (enumF 0 as)
  | _ => none
def zipF : List PV → List PV → List PV
  | a :: as, b :: bs => .tup [a, b] :: zipF as bs
  | _, _ => []
def zipL : List PV → Option (List PV)
  | [.lst as, .lst bs] => some (zipF as bs)
  | _ => none
theorem enumF_len : ∀ (k : Nat) (as : List PV), (enumF k as).length = as.length
  | _, [] => rfl
  | k, _ :: as => congrArg Nat.succ (enumF_len (k + 1) as)
theorem enumF_get : ∀ (k : Nat) (as : List PV) (i : Nat) (a : PV), as[i]? = some a → (enumF k as)[i]? = some (.tup [.int ((k + i : Nat) : Int), a])
  | _, [], _, _, h => by simp at h
  | k, b :: as, 0, a, h => by
    have e := Option.some.inj h
    subst e
    rfl
  | k, b :: as, i + 1, a, h => by
    have := enumF_get (k + 1) as i a (by simpa using h)
    rw [show k + 1 + i = k + (i + 1) by omega] at this
    exact this
theorem zipF_len : ∀ (as bs : List PV), (zipF as bs).length = min as.length bs.length
  | [], _ => by simp [zipF]
  | _ :: _, [] => by simp [zipF]
  | _ :: as, _ :: bs => by simp [zipF, zipF_len as bs]
theorem zipF_get : ∀ (as bs : List PV) (i : Nat) (a b : PV), as[i]? = some a → bs[i]? = some b → (zipF as bs)[i]? = some (.tup [a, b])
  | [], _, _, _, _, h, _ => by simp at h
  | _ :: _, [], _, _, _, _, h => by simp at h
  | x :: as, y :: bs, 0, a, b, h, h' => by
    have e := Option.some.inj h
    have e' := Option.some.inj h'
    subst e e'
    rfl
  | _ :: as, _ :: bs, i + 1, a, b, h, h' => zipF_get as bs i a b (by simpa using h) (by simpa using h')
section
variable {K : PySem.W.Frag} {Z : WX} {W0 W1 W2 W3 : Wd} {σ : L2.St} {ρ : List Sl} {i j k : Nat} {ta tb tc te tl : TE} {tt : TT} {tA : TA} {ma mb mc me : W PV} {ms : W (List PV)} {mt : W Bool} {t tu tw : TS} {S S2 A B : Type} {pat : S → List Sl} {m : W (Fl S)} {g : TG} {wi : TI} {f : PV → Option A} {bd : A → Bd}
theorem tg_name : TgP K (gName j) some (fun a => [(j, a)]) := fun a x e R H v σ Q _ p q => by
  cases e
  exact q [v] (Al.one p)
def tupF2 {A B : Type} (f : PV → Option A) (h : PV → Option B) : PV → Option (A × B)
  | .tup [a, b] => match f a, h b with
    | some x, some y => some (x, y)
    | _, _ => none
  | _ => none
theorem bd_app {x y : Bd} : mps K ((x ++ y).map (·.2)) = mps K (x.map (·.2)) ++ mps K (y.map (·.2)) := by rw [List.map_append, mps_app]
theorem tg_tup2 {g2 : TG} {f2 : PV → Option B} {bd2 : B → Bd} (h1 : TgP K g f bd) (h2 : TgP K g2 f2 bd2) : TgP K (gTup K 2 (gCons g (gCons g2 gNil))) (tupF2 f f2) (fun x => bd x.1 ++ bd2 x.2) := fun a x e R H v σ Q s p q => by
  match a, e with
  | .tup [a, b], e =>
    simp only [tupF2] at e
    cases c1 : f a with
    | none => rw [c1] at e; cases e
    | some x1 =>
      cases c2 : f2 b with
      | none => rw [c1, c2] at e; cases e
      | some x2 =>
        rw [c1, c2] at e
        cases e
        obtain ⟨pp, vs, rfl, hs, al⟩ := p
        obtain ⟨u, w, rfl, p1, p2⟩ := Al.inv2 al
        refine ⟨pp, _, rfl, ex_t s hs, rfl, u, [w], rfl, h1 a x1 c1 R H u σ _ s p1 fun us al1 => ⟨w, [], rfl, h2 b x2 c2 R H w _ _ s p2 fun ws al2 => ⟨rfl, ?_⟩⟩⟩
        rw [setV_app _ _ _ _ _ (by rw [al1.length, mps_len, List.length_map])]
        exact q (us ++ ws) (by rw [bd_app]; exact al1.app al2)
def itL (me : W PV) : W (List PV) := bind me fun a => lift (asL a)
def itR (ms : W (List PV)) : W (List PV) := bind ms fun as => lift (rngL as)
def itE (ms : W (List PV)) : W (List PV) := bind ms fun as => lift (enumL as)
def itZ (ms : W (List PV)) : W (List PV) := bind ms fun as => lift (zipL as)
theorem w_list (h : EP K Z ρ tl me) : WkP K Z ρ (iList K tl) (itL me) := fun W0 W σ e R Ψ Ξ hm kk kx =>
  h W0 W σ e _ _ _ hm (fun a v W2 g p ⟨as, ea, z⟩ => by
    match a, ea with
    | .lst as', ea =>
      cases ea
      obtain ⟨p, vs, rfl, hp0, al⟩ := p
      have hp : SqL K W2.r p vs := SqL.of hp0
      have sq : ∀ {W1 : Wd}, Ex W2.r W1.r → Ok K W1 → SqL K W1.h p vs := fun a b => ex_l (a.trans b.sub) hp
      have ll : vs.length = as.length := by rw [al.length, mps_len]
      refine ⟨p, rfl, ⟨vs, ex_l g.ok.sub hp⟩, kk _ W2 as g ⟨fun i W1 a b h => ⟨vs, sq a b, by rw [ll]; exact Nat.le_of_eq h⟩, fun i W1 a b h => ⟨vs, _, sq a b, List.getElem?_eq_getElem (by rw [ll]; exact h)⟩, fun i W1 x H' a b hi y => ?_⟩ z⟩
      obtain ⟨rfl, y⟩ := y
      obtain ⟨P, hP, px⟩ := al.getV (y vs (sq a b))
      have hi' : as[i]? = some as[i] := List.getElem?_eq_getElem hi
      rw [mps_get hi'] at hP
      cases hP
      exact ⟨W1, as[i], rfl, rfl, Go.id b, hi', MP.mono _ a px⟩) kx
theorem w_range (h : VP K Z ρ tA ms) : WkP K Z ρ (iRng1 tA) (itR ms) := fun W0 W σ e R Ψ Ξ hm kk kx =>
  h W0 W σ e _ _ _ hm (fun as vs W2 g al ⟨bs, eb, z⟩ => by
    match as, eb with
    | [.int n], eb =>
      simp only [rngL] at eb
      split at eb
      · rename_i hn
        cases eb
        obtain ⟨v, rfl, pv⟩ := Al.inv1 al
        cases pv
        have l0 : ((List.range n.toNat).map fun i : Nat => PV.int (i : Int)).length = n.toNat := by simp
        refine ⟨n, rfl, by omega, by omega, kk _ W2 _ g ⟨fun i W1 _ _ h => by rw [l0] at h; exact Nat.le_of_eq h, fun i W1 _ _ h => by rw [l0] at h; exact h, fun i W1 x H' a b hi y => ?_⟩ z⟩
        obtain ⟨rfl, rfl⟩ := y
        rw [l0] at hi
        refine ⟨W1, .int (i : Int), rfl, rfl, Go.id b, by simp [hi], ?_⟩
        show V.int (0 + (i : Int)) = .int (i : Int)
        rw [Int.zero_add]
      · cases eb) kx
theorem w_enum (h : VP K Z ρ tA ms) : WkP K Z ρ (iEnum K tA) (itE ms) := fun W0 W σ e R Ψ Ξ hm kk kx =>
  h W0 W σ e _ _ _ hm (fun as vs W2 g al ⟨bs, eb, z⟩ => by
    match as, eb with
    | [.lst as'], eb =>
      cases eb
      obtain ⟨v, rfl, p, us, rfl, hp0, al⟩ := Al.inv1 al
      have hp : SqL K W2.r p us := SqL.of hp0
      have sq : ∀ {W1 : Wd}, Ex W2.r W1.r → Ok K W1 → SqL K W1.h p us := fun a b => ex_l (a.trans b.sub) hp
      have ll : us.length = as'.length := by rw [al.length, mps_len]
      have l0 := enumF_len 0 as'
      refine ⟨p, us, rfl, ex_l g.ok.sub hp, kk _ W2 _ g ⟨fun i W1 a b h => ⟨us, sq a b, by rw [ll, ← l0]; exact Nat.le_of_eq h⟩, fun i W1 a b h => ⟨us, _, sq a b, List.getElem?_eq_getElem (by rw [ll, ← l0]; exact h)⟩, fun i W1 x H' a b hi y => ?_⟩ z⟩
      obtain ⟨T, y, rfl, nT, rfl, fy⟩ := y
      rw [l0] at hi
      obtain ⟨P, hP, px⟩ := al.getV (fy us (sq a b))
      have hi' : as'[i]? = some as'[i] := List.getElem?_eq_getElem hi
      rw [mps_get hi'] at hP
      cases hP
      have gr := new_set (u := .tup [.int (i : Int), y]) b nT
      refine ⟨⟨upd W1.r T (.tup [.int (i : Int), y]), upd W1.h T (.tup [.int (i : Int), y]), W1.s⟩, _, rfl, rfl, gr, enumF_get 0 as' i _ hi', T, _, rfl, SqT.of upd_same, .cons ?_ (Al.one (MP.mono _ gr.le.r (MP.mono _ a px)))⟩
      show V.int (i : Int) = .int ((0 + i : Nat) : Int)
      rw [Nat.zero_add]) kx
/-- a, b = e -/
theorem gp_unpack {k : A → W (Fl S)} (he : EP K Z ρ te me) (hg : TgP K g f bd) (h : ∀ x, fitS (bd x) ρ.length = true ∧ GP K Z (setS ρ (bd x)) t pat (k x)) : GP K Z ρ (tSeq (tAsg te g) t) pat (bind me fun a => bind (lift (f a)) k) := fun W0 W σ D e Φ Ξ hm q =>
  he W0 W σ e _ _ _ hm (fun a v W2 g2 p ⟨x, ex, z⟩ => hg a x ex W2.r W2.h v σ _ g2.ok.sub p fun vs al => (h x).2 W0 W2 _ D ((e.go g2).sets (fitS_ok (h x).1) al) _ _ z q) (q.x e)
def forW {S A : Type} (f : PV → Option A) (F : A → S → W (Fl S)) : List PV → S → W (Fl S)
  | [], s => ret (.nx s)
  | a :: l, s => bind (lift (f a)) fun x => bindF (F x s) (forW f F l)
theorem gp_for {F : A → S → W (Fl S)} {s0 : S} {mi : W (List PV)} (hw : WkP K Z ρ wi mi) (hg : TgP K g f bd) (h0 : lessS ρ (pat s0)) (h : ∀ x s, fitS (bd x) (pat s).length = true ∧ GP K Z (setS (pat s) (bd x)) t pat (F x s)) : GP K Z ρ (tFor wi g t) pat (bind mi fun as => forW f F as s0) := fun W0 W σ D e Φ Ξ hm q =>
  hw W0 W σ e _ _ _ hm (fun J W3 as g3 T z => by
    have e3 := (e.go g3).lessS h0
    have up : ∀ {W' σ' s}, En K ⟨W3.r, W0.h, W0.s⟩ W' σ' (pat s) → En K W0 W' σ' (pat s) := fun e' => e'.down e3.le
    refine ⟨fun i m σ' H' => m = as.length - i ∧ i ≤ as.length ∧ ∃ W' s, W'.h = H' ∧ En K ⟨W3.r, W0.h, W0.s⟩ W' σ' (pat s) ∧ forW f F (as.drop i) s W'.s Φ Ξ, ⟨_, rfl, Nat.zero_le _, W3, s0, rfl, e3.up, z⟩, ?_⟩
    rintro i m' σ' H' ⟨rfl, hi, W', s, rfl, e', z⟩
    by_cases hlt : i < as.length
    · refine .inr ⟨T.2.1 i W' e'.le.r e'.ok hlt, fun σ' H' => ∃ W' s, W'.h = H' ∧ En K ⟨W3.r, W0.h, W0.s⟩ W' σ' (pat s) ∧ forW f F (as.drop (i + 1)) s W'.s Φ Ξ, fun σ2 H2 z => ⟨as.length - (i + 1), by omega, rfl, hlt, z⟩, fun x H2 y => ?_⟩
      obtain ⟨W4, a, rfl, es, gr, ha, pa⟩ := T.2.2 i W' x H2 e'.le.r e'.ok hlt y
      rw [List.drop_eq_getElem_cons hlt] at z
      have ea : as[i] = a := Option.some.inj ((List.getElem?_eq_getElem hlt).symm.trans ha)
      rw [ea, ← es] at z
      obtain ⟨y, ey, z⟩ := z
      refine hg a y ey W4.r W4.h x σ' _ gr.ok.sub pa fun vs al => ?_
      obtain ⟨hL, body⟩ := h y s
      have e4 := (e'.go gr).sets (fitS_ok hL) al
      refine body ⟨W3.r, W0.h, W0.s⟩ W4 _ _ e4 _ _ z ⟨fun W σ s e q => ⟨W, s, rfl, e, q⟩, fun r v W g rr z => q.rt r v W (g.down e3.le) ?_ z, fun x cls d σ W g hx z => q.xc x cls d σ W (g.down e3.le) hx z⟩
      cases r with
      | v a => exact rr
      | o as => exact rr
    · have ei : i = as.length := by omega
      subst ei
      rw [List.drop_length] at z
      exact .inl ⟨T.1 _ W' e'.le.r e'.ok rfl, q.nx W' σ' s (up e') z⟩) (q.x e)
def iterW {S : Type} (c : S → W Bool) (F : S → W (Fl S)) : Nat → S → W (Fl S)
  | 0, _ => fail
  | n + 1, s => bind (c s) fun b => if b = true then bindF (F s) (iterW c F n) else ret (.nx s)
def whileW {S : Type} (c : S → W Bool) (F : S → W (Fl S)) (s0 : S) : W (Fl S) := fun S Φ Ξ => ∃ n, iterW c F n s0 S Φ Ξ
theorem gp_while {c : S → W Bool} {F : S → W (Fl S)} {s0 : S} (h0 : lessS ρ (pat s0)) (hc : ∀ s, TP K Z (pat s) tt (c s)) (h : ∀ s, GP K Z (pat s) t pat (F s)) : GP K Z ρ (tWhile tt t) pat (whileW c F s0) := fun W0 W σ D e Φ Ξ hm q => by
  obtain ⟨n, i0⟩ := hm
  have e0 := e.lessS h0
  refine ⟨fun k σ' H' => ∃ W' s, W'.h = H' ∧ En K W0 W' σ' (pat s) ∧ iterW c F k s W'.s Φ Ξ, ⟨n, W, s0, rfl, e0, i0⟩, ?_⟩
  rintro k σ' H' ⟨W', s, rfl, e', z⟩
  cases k with
  | zero => exact z.elim
  | succ k =>
    refine hc s W0 W' σ' e' _ _ _ z (fun b W2 g2 z => ?_) (q.x e')
    cases b with
    | true => exact ⟨fun σ' H' => ∃ W' s, W'.h = H' ∧ En K W0 W' σ' (pat s) ∧ iterW c F k s W'.s Φ Ξ, fun σ' H' ⟨W', s, a, b, d⟩ => ⟨k, Nat.lt_succ_self k, W', s, a, b, d⟩, h s W0 W2 σ' _ (e'.go g2) _ _ z ⟨fun W σ s e q => ⟨W, s, rfl, e, q⟩, fun r v W a b z => q.rt r v W a b z, q.xc⟩⟩
    | false => exact q.nx W2 σ' s (e'.go g2) z
end
end SL
namespace SL
open PySem PySem.Spec PyProof.Rows L2 Evl NF WL
variable [PW]
def lcF {A : Type} (f : PV → Option A) (c : A → W Bool) (F : A → W PV) : List PV → W (List PV)
  | [] => ret []
  | a :: l => bind (lift (f a)) fun x => bind (c x) fun b => if b = true then bind (F x) fun y => bind (lcF f c F l) fun ys => ret (y :: ys) else lcF f c F l
def few (n : Nat) (as : List PV) : Option (List PV) := if as.length ≤ n then some as else none
def lcO {A : Type} (f : PV → Option A) (c : A → W Bool) (F : A → W PV) (mi : W (List PV)) : W (List PV) := bind mi fun as => bind (lift (few 50000 as)) fun as => noX (lcF f c F as)
section
variable {K : PySem.W.Frag} {Z Z' : WX} {W0 Wb W1 W2 W3 : Wd} {σ : L2.St} {ρ : List Sl} {i j k : Nat} {te : TE} {tt tt1 : TT} {A B : Type} {g g1 : TG} {wi wi1 : TI} {f : PV → Option A} {bd : A → Bd} {f1 : PV → Option B} {bd1 : B → Bd}
theorem own_put {D : Addr} {ap bs : List PV} {vs : List V} (g : Go K Wb W1) (hD : Wb.h D = none) (o : OwnOk K W1 D ap) (al : Al W1.r vs (mps K bs)) : Go K Wb ⟨W1.r, upd W1.h D (.lst vs), W1.s⟩ ∧ OwnOk K ⟨W1.r, upd W1.h D (.lst vs), W1.s⟩ D bs := by
  obtain ⟨us, h1, h2, h3, h4⟩ := o
  have st : ∀ q v, q ≠ D → W1.h q = some v → upd W1.h D (.lst vs) q = some v := fun q v e h => by rw [upd_ne e]; exact h
  refine ⟨⟨⟨fun q v hq => st q v (fun z => by rw [z] at hq; rw [show W1.r D = some v from hq] at h2; cases h2) (g.ok.sub _ _ hq), fun q c hc => ?_⟩, g.le.r, fun q v n hq => st q v (fun z => by rw [z, hD] at hq; cases hq) (g.le.h q v n hq), g.le.w, fun q c hq => by
    obtain ⟨v, a, b⟩ := g.le.d q c hq
    by_cases z : q = D
    · subst z
      exact ⟨_, upd_same, rfl⟩
    · exact ⟨v, st q v z a, b⟩, g.le.n⟩, vs, upd_same, h2, h3, al⟩
  have nq : q ≠ D := fun z => by
    have hc' : W1.s q = some c := hc
    rw [z, h3] at hc'
    cases hc'
  have a := (g.ok.cell q c hc).1
  have b := (g.ok.cell q c hc).2
  exact ⟨a, b.stay (Ex.refl _) fun v h => st q v nq h⟩
theorem few_some {n : Nat} {as bs : List PV} (h : few n as = some bs) : as = bs ∧ as.length ≤ n := by
  unfold few at h
  split at h
  · cases h
    exact ⟨rfl, ‹_›⟩
  · cases h
theorem kx0 {σ : L2.St} {W : Wd} : KX K Z σ W fun _ _ => False := fun _ _ _ _ _ _ z => z.elim
/-- one turn of the innermost clause -/
theorem lc_turn {vs : List Nat} {c : A → W Bool} {F : A → W PV} {x : A} {D : Addr} {ap : List PV} {Ψ : List PV → Sto → Prop} {rest : W (List PV)} {W4 : Wd} {us : List V} {Nx : Hp → Prop} (e0 : En K W0 W4 σ ρ) (gW : Go K Wb W4) (hD : Wb.h D = none) (ho : OwnOk K W4 D ap) (hl : ap.length < 100000)
    (hL : fitC (bd x) ρ.length vs = true) (hT : TP K Z' (setS (wipeS ρ vs) (bd x)) tt (c x)) (hE : EP K Z' (setS (wipeS ρ vs) (bd x)) te (F x)) (alu : Al W4.r us (mps K ((bd x).map (·.2))))
    (q : (bind (c x) fun b => if b = true then bind (F x) fun y => bind rest fun ys => ret (y :: ys) else rest) W4.s (fun ys S => Ψ (ap ++ ys) S) fun _ _ => False)
    (nx : ∀ W' ap', Go K Wb W' → Ex W4.r W'.r → OwnOk K W' D ap' → ap'.length ≤ ap.length + 1 → rest W'.s (fun ys S => Ψ (ap' ++ ys) S) (fun _ _ => False) → Nx W'.h) :
    tt (setV (L2.wipe σ vs) (bd x) us) W4.h fun b H3 => if b = true then te (setV (L2.wipe σ vs) (bd x) us) H3 fun y H4 => ∃ acc, H4 D = some (.lst acc) ∧ acc.length < sizeLine ∧ Nx (upd H4 D (.lst (acc ++ [y]))) else Nx H3 := by
  have hL' := fitC_ok hL
  have e4 : En K W0 W4 (setV (L2.wipe σ vs) (bd x) us) (setS (wipeS ρ vs) (bd x)) := (e0.wipe vs).sets (fun x hx => by rw [wipeS_len]; exact (hL' x hx).1) alu
  refine hT W0 W4 _ e4 _ _ _ q (fun b W5 g5 z => ?_) kx0
  cases b with
  | false => exact nx W5 ap (gW.trans g5) g5.le.r (ho.go g5) (by omega) z
  | true =>
    refine hE W0 W5 _ (e4.go g5) _ _ _ z (fun a v W7 g7 p7 hI => ?_) kx0
    have o7 := (ho.go g5).go g7
    obtain ⟨av, h1, h2, h3, h4⟩ := id o7
    obtain ⟨G8, o8⟩ := own_put (bs := ap ++ [a]) (vs := av ++ [v]) ((gW.trans g5).trans g7) hD o7 (by rw [mps_app]; exact h4.app (Al.one p7))
    refine ⟨av, h1, sz_lt (by rw [h4.length, mps_len]; exact hl), nx _ _ G8 (g5.le.r.trans g7.le.r) o8 (by simp) ?_⟩
    have hI' : rest W7.s (fun ys S => Ψ (ap ++ (a :: ys)) S) (fun _ _ => False) := hI
    simpa using hI'
theorem o_lc {vs : List Nat} {c : A → W Bool} {F : A → W PV} {mi : W (List PV)} (hw : WkP K Z ρ wi mi) (hg : TgP K g f bd) (hb : ∀ x, fitC (bd x) ρ.length vs = true ∧ TP K Z' (setS (wipeS ρ vs) (bd x)) tt (c x) ∧ EP K Z' (setS (wipeS ρ vs) (bd x)) te (F x)) :
    EO K Z ρ (tLc wi g tt te vs) (lcO f c F mi) := fun W0 W σ e Q Ψ Ξ hm kk kx => hw W0 W σ e _ _ _ hm (fun J W2 as g2 T z => by
  obtain ⟨as', ea, z⟩ := z
  obtain ⟨rfl, hn⟩ := few_some ea
  intro Dl hD
  have e2 := e.go g2
  refine ⟨fun i m H' => m = as.length - i ∧ i ≤ as.length ∧ ∃ W' ap, W'.h = H' ∧ Go K W2 W' ∧ OwnOk K W' Dl ap ∧ ap.length ≤ i ∧ lcF f c F (as.drop i) W'.s (fun ys S => Ψ (ap ++ ys) S) (fun _ _ => False), ⟨_, rfl, Nat.zero_le _, ?_⟩, ?_⟩
  · obtain ⟨W3, e1, e3, g3, p, e4, _, o3⟩ := e_new (as := []) e2.ok hD .nil
    cases e4
    exact ⟨W3, [], e1, g3, o3, Nat.le_refl _, by rw [e3]; exact z⟩
  · rintro i m' H' ⟨rfl, hi, W', ap, rfl, g', ho, hlen, q⟩
    have e' := e2.go g'
    by_cases hlt : i < as.length
    · refine .inr ⟨T.2.1 i W' g'.le.r g'.ok hlt, fun H' => ∃ W' ap, W'.h = H' ∧ Go K W2 W' ∧ OwnOk K W' Dl ap ∧ ap.length ≤ i + 1 ∧ lcF f c F (as.drop (i + 1)) W'.s (fun ys S => Ψ (ap ++ ys) S) (fun _ _ => False), fun H2 z => ⟨as.length - (i + 1), by omega, rfl, hlt, z⟩, fun x H2 y => ?_⟩
      obtain ⟨W4, a, rfl, es, gr, ha, pa⟩ := T.2.2 i W' x H2 g'.le.r g'.ok hlt y
      rw [List.drop_eq_getElem_cons hlt] at q
      have ea : as[i] = a := Option.some.inj ((List.getElem?_eq_getElem hlt).symm.trans ha)
      rw [ea, ← es] at q
      obtain ⟨y, ey, q⟩ := q
      refine hg a y ey W4.r W4.h x (L2.wipe σ vs) _ gr.ok.sub pa fun us alu => ?_
      obtain ⟨hL, hT, hE⟩ := hb y
      refine ⟨wipe_sets fun x hx => (fitC_ok hL x hx).2, ?_⟩
      exact lc_turn (e'.go gr) (g'.trans gr) hD (ho.go gr) (by omega) hL hT hE alu q fun W5 ap5 g5 _ o5 l5 r5 => ⟨W5, ap5, rfl, g5, o5, by omega, r5⟩
    · have ei : i = as.length := by omega
      subst ei
      rw [List.drop_length] at q
      have q' : Ψ (ap ++ []) W'.s := q
      rw [List.append_nil] at q'
      exact .inl ⟨T.1 _ W' g'.le.r g'.ok rfl, kk ap _ W' (g2.trans g') ⟨Dl, rfl, g2.le.fresh g2.ok hD, ho⟩ q'⟩) kx
end
end SL
namespace SL
open PySem PySem.Spec PyProof.Rows L2 Evl NF WL
variable [PW]
def spW (K : PySem.W.Frag) (F : List PV → W RV) : Sp := fun vs H Q E => ∃ (Wa : Wd) (as : List PV) (Ψ : RV → Sto → Prop) (Ξ : XV → Sto → Prop), Wa.h = H ∧ Ok K Wa ∧ Al Wa.r vs (mps K as) ∧ F as Wa.s Ψ Ξ ∧
  (∀ r v W2, Go K Wa W2 → RRk K Wa W2 v r → Ψ r W2.s → Q v W2.h) ∧ ∀ x cls d W2, Go K Wa W2 → XOk K W2.r cls d x → Ξ x W2.s → E cls d W2.h
def ar0 (F : W RV) : List PV → W RV
  | [] => F 
  | _ => fail
def ar1 (F : PV → W RV) : List PV → W RV
  | [a] => F a
  | _ => fail
theorem ar1_inv {F : PV → W RV} {as : List PV} {S Ψ Ξ} (h : ar1 F as S Ψ Ξ) : ∃ a, as = [a] ∧ F a S Ψ Ξ := by
  unfold ar1 at h
  split at h
  · exact ⟨_, rfl, h⟩
  · exact h.elim
theorem le_ar1 {F : PV → W RV} : ∀ as S Ψ Ξ, ar1 F as S Ψ Ξ → as.length = 1 := fun as S Ψ Ξ h => by
  obtain ⟨_, rfl, _⟩ := ar1_inv h
  rfl
def ar2 (F : PV → PV → W RV) : List PV → W RV
  | [a, b] => F a b
  | _ => fail
theorem ar2_inv {F : PV → PV → W RV} {as : List PV} {S Ψ Ξ} (h : ar2 F as S Ψ Ξ) : ∃ a b, as = [a, b] ∧ F a b S Ψ Ξ := by
  unfold ar2 at h
  split at h
  · exact ⟨_, _, rfl, h⟩
  · exact h.elim
theorem le_ar2 {F : PV → PV → W RV} : ∀ as S Ψ Ξ, ar2 F as S Ψ Ξ → as.length = 2 := fun as S Ψ Ξ h => by
  obtain ⟨_, _, rfl, _⟩ := ar2_inv h
  rfl
def ar3 (F : PV → PV → PV → W RV) : List PV → W RV
  | [a, b, c] => F a b c
  | _ => fail
theorem ar3_inv {F : PV → PV → PV → W RV} {as : List PV} {S Ψ Ξ} (h : ar3 F as S Ψ Ξ) : ∃ a b c, as = [a, b, c] ∧ F a b c S Ψ Ξ := by
  unfold ar3 at h
  split at h
  · exact ⟨_, _, _, rfl, h⟩
  · exact h.elim
theorem le_ar3 {F : PV → PV → PV → W RV} : ∀ as S Ψ Ξ, ar3 F as S Ψ Ξ → as.length = 3 := fun as S Ψ Ξ h => by
  obtain ⟨_, _, _, rfl, _⟩ := ar3_inv h
  rfl
def ar4 (F : PV → PV → PV → PV → W RV) : List PV → W RV
  | [a, b, c, d] => F a b c d
  | _ => fail
def ar5 (F : PV → PV → PV → PV → PV → W RV) : List PV → W RV
  | [a, b, c, d, e] => F a b c d e
  | _ => fail
/-- what was made within a call and is kept by nobody is forgotten -/
def cutS (S S2 : Sto) : Sto := fun p => if (S p).isSome = true then S2 p else none
def scopeW {α : Type} (m : W α) : W α := fun S Ψ Ξ => m S (fun r S2 => Ψ r (cutS S S2)) (fun x S2 => Ξ x (cutS S S2))
theorem cutS_none {S S2 : Sto} {p : Addr} (h : S2 p = none) : cutS S S2 p = none := by
  unfold cutS
  split
  · exact h
  · rfl
theorem cut_go {K : PySem.W.Frag} {Wa W2 : Wd} (g : Go K Wa W2) : Go K Wa ⟨W2.r, W2.h, cutS Wa.s W2.s⟩ := by
  refine ⟨⟨g.ok.sub, fun p c h => ?_⟩, g.le.r, g.le.h, g.le.w, g.le.d, fun p c h n => ?_⟩
  · have h' : cutS Wa.s W2.s p = some c := h
    unfold cutS at h'
    split at h'
    · exact g.ok.cell p c h'
    · cases h'
  · have h' : cutS Wa.s W2.s p = some c := h
    unfold cutS at h'
    rw [if_neg (by rw [n]; simp)] at h'
    cases h'
theorem cut_rr {K : PySem.W.Frag} {Wa W2 : Wd} {S : Sto} {v : V} {r : RV} (h : RRk K Wa W2 v r) : RRk K Wa ⟨W2.r, W2.h, cutS S W2.s⟩ v r := by
  cases r with
  | v a => exact h
  | o as =>
    obtain ⟨p, h1, h2, vs, h3, h4, h5, h6⟩ := h
    exact ⟨p, h1, h2, vs, h3, h4, cutS_none h5, h6⟩
section
variable {P : Program} {w : World} {K : PySem.W.Frag} {mg : Str → Option Value} {base : Heap} {CX : CXT} {k : Nat} {f : Addr} {fd : FuncData} {ps : List Str} {F : List PV → W RV}
theorem FnG.imp {sp sp' : Sp} (G : FnG P w K mg base CX k f fd ps sp) (h : ∀ vs H Q E, sp' vs H Q E → sp vs H Q E) : FnG P w K mg base CX k f fd ps sp' :=
  ⟨fun vs H Q E z => G.many vs H Q E (h vs H Q E z), fun A out s H args us vs Q E g hr he hb hv hs => G.goes A out s H args us vs Q E g hr he hb hv (h vs H Q E hs)⟩
theorem fn_scope (G : FnG P w K mg base CX k f fd ps (spW K F)) : FnG P w K mg base CX k f fd ps (spW K fun as => scopeW (F as)) := FnG.imp G fun vs H Q E ⟨Wa, as, Ψ, Ξ, a, b, c, d, q, qx⟩ =>
  ⟨Wa, as, _, _, a, b, c, d, fun r v W2 g rr z => q r v ⟨W2.r, W2.h, cutS Wa.s W2.s⟩ (cut_go g) (cut_rr rr) z, fun x cls d W2 g hx z => qx x cls d ⟨W2.r, W2.h, cutS Wa.s W2.s⟩ (cut_go g) hx z⟩
end
def callW (F : List PV → W RV) (ds : List PV) (ms : W (List PV)) : W PV := bind ms fun as => bind (noX (F (as ++ ds))) fun r => ret r.pv
def asO : RV → Option (List PV)
  | .o as => some as
  | _ => none
def callO (F : List PV → W RV) (ds : List PV) (ms : W (List PV)) : W (List PV) := bind ms fun as => bind (noX (F (as ++ ds))) fun r => lift (asO r)
section
variable {K : PySem.W.Frag} {Z : WX} {W0 W1 W2 W3 : Wd} {σ : L2.St} {ρ : List Sl} {i j k : Nat} {te : TE} {tA : TA} {ms : W (List PV)} {F : List PV → W RV} {dvs : List V} {Ex0 : XK}
theorem sp_use {Wa : Wd} {vs : List V} {as ds : List PV} {Q : VK} {E : XK} {Ψ : RV → Sto → Prop} {Ξ : XV → Sto → Prop} (hd : ∀ H, Al H dvs (mps K ds)) (o : Ok K Wa) (al : Al Wa.r vs (mps K as)) (h : F (as ++ ds) Wa.s Ψ Ξ)
    (q : ∀ r v W2, Go K Wa W2 → RRk K Wa W2 v r → Ψ r W2.s → Q v W2.h) (qx : ∀ x cls d W2, Go K Wa W2 → XOk K W2.r cls d x → Ξ x W2.s → E cls d W2.h) : spW K F (vs ++ dvs) Wa.h Q E := ⟨Wa, as ++ ds, Ψ, Ξ, rfl, o, by rw [mps_app]; exact al.app (hd _), h, q, qx⟩
theorem rr_settle {Wa Wb : Wd} {r : RV} {v : V} (g : Go K Wa Wb) (h : RRk K Wa Wb v r) : ∃ W3, W3.h = Wb.h ∧ W3.s = Wb.s ∧ Go K Wa W3 ∧ (mp K r.pv).p W3.r v := by
  cases r with
  | v a => exact ⟨Wb, rfl, rfl, g, h⟩
  | o as =>
    obtain ⟨W3, e1, e2, _, g3, p3⟩ := settle g h
    exact ⟨W3, e1, e2, g3, p3⟩
theorem p_call {ds : List PV} (hd : ∀ H, Al H dvs (mps K ds)) (ha : VP K Z ρ tA ms) : EP K Z ρ (tCall (spW K F) dvs Ex0 tA) (callW F ds ms) := fun W0 W σ e Q Ψ Ξ hm kk kx =>
  ha W0 W σ e _ _ _ hm (fun as vs W1 g1 al h => sp_use hd g1.ok al h (fun r v W2 g2 rr z => by
    obtain ⟨W3, e1, e2, g3, p3⟩ := rr_settle g2 rr
    rw [← e1]
    exact kk _ v W3 (g1.trans g3) p3 (by rw [e2]; exact z)) fun _ _ _ _ _ _ z => z.elim) kx
theorem o_call {ds : List PV} (hd : ∀ H, Al H dvs (mps K ds)) (ha : VP K Z ρ tA ms) : EO K Z ρ (tCall (spW K F) dvs Ex0 tA) (callO F ds ms) := fun W0 W σ e Q Ψ Ξ hm kk kx =>
  ha W0 W σ e _ _ _ hm (fun as vs W1 g1 al h => sp_use hd g1.ok al h (fun r v W2 g2 rr z => by
    obtain ⟨bs, eb, z⟩ := z
    cases r with
    | v a => cases eb
    | o cs =>
      cases eb
      exact kk _ v W2 (g1.trans g2) (ROk.back g1.ok g1 rr) z) fun _ _ _ _ _ _ z => z.elim) kx
end
section
variable {P : Program} {w : World} {K : PySem.W.Frag} {mg : Str → Option Value} {base : Heap} {f : Addr} {fd : FuncData} {F : List PV → W RV}
theorem en_start {N : List Str} {Wa : Wd} {vs : List V} {as : List PV} (o : Ok K Wa) (al : Al Wa.r vs (mps K as)) (hl : as.length ≤ N.length) : En K Wa Wa (start N vs) (as.map .val ++ List.replicate (N.length - as.length) .un) := by
  have ll : vs.length = as.length := by rw [al.length, mps_len]
  have hs : start N vs = vs.map some ++ List.replicate (N.length - vs.length) none := rfl
  refine ⟨o, Le.refl o, by rw [hs]; simp [ll], fun i s hi => ?_, fun i j as' bs p _ h1 => ?_⟩
  · by_cases c : i < as.length
    · rw [List.getElem?_append_left (by simpa using c), List.getElem?_map, List.getElem?_eq_getElem c] at hi
      cases hi
      obtain ⟨v, hv, pv⟩ := al.get (mps_get (K := K) (List.getElem?_eq_getElem c))
      refine ⟨some v, ?_, v, rfl, pv⟩
      rw [hs, List.getElem?_append_left (by simp [ll, c]), List.getElem?_map, hv]
      rfl
    · have hi2 := (List.getElem?_eq_some_iff.mp hi).1
      rw [List.getElem?_append_right (by simpa using c), List.getElem?_replicate] at hi
      split at hi
      · cases hi
        refine ⟨none, ?_, trivial⟩
        rw [hs, List.getElem?_append_right (by simp [ll]; omega), List.getElem?_replicate, if_pos (by simp [ll]; simp at hi2; omega)]
      · cases hi
  · exfalso
    by_cases c : i < as.length
    · rw [List.getElem?_append_left (by simpa using c), List.getElem?_map, List.getElem?_eq_getElem c] at h1
      cases h1
    · rw [List.getElem?_append_right (by simpa using c), List.getElem?_replicate] at h1
      split at h1 <;> cases h1
theorem fnW_core {N : List Str} {t : TS} {vs : List V} {H : Hp} {Q : VK} {E : XK} (h : spW K F vs H Q E) (hl : ∀ as S Ψ Ξ, F as S Ψ Ξ → as.length ≤ N.length)
    (hb : ∀ as S Ψ Ξ, F as S Ψ Ξ → ∃ m : W (Fl Unit), runF m S Ψ Ξ ∧ GP K (fun cls d _ H => E cls d H) (as.map .val ++ List.replicate (N.length - as.length) .un) t (fun _ => List.replicate N.length .un) m) : t { nx := fun _ G => Q .non G, rt := Q } (start N vs) H := by
  obtain ⟨Wa, as, Ψ, Ξ, rfl, o, al, hF, q, qx⟩ := h
  obtain ⟨m, hm, g⟩ := hb as _ Ψ Ξ hF
  exact g Wa Wa _ _ (en_start (N := N) o al (hl as _ Ψ Ξ hF)) _ _ hm ⟨fun W2 σ s e z => q (.v .non) .non W2 e.gone rfl z, fun r v W2 g rr z => q r v W2 g rr z, fun x cls d σ W2 g hx z => qx x cls d W2 g hx z⟩
theorem sp_len {ps : List Str} (hl : ∀ as S Ψ Ξ, F as S Ψ Ξ → as.length = ps.length) : ∀ vs H Q E, spW K F vs H Q E → vs.length = ps.length := fun vs H Q E h => by
  obtain ⟨Wa, as, Ψ, Ξ, _, _, al, hF, _⟩ := h
  rw [al.length, mps_len]
  exact hl as _ Ψ Ξ hF
theorem fnW {x qual : Str} {st : Stmt} {N ps : List Str} {k : Nat} (Fn : Fun K x qual st f fd) (S : FnScope N ps (defScope st)) (hN : ps.length ≤ N.length) (hl : ∀ as S Ψ Ξ, F as S Ψ Ξ → as.length = ps.length)
    (hb : ∀ (cdv : Value) (A : Around) (outer : List Env) (s : Shared) (H : Hp) (E : XK), A.guards = some [] → Room k (A.deeper (envOfC qual (defScope st) s.heap.objs.size f cdv)) → ∃ t, PSs (cxOf CX0 P w K mg base N qual (defScope st) f cdv A outer s H E).nox (defBody st) t ∧
      ∀ as S Ψ Ξ, F as S Ψ Ξ → ∃ m : W (Fl Unit), runF m S Ψ Ξ ∧ GP K (fun cls d _ H => E cls d H) (as.map .val ++ List.replicate (N.length - as.length) .un) t (fun _ => List.replicate N.length .un) m) : FnG P w K mg base CX0 (k + 1) f fd ps (spW K F) :=
  Fun.okG Fn S (sp_len hl) fun cdv A out s H vs Q E g hr h => by
    obtain ⟨t, ht, b⟩ := hb cdv A out s H E g hr
    exact ⟨t, ht, fnW_core h (fun as S Ψ Ξ z => by rw [hl as S Ψ Ξ z]; exact hN) b⟩
end
end SL
namespace SL
open PySem PySem.Spec PyProof.Rows L2 Evl NF WL
variable [PW]
mutual
def toD : PV → Option PyData
  | .non => some .none
  | .bl b => some (.bool b)
  | .int i => some (.int i)
  | .str z => some (.str z)
  | .lst as => match toDs as with
    | some ds => some (.list ds)
    | none => none
  | .tup as => match toDs as with
    | some ds => some (.tuple ds)
    | none => none
  | .dic [] [] => some (.dict [])
  | _ => none
def toDs : List PV → Option (List PyData)
  | [] => some []
  | a :: as => match toD a, toDs as with
    | some d, some ds => some (d :: ds)
    | _, _ => none
end
theorem toDs_cons {a : PV} {as : List PV} {ds : List PyData} (h : toDs (a :: as) = some ds) : ∃ d es, ds = d :: es ∧ toD a = some d ∧ toDs as = some es := by
  simp only [toDs] at h
  split at h
  · rename_i d es h1 h2
    cases h
    exact ⟨d, es, rfl, h1, h2⟩
  · cases h
theorem toD_lst {as : List PV} {d : PyData} (h : toD (.lst as) = some d) : ∃ ds, d = .list ds ∧ toDs as = some ds := by
  simp only [toD] at h
  split at h
  · rename_i ds h1
    cases h
    exact ⟨ds, rfl, h1⟩
  · cases h
theorem toD_tup {as : List PV} {d : PyData} (h : toD (.tup as) = some d) : ∃ ds, d = .tuple ds ∧ toDs as = some ds := by
  simp only [toD] at h
  split at h
  · rename_i ds h1
    cases h
    exact ⟨ds, rfl, h1⟩
  · cases h
mutual
theorem dp_of {K : PySem.W.Frag} {H : Hp} : ∀ (a : PV) (d : PyData) (v : V), toD a = some d → d.hasDict = false → (mp K a).p H v → Dp K H v d
  | .non, _, _, h, _, p => by cases h; cases p; exact .non
  | .bl b, _, _, h, _, p => by cases h; cases p; exact .bl b
  | .int i, _, _, h, _, p => by cases h; cases p; exact .int i
  | .str z, _, _, h, _, p => by cases h; cases p; exact .str z
  | .lst as, d, _, h, hh, p => by
    obtain ⟨ds, rfl, h1⟩ := toD_lst h
    obtain ⟨q, vs, rfl, hq, al⟩ := p
    exact .lst (SqL.of hq) (dps_of as ds vs h1 hh al)
  | .tup as, d, _, h, hh, p => by
    obtain ⟨ds, rfl, h1⟩ := toD_tup h
    obtain ⟨q, vs, rfl, hq, al⟩ := p
    exact .tup hq (dps_of as ds vs h1 hh al)
  | .dic ks as, _, _, h, hh, p => by
    match ks, as, h with
    | [], [], h => cases h; cases hh
    | [], _ :: _, h => simp [toD] at h
    | _ :: _, _, h => simp [toD] at h
  | .dit _ _, _, _, h, _, _ => by simp [toD] at h
  | .ins _ _ _, _, _, h, _, _ => by simp [toD] at h
  | .exc _ _ _, _, _, h, _, _ => by simp [toD] at h
  | .cls _, _, _, h, _, _ => by simp [toD] at h
  | .scr _, _, _, h, _, _ => by simp [toD] at h
  | .ptr _, _, _, h, _, _ => by simp [toD] at h
  | .hole, _, _, h, _, _ => by simp [toD] at h
theorem dps_of {K : PySem.W.Frag} {H : Hp} : ∀ (as : List PV) (ds : List PyData) (vs : List V), toDs as = some ds → PyData.hasDictAll ds = false → Al H vs (mps K as) → DpAll K H vs ds
  | [], _, _, h, _, .nil => by cases h; exact .nil
  | a :: as, ds, _, h, hh, .cons p t => by
    obtain ⟨d, es, rfl, h1, h2⟩ := toDs_cons h
    rw [PyData.hasDictAll, Bool.or_eq_false_iff] at hh
    exact .cons (dp_of a d _ h1 hh.1 p) (dps_of as es _ h2 hh.2 t)
end
section
variable {X : Cx} {pins : List (Addr × Obj)} {σ : L2.St} {H : Hp} {s : Shared}
theorem nosys (hs : ∃ o, X.K.lookup sysModules = some o) (I : Inv X pins σ H s) {q : Addr} {y : HO} {bs : List Addr} (hq : H q = some y) (nb : sysModules ∉ bs) : sysModules ∉ q :: bs := by
  obtain ⟨o, ho⟩ := hs
  have h0 := (I.bs _ _ (I.mod.kin _ _ ho)).2
  rw [List.mem_cons]
  rintro (z | z)
  · rw [z, hq] at h0; cases h0
  · exact nb z
mutual
/-- what is represented is read; nothing of it is sys.modules' -/
theorem reads_of (hs : ∃ o, X.K.lookup sysModules = some o) (I : Inv X pins σ H s) : ∀ (a : PV) (d : PyData) (v : V) (u : Value), toD a = some d → (mp X.K a).p H v → RelV v u → ∃ as, Reads s.heap u d as ∧ sysModules ∉ as
  | .non, _, _, _, h, p, r => by cases h; cases p; cases r; exact ⟨_, .none, by simp⟩
  | .bl b, _, _, _, h, p, r => by cases h; cases p; cases r; exact ⟨_, .bool b, by simp⟩
  | .int i, _, _, _, h, p, r => by cases h; cases p; obtain ⟨t, rfl⟩ := r; exact ⟨_, .int i t, by simp⟩
  | .str z, _, _, _, h, p, r => by cases h; cases p; obtain ⟨t, rfl⟩ := r; exact ⟨_, .str z t, by simp⟩
  | .lst as, d, _, _, h, p, r => by
    obtain ⟨ds, rfl, h1⟩ := toD_lst h
    obtain ⟨q, vs, rfl, hq, al⟩ := p
    cases r
    obtain ⟨its, rv, ⟨o, n, ho, hc, _, hd⟩, _⟩ := I.list (SqL.of hq)
    obtain ⟨bs, hr, nb⟩ := readsAll_of hs I as ds vs its h1 al rv
    exact ⟨_, Reads.list ho hc hd hr, nosys hs I hq nb⟩
  | .tup as, d, _, _, h, p, r => by
    obtain ⟨ds, rfl, h1⟩ := toD_tup h
    obtain ⟨q, vs, rfl, hq, al⟩ := p
    cases r
    obtain ⟨its, rv, ⟨o, ho, hc, n, hd⟩, _⟩ := I.tuple hq
    obtain ⟨bs, hr, nb⟩ := readsAll_of hs I as ds vs its h1 al rv
    exact ⟨_, Reads.tuple ho hc hd hr, nb⟩
  | .dic ks as, d, _, _, h, p, r => by
    have hk : ks = [] ∧ as = [] ∧ d = .dict [] := by
      match ks, as, h with
      | [], [], h => cases h; exact ⟨rfl, rfl, rfl⟩
      | [], _ :: _, h => simp [toD] at h
      | _ :: _, _, h => simp [toD] at h
    obtain ⟨rfl, rfl, rfl⟩ := hk
    obtain ⟨q, vs, rfl, hq, hl, _⟩ := p
    cases vs with
    | cons _ _ => cases hl
    | nil =>
    cases r
    obtain ⟨_, hs', vs, kv, o, es, ep, ho, hx, hd, _, pr, _⟩ := I.hok _ _ hq
    cases kv
    have he : es.toList = [] := List.eq_nil_of_length_eq_zero pr.length
    refine ⟨[q], Reads.dict (as := []) (bs := []) ho hx.1 hd (by rw [he]; exact .nil) (by rw [he]; exact .nil), ?_⟩
    intro z
    rw [List.mem_singleton] at z
    rw [← z] at hs'
    simp at hs'
  | .dit _ _, _, _, _, h, _, _ => by simp [toD] at h
  | .ins _ _ _, _, _, _, h, _, _ => by simp [toD] at h
  | .exc _ _ _, _, _, _, h, _, _ => by simp [toD] at h
  | .cls _, _, _, _, h, _, _ => by simp [toD] at h
  | .scr _, _, _, _, h, _, _ => by simp [toD] at h
  | .ptr _, _, _, _, h, _, _ => by simp [toD] at h
  | .hole, _, _, _, h, _, _ => by simp [toD] at h
theorem readsAll_of (hs : ∃ o, X.K.lookup sysModules = some o) (I : Inv X pins σ H s) : ∀ (as : List PV) (ds : List PyData) (vs : List V) (us : List Value), toDs as = some ds → Al H vs (mps X.K as) → Vals vs us → ∃ bs, ReadsAll s.heap us ds bs ∧ sysModules ∉ bs
  | [], _, _, _, h, .nil, .nil => by cases h; exact ⟨_, .nil, by simp⟩
  | a :: as, ds, _, _, h, .cons p t, .cons r q => by
    obtain ⟨d, es, rfl, h1, h2⟩ := toDs_cons h
    obtain ⟨b1, r1, n1⟩ := reads_of hs I a d _ _ h1 p r
    obtain ⟨b2, r2, n2⟩ := readsAll_of hs I as es _ _ h2 t q
    refine ⟨_, .cons r1 r2, ?_⟩
    rw [List.mem_append]
    rintro (y | y)
    · exact n1 y
    · exact n2 y
end
end
end SL
namespace SL
open PySem PySem.Spec PyProof.Rows L2 Evl NF WL
variable [PW]
section
variable {X : Cx} {K : PySem.W.Frag}
theorem op_or {f : Value → Value → Sem Value} {r r' : R2} (h : OpR X f r) (h' : OpR X f r') : OpR X f fun x y H Q => r x y H Q ∨ r' x y H Q := fun pins s σ H x y v u Q I rx ry q => q.elim (h pins s σ H x y v u Q I rx ry) (h' pins s σ H x y v u Q I rx ry)
theorem ix_or {r r' : R2} (h : IxR X r) (h' : IxR X r') : IxR X fun x y H Q => r x y H Q ∨ r' x y H Q := fun va sl pins s σ H x y v u Q I rx ry q => q.elim (h va sl pins s σ H x y v u Q I rx ry) (h' va sl pins s σ H x y v u Q I rx ry)
theorem call_or {f : Value} {r r' : List V → Hp → VK → Prop} (h : CallR X f r) (h' : CallR X f r') : CallR X f fun xs H Q => r xs H Q ∨ r' xs H Q := fun pins s σ H xs us Q I rx q => q.elim (h pins s σ H xs us Q I rx) (h' pins s σ H xs us Q I rx)
def rTxt : R2 := fun x y H Q => ∃ i j, x = .str i ∧ y = .str j ∧ i.length + j.length ≤ sizeLine ∧ Q (.str (i ++ j)) H
def rAddU : R2 := fun x y H Q => rI0 (fun i j => .int (i + j)) x y H Q ∨ (rTxt x y H Q ∨ rCat x y H Q)
theorem op_addU : OpR X (binaryOp .Add) rAddU := op_or op_add (op_or op_add_str op_cat)
def rIxU (K : PySem.W.Frag) : R2 := fun x y H Q => rIxL K x y H Q ∨ (rIxT K x y H Q ∨ rIxS x y H Q)
theorem ix_U (h : X.K = K) : IxR X (rIxU K) := h ▸ ix_or ix_list (ix_or ix_tup ix_str)
def rLenZ : List V → Hp → VK → Prop := fun xs H Q => ∃ z, xs = [.str z] ∧ z.length ≤ sizeLine ∧ Q (.int z.length) H
def rLenU (K : PySem.W.Frag) : List V → Hp → VK → Prop := fun xs H Q => Evl.rLenS K xs H Q ∨ rLenZ xs H Q
theorem call_lenU (h : X.K = K) : CallR X (.builtin "len") (rLenU K) := h ▸ call_or call_len_seq call_len_str
def FineP (a : PV) (d : PyData) : Prop := d.showable = true ∧ d.depth ≤ 20 ∧ d.shown.length ≤ sizeLine
instance (a : PV) (d : PyData) : Decidable (FineP a d) := by unfold FineP; infer_instance
def rRepP (K : PySem.W.Frag) : List V → Hp → VK → Prop := fun xs H Q => ∃ (x : V) (a : PV) (d : PyData), xs = [x] ∧ (mp K a).p H x ∧ toD a = some d ∧ FineP a d ∧ Q (.str d.shown) H
theorem call_repP (h : X.K = K) (hs : ∃ o, K.lookup sysModules = some o) (gd : X.A.guards = some []) (hu : X.A.units + 64 < cLine) : CallR X (.builtin "repr") (rRepP K) := by
  subst h
  intro pins s σ H xs us Q I r h
  obtain ⟨x, a, d, rfl, pa, hd, ⟨f1, f3, f4⟩, q⟩ := h
  obtain ⟨u, rfl, ru⟩ := vals1 r
  obtain ⟨as, rd, nm0⟩ := reads_of hs I a d x u hd pa ru
  have nm : d.hasDict = true → sysModules ∉ as := fun _ => nm0
  cases rd with
  | none => exact PySem.P.repr_of_none ⟨.str _, H, I.tok _, ⟨_, rfl⟩, q⟩
  | bool b => exact PySem.P.repr_of_bool ⟨.str _, H, I.tok _, ⟨_, rfl⟩, q⟩
  | int i t => exact PySem.P.repr_of_int (by simpa only [PyData.showable, decide_eq_true_eq] using f1) ⟨.str _, H, I.tok _, ⟨_, rfl⟩, q⟩
  | str y t => exact PySem.P.repr_of_str ⟨.str _, H, I.tok _, ⟨_, rfl⟩, q⟩ f4
  | list a1 a2 a3 a4 => exact repr_of_reads' (.list a1 a2 a3 a4) f1 nm gd (by omega) (fun _ _ z => z) (fun h' t tk hk => ⟨.str _, H, I.kept hk, ⟨t, rfl⟩, q⟩) f4
  | tuple a1 a2 a3 a4 => exact repr_of_reads' (.tuple a1 a2 a3 a4) f1 nm gd (by omega) (fun _ _ z => z) (fun h' t tk hk => ⟨.str _, H, I.kept hk, ⟨t, rfl⟩, q⟩) f4
  | dict a1 a2 a3 a4 a5 => exact repr_of_reads' (.dict a1 a2 a3 a4 a5) f1 nm gd (by omega) (fun _ _ z => z) (fun h' t tk hk => ⟨.str _, H, I.kept hk, ⟨t, rfl⟩, q⟩) f4
def rEqU (K : PySem.W.Frag) : R2 := fun x y H Q => rEq x y H Q ∨ rEqD K x y H Q
def rNeU (K : PySem.W.Frag) : R2 := fun x y H Q => rNe x y H Q ∨ rNeD K x y H Q
theorem op_eqP (h : X.K = K) (hu : X.A.units + 64 < cLine) : OpR X (compareOp .Eq) (rEqU K) := h ▸ op_or op_eq (op_eqD hu)
theorem op_neP (h : X.K = K) (hu : X.A.units + 64 < cLine) : OpR X (compareOp .NotEq) (rNeU K) := h ▸ op_or op_ne (op_neD hu)
theorem call_isP (h : X.K = K) : CallR X (.builtin "isinstance") (rIsi K) := h ▸ call_isi
theorem cr_allP (h : X.K = K) (hc : X.calm = true) : CallR X (.builtin "all") (rAll K) := h ▸ cr_all hc
end
def addF : PV → PV → Option PV
  | .int a, .int b => some (.int (a + b))
  | .str a, .str b => if a.length + b.length ≤ 100000 then some (.str (a ++ b)) else none
  | .lst as, .lst bs => if as.length + bs.length ≤ 100000 then some (.lst (as ++ bs)) else none
  | _, _ => none
def addL : PV → PV → Option (List PV)
  | .lst as, .lst bs => if as.length + bs.length ≤ 100000 then some (as ++ bs) else none
  | _, _ => none
def subF : PV → PV → Option PV
  | .int a, .int b => some (.int (a - b))
  | _, _ => none
def modF : PV → PV → Option PV
  | .int a, .int b => if b ≠ 0 then some (.int (a.fmod b)) else none
  | _, _ => none
def fdivF : PV → PV → Option PV
  | .int a, .int b => if b ≠ 0 ∧ b.natAbs.log2 < 9000 then some (.int (a.fdiv b)) else none
  | _, _ => none
def ltF : PV → PV → Option PV
  | .int a, .int b => some (.bl (decide (a < b)))
  | _, _ => none
def leF : PV → PV → Option PV
  | .int a, .int b => some (.bl (decide (a ≤ b)))
  | _, _ => none
def gtF : PV → PV → Option PV
  | .int a, .int b => some (.bl (decide (a > b)))
  | _, _ => none
def geF : PV → PV → Option PV
  | .int a, .int b => some (.bl (decide (a ≥ b)))
  | _, _ => none
def eqD (a b : PV) : Option PV := match toD a, toD b with
  | some d, some e => if SeqAt.shaped d = true ∧ SeqAt.shaped e = true ∧ d.hasDict = false ∧ e.hasDict = false then some (.bl (PyData.eqv d e)) else none
  | _, _ => none
def eqF : PV → PV → Option PV
  | .str a, .str b => some (.bl (decide (a = b)))
  | a, b => eqD a b
def neD (a b : PV) : Option PV := match toD a, toD b with
  | some d, some e => if SeqAt.shaped d = true ∧ SeqAt.shaped e = true ∧ d.hasDict = false ∧ e.hasDict = false then some (.bl (!PyData.eqv d e)) else none
  | _, _ => none
def neF : PV → PV → Option PV
  | .str a, .str b => some (.bl (!decide (a = b)))
  | a, b => neD a b
def negF : PV → Option PV
  | .int a => some (.int (-a))
  | _ => none
def ixF : PV → PV → Option PV
  | .lst as, .int i => atI as i
  | .tup as, .int i => atI as i
  | .str z, .int i => if z.length ≤ 100000 then (atI z.cps.toList i).map fun c => .str ⟨#[c]⟩ else none
  | _, _ => none
section
variable {K : PySem.W.Frag} {Z : WX} {W0 W1 W2 W3 : Wd} {σ : L2.St} {ρ : List Sl} {i j : Nat} {ta tb tc te : TE} {tt t1 t2 : TT} {tA tr : TA} {ma mb mc m : W PV} {ms : W (List PV)} {r r1 r2 : R2}
theorem ow_i0 {g : Int → Int → V} {g' : Int → Int → PV} {f : PV → PV → Option PV} (hf : ∀ a b c, f a b = some c → ∃ i j, a = .int i ∧ b = .int j ∧ c = g' i j) (hg : ∀ i j H, (mp K (g' i j)).p H (g i j)) : OpW K (rI0 g) f := fun a b c e R H x y _ px py C k => by
  obtain ⟨i, j, rfl, rfl, rfl⟩ := hf a b c e
  cases px
  cases py
  exact ⟨i, j, rfl, rfl, k _ (hg i j R)⟩
theorem ow_i {P : Int → Int → Prop} {g : Int → Int → V} {g' : Int → Int → PV} {f : PV → PV → Option PV} (hf : ∀ a b c, f a b = some c → ∃ i j, a = .int i ∧ b = .int j ∧ P i j ∧ c = g' i j) (hg : ∀ i j H, (mp K (g' i j)).p H (g i j)) : OpW K (rI P g) f := fun a b c e R H x y _ px py C k => by
  obtain ⟨i, j, rfl, rfl, hp, rfl⟩ := hf a b c e
  cases px
  cases py
  exact ⟨i, j, rfl, rfl, hp, k _ (hg i j R)⟩
theorem two_int {f : PV → PV → Option PV} {g : Int → Int → PV} (h : ∀ a b, f a b = match a, b with | .int i, .int j => some (g i j) | _, _ => none) : ∀ a b c, f a b = some c → ∃ i j, a = .int i ∧ b = .int j ∧ c = g i j := fun a b c e => by
  rw [h] at e
  split at e
  · cases e
    exact ⟨_, _, rfl, rfl, rfl⟩
  · cases e
theorem two_intP {f : PV → PV → Option PV} {P : Int → Int → Prop} [∀ i j, Decidable (P i j)] {g : Int → Int → PV} (h : ∀ a b, f a b = match a, b with | .int i, .int j => if P i j then some (g i j) else none | _, _ => none) : ∀ a b c, f a b = some c → ∃ i j, a = .int i ∧ b = .int j ∧ P i j ∧ c = g i j := fun a b c e => by
  rw [h] at e
  split at e
  · split at e
    · rename_i hp
      cases e
      exact ⟨_, _, rfl, rfl, hp, rfl⟩
    · cases e
  · cases e
theorem ow_sub : OpW K (rI0 fun i j => .int (i - j)) subF := ow_i0 (g' := fun i j => .int (i - j)) (two_int fun a b => by cases a <;> cases b <;> rfl) fun _ _ _ => rfl
theorem ow_lt : OpW K (rI0 fun i j => .bl (decide (i < j))) ltF := ow_i0 (g' := fun i j => .bl (decide (i < j))) (two_int fun a b => by cases a <;> cases b <;> rfl) fun _ _ _ => rfl
theorem ow_gt : OpW K (rI0 fun i j => .bl (decide (i > j))) gtF := ow_i0 (g' := fun i j => .bl (decide (i > j))) (two_int fun a b => by cases a <;> cases b <;> rfl) fun _ _ _ => rfl
theorem ow_ge : OpW K (rI0 fun i j => .bl (decide (i ≥ j))) geF := ow_i0 (g' := fun i j => .bl (decide (i ≥ j))) (two_int fun a b => by cases a <;> cases b <;> rfl) fun _ _ _ => rfl
theorem ow_mod : OpW K (rI (fun _ j => j ≠ 0) fun i j => .int (i.fmod j)) modF := ow_i (g' := fun i j => .int (i.fmod j)) (two_intP (P := fun _ j => j ≠ 0) fun a b => by cases a <;> cases b <;> rfl) fun _ _ _ => rfl
theorem ow_fdiv : OpW K (rI CDivX fun i j => .int (i.fdiv j)) fdivF := ow_i (g' := fun i j => .int (i.fdiv j)) (two_intP (P := fun _ j => j ≠ 0 ∧ j.natAbs.log2 < 9000) fun a b => by cases a <;> cases b <;> rfl) fun _ _ _ => rfl
theorem ow_eq : OpW K (rEqU K) eqF := fun a b c e R H x y s px py C k => by
  unfold eqF at e
  split at e
  · cases e
    cases px
    cases py
    exact .inl ⟨rfl, k _ (by simp; rfl)⟩
  · unfold eqD at e
    split at e
    · rename_i d1 d2 h1 h2
      split at e
      · rename_i hs
        cases e
        obtain ⟨s1, s2, n1, n2⟩ := hs
        exact .inr ⟨d1, d2, dp_of a d1 x h1 n1 (MP.mono _ s px), dp_of b d2 y h2 n2 (MP.mono _ s py), s1, s2, k _ rfl⟩
      · cases e
    · cases e
theorem ow_ne : OpW K (rNeU K) neF := fun a b c e R H x y s px py C k => by
  unfold neF at e
  split at e
  · cases e
    cases px
    cases py
    exact .inl ⟨rfl, k _ (by simp; rfl)⟩
  · unfold neD at e
    split at e
    · rename_i d1 d2 h1 h2
      split at e
      · rename_i hs
        cases e
        obtain ⟨s1, s2, n1, n2⟩ := hs
        exact .inr ⟨d1, d2, dp_of a d1 x h1 n1 (MP.mono _ s px), dp_of b d2 y h2 n2 (MP.mono _ s py), s1, s2, k _ rfl⟩
      · cases e
    · cases e
theorem atI_al {H : Hp} {vs : List V} {as : List PV} {i : Int} {c : PV} (al : Al H vs (mps K as)) (h : atI as i = some c) : ∃ v, atI vs i = some v ∧ (mp K c).p H v := by
  unfold atI at h ⊢
  have ll : vs.length = as.length := by rw [al.length, mps_len]
  rw [ll]
  cases hn : ixN as.length i with
  | none => rw [hn] at h; cases h
  | some n =>
    rw [hn] at h
    have h' : as[n]? = some c := h
    obtain ⟨v, hv, pv⟩ := al.get (mps_get h')
    exact ⟨v, hv, pv⟩
theorem ow_ix : OpW K (rIxU K) ixF := fun a b c e R H x y s px py C k => by
  match a, b, e with
  | .lst as, .int i, e =>
    obtain ⟨p, vs, rfl, hp, al⟩ := px
    cases py
    obtain ⟨v, hv, pv⟩ := atI_al al e
    exact .inl ⟨p, vs, i, v, rfl, rfl, SqL.of (s _ _ hp), hv, k v pv⟩
  | .tup as, .int i, e =>
    obtain ⟨p, vs, rfl, hp, al⟩ := px
    cases py
    obtain ⟨v, hv, pv⟩ := atI_al al e
    exact .inr (.inl ⟨p, vs, i, v, rfl, rfl, ex_t s hp, hv, k v pv⟩)
  | .str z, .int i, e =>
    simp only [ixF] at e
    split at e
    · rename_i hz
      cases px
      cases py
      cases h : atI z.cps.toList i with
      | none => rw [h] at e; cases e
      | some n =>
        rw [h] at e
        cases e
        exact .inr (.inr ⟨z, i, n, rfl, rfl, sz_of hz, h, k _ rfl⟩)
    · cases e
theorem add_core (ha : EP K Z ρ ta ma) (hb : EP K Z ρ tb mb) {Wa : Wd} (e : En K W0 Wa σ ρ) {Q : VK} {Ψ : PV ⊕ List PV → Sto → Prop} {Ξ : XV → Sto → Prop} {Φ : PV → PV → Sto → Prop} (hm : ma Wa.s (fun a S => mb S (fun b S => Φ a b S) Ξ) Ξ) (hΦ : ∀ a b S, Φ a b S → match a, b with | .lst as, .lst bs => as.length + bs.length ≤ 100000 ∧ Ψ (.inr (as ++ bs)) S | a, b => ∃ c, addF a b = some c ∧ Ψ (.inl c) S)
    (k : ∀ c v W2, Go K Wa W2 → (mp K c).p W2.r v → Ψ (.inl c) W2.s → Q v W2.h) (kl : ∀ cs v W2, Go K Wa W2 → ROk K Wa W2 v cs → Ψ (.inr cs) W2.s → Q v W2.h) (kx : KX K Z σ Wa Ξ) : tOp rAddU ta tb σ Wa.h Q :=
  ha W0 Wa σ e _ _ _ hm (fun a x W1 g1 px h2 => hb W0 W1 σ (e.go g1) _ _ _ h2 (fun b y W2 g2 py z => by
    have px := MP.mono _ g2.le.r px
    have G := g1.trans g2
    have z := hΦ a b _ z
    split at z
    · rename_i as bs _ _
      obtain ⟨p, vs, rfl, hp, al⟩ := px
      obtain ⟨q, us, rfl, hq, al2⟩ := py
      refine .inr (.inr ⟨p, q, vs, us, rfl, rfl, g2.ok.sub _ _ hp, g2.ok.sub _ _ hq, sz_of (by rw [al.length, al2.length, mps_len, mps_len]; exact z.1), fun l hl => ?_⟩)
      exact o_new (Ψ := fun cs S => Ψ (.inr cs) S) kl G hl (by rw [mps_app]; exact al.app al2) z.2
    · obtain ⟨c, ec, z⟩ := z
      match a, b, ec with
      | .int i, .int j, ec =>
        cases ec
        cases px
        cases py
        exact .inl ⟨i, j, rfl, rfl, k (.int (i + j)) _ W2 G rfl z⟩
      | .str i, .str j, ec =>
        simp only [addF] at ec
        split at ec
        · rename_i hl
          cases ec
          cases px
          cases py
          exact .inr (.inl ⟨i, j, rfl, rfl, sz_of hl, k (.str (i ++ j)) _ W2 G rfl z⟩)
        · cases ec
      | .lst as, .lst bs, ec => rename_i hn; exact (hn as bs rfl rfl).elim) (kx.go g1)) kx
theorem p_add (ha : EP K Z ρ ta ma) (hb : EP K Z ρ tb mb) : EP K Z ρ (tOp rAddU ta tb) (op2 addF ma mb) := fun W0 W σ e Q Ψ Ξ hm k kx =>
  add_core (Ψ := fun s S => match s with | .inl c => Ψ c S | .inr cs => Ψ (.lst cs) S) ha hb e hm (fun a b S z => by
    obtain ⟨c, ec, z⟩ := z
    split
    · simp only [addF] at ec
      split at ec
      · rename_i hl
        cases ec
        exact ⟨hl, z⟩
      · cases ec
    · exact ⟨c, ec, z⟩) (fun c v W2 g p z => k c v W2 g p z) (fun cs v W2 g r z => by
      obtain ⟨W3, e1, e2, _, g3, p3⟩ := settle g r
      rw [← e1]
      exact k (.lst cs) v W3 g3 p3 (by rw [e2]; exact z)) kx
def addO (ma mb : W PV) : W (List PV) := bind ma fun a => bind mb fun b => lift (addL a b)
def lenF : List PV → Option PV
  | [.lst as] => some (.int (as.length : Int))
  | [.tup as] => some (.int (as.length : Int))
  | [.str z] => if z.length ≤ 100000 then some (.int (z.length : Int)) else none
  | [.scr ns] => some (.int (ns.length : Int))
  | _ => none
theorem cw_len : CbW K (rLenU K) lenF := fun as c e R H vs s al C k => by
  match as, e with
  | [.lst as], e =>
    cases e
    obtain ⟨v, rfl, p, us, rfl, hp, a2⟩ := Al.inv1 al
    exact .inl ⟨p, us, rfl, .inl (SqL.of (s _ _ hp)), k _ (by rw [a2.length, mps_len]; rfl)⟩
  | [.tup as], e =>
    cases e
    obtain ⟨v, rfl, p, us, rfl, hp, a2⟩ := Al.inv1 al
    exact .inl ⟨p, us, rfl, .inr (ex_t s hp), k _ (by rw [a2.length, mps_len]; rfl)⟩
  | [.scr ns], e =>
    cases e
    obtain ⟨v, rfl, p, rfl, hp⟩ := Al.inv1 al
    exact .inl ⟨p, _, rfl, .inl (ex_l s hp), k _ (by rw [List.length_map]; rfl)⟩
  | [.str z], e =>
    simp only [lenF] at e
    split at e
    · rename_i hl
      cases e
      obtain ⟨v, rfl, p⟩ := Al.inv1 al
      cases p
      exact .inr ⟨z, rfl, sz_of hl, k _ rfl⟩
    · cases e
def repF : List PV → Option PV
  | [a] => match toD a with
    | some d => if FineP a d then some (.str d.shown) else none
    | none => none
  | _ => none
theorem cw_rep : CbW K (rRepP K) repF := fun as c e R H vs s al C k => by
  match as, e with
  | [a], e =>
    simp only [repF] at e
    split at e
    · rename_i d hd
      split at e
      · rename_i hf
        cases e
        obtain ⟨v, rfl, p⟩ := Al.inv1 al
        exact ⟨v, a, d, rfl, MP.mono _ s p, hd, hf, k _ rfl⟩
      · cases e
    · cases e
def max2F : List PV → Option PV
  | [.int a, .int b] => some (.int (if b > a then b else a))
  | _ => none
def min2F : List PV → Option PV
  | [.int a, .int b] => some (.int (if b < a then b else a))
  | _ => none
def absF : List PV → Option PV
  | [.int a] => some (.int (if a < 0 then -a else a))
  | _ => none
def intF : List PV → Option PV
  | [.int a] => some (.int a)
  | [.bl b] => some (.int (if b = true then 1 else 0))
  | _ => none
theorem cw_max2 : CbW K (fun xs H Q => ∃ i j, xs = [.int i, .int j] ∧ Q (.int (if j > i then j else i)) H) max2F := fun as c e R H vs s al C k => by
  match as, e with
  | [.int a, .int b], e =>
    cases e
    obtain ⟨v, w, rfl, p, q⟩ := Al.inv2 al
    cases p
    cases q
    exact ⟨a, b, rfl, k _ rfl⟩
theorem cw_min2 : CbW K (fun xs H Q => ∃ i j, xs = [.int i, .int j] ∧ Q (.int (if j < i then j else i)) H) min2F := fun as c e R H vs s al C k => by
  match as, e with
  | [.int a, .int b], e =>
    cases e
    obtain ⟨v, w, rfl, p, q⟩ := Al.inv2 al
    cases p
    cases q
    exact ⟨a, b, rfl, k _ rfl⟩
theorem cw_abs : CbW K (fun xs H Q => ∃ i, xs = [.int i] ∧ Q (.int (if i < 0 then -i else i)) H) absF := fun as c e R H vs s al C k => by
  match as, e with
  | [.int a], e =>
    cases e
    obtain ⟨v, rfl, p⟩ := Al.inv1 al
    cases p
    exact ⟨a, rfl, k _ rfl⟩
theorem cw_int : CbW K (fun xs H Q => (∃ i, xs = [.int i] ∧ Q (.int i) H) ∨ ∃ k, xs = [.bl k] ∧ Q (.int (if k then 1 else 0)) H) intF := fun as c e R H vs s al C k => by
  match as, e with
  | [.int a], e =>
    cases e
    obtain ⟨v, rfl, p⟩ := Al.inv1 al
    cases p
    exact .inl ⟨a, rfl, k _ rfl⟩
  | [.bl b], e =>
    cases e
    obtain ⟨v, rfl, p⟩ := Al.inv1 al
    cases p
    exact .inr ⟨b, rfl, k _ rfl⟩
def asBs : List PV → Option (List Bool)
  | [] => some []
  | .bl b :: as => (asBs as).map (b :: ·)
  | _ :: _ => none
def asIs : List PV → Option (List Int)
  | [] => some []
  | .int b :: as => (asIs as).map (b :: ·)
  | _ :: _ => none
theorem asBs_al {H : Hp} : ∀ {as : List PV} {bs : List Bool} {vs : List V}, asBs as = some bs → Al H vs (mps K as) → vs = bs.map V.bl
  | [], _, _, h, .nil => by cases h; rfl
  | .bl b :: as, bs, _, h, .cons p t => by
    simp only [asBs] at h
    cases c : asBs as with
    | none => rw [c] at h; cases h
    | some cs =>
      rw [c] at h
      cases h
      cases p
      rw [asBs_al c t]
      rfl
theorem asIs_al {H : Hp} : ∀ {as : List PV} {bs : List Int} {vs : List V}, asIs as = some bs → Al H vs (mps K as) → vs = bs.map V.int
  | [], _, _, h, .nil => by cases h; rfl
  | .int b :: as, bs, _, h, .cons p t => by
    simp only [asIs] at h
    cases c : asIs as with
    | none => rw [c] at h; cases h
    | some cs =>
      rw [c] at h
      cases h
      cases p
      rw [asIs_al c t]
      rfl
def allF : List PV → Option PV
  | [.lst as] => (asBs as).map fun bs => .bl (bs.all id)
  | _ => none
theorem cw_all : CbW K (rAll K) allF := fun as c e R H vs s al C k => by
  match as, e with
  | [.lst as], e =>
    simp only [allF] at e
    cases c : asBs as with
    | none => rw [c] at e; cases e
    | some bs =>
      rw [c] at e
      cases e
      obtain ⟨v, rfl, p, us, rfl, hp, a2⟩ := Al.inv1 al
      rw [asBs_al c a2] at hp
      exact ⟨p, bs, rfl, SqL.of (s _ _ hp), k _ rfl⟩
def listF : List PV → Option (List PV)
  | [.lst as] => some as
  | [.tup as] => some as
  | _ => none
theorem cm_list : CbM K (rListS K) listF := fun as cs e R H vs s al C k => by
  match as, e with
  | [.lst as], e =>
    cases e
    obtain ⟨v, rfl, p, us, rfl, hp, a2⟩ := Al.inv1 al
    exact ⟨p, us, rfl, .inl (SqL.of (s _ _ hp)), fun l hl => k l us hl a2⟩
  | [.tup as], e =>
    cases e
    obtain ⟨v, rfl, p, us, rfl, hp, a2⟩ := Al.inv1 al
    exact ⟨p, us, rfl, .inr (ex_t s hp), fun l hl => k l us hl a2⟩
end
end SL
namespace SL
open PySem PySem.Spec PyProof.Rows L2 Evl NF WL
variable [PW]
def tyN : PV → Option String
  | .non => some "NoneType"
  | .bl _ => some "bool"
  | .int _ => some "int"
  | .str _ => some "str"
  | .lst _ => some "list"
  | .tup _ => some "tuple"
  | .dic _ _ => some "dict"
  | .dit _ _ => none
  | _ => none
/-- what isinstance asks of a class of one's own -/
structure InsC (K : PySem.W.Frag) (c : Addr) : Prop where
  cl : Cls K c
  t1 : PySem.W.findIn K (.ref c) "__class__" = some (some (.builtin "object.__class__"))
  t2 : PySem.W.specialIn K (.builtin "object.__class__") "__get__" = some (some (.builtin "getset_descriptor.__get__"))
  t3 : PySem.W.takesIn K (.builtin "object.__class__") = some true
  t4 : PySem.W.mroIn K c (.type "object") = some true
section
variable {K : PySem.W.Frag} {Z : WX} {ρ : List Sl} {ta : TE} {ma : W PV}
theorem ty_lstP {H : Hp} {p : Addr} {xs : List V} (h : H p = some (.lst xs)) : TyX K H (.ref p) (.type "list") := .base (.lst h)
theorem tyx_of {R H : Hp} {v : V} {a : PV} {n : String} (h : tyN a = some n) (s : Ex R H) (p : (mp K a).p R v) : TyX K H v (.type n) := by
  cases a with
  | non => cases h; cases p; exact .base .non
  | bl b => cases h; cases p; exact .base (.bl b)
  | int i => cases h; cases p; exact .base (.int i)
  | str z => cases h; cases p; exact .base (.str z)
  | lst as =>
    cases h
    obtain ⟨q, vs, rfl, h1, _⟩ := p
    exact ty_lstP (s _ _ h1)
  | tup as =>
    cases h
    obtain ⟨q, vs, rfl, h1, _⟩ := p
    exact ty_tup (ex_t s h1)
  | dic ks as =>
    cases h
    obtain ⟨q, vs, rfl, h1, _⟩ := p
    exact .base (.dK (s _ _ h1))
  | dit ks as => cases h
  | ins c ns as => cases h
  | exc c ns as => cases h
  | cls c => cases h
  | scr ns => cases h
  | ptr p => cases h
  | hole => cases h
/-- isinstance(x, c): b of what is of a built-in kind, tab of classes of one's own -/
def isiF (b : String → Option Bool) (tab : List (Addr × Bool)) : PV → Option PV
  | .ins c _ _ => (tab.lookup c).map .bl
  | a => match tyN a with
    | some n => (b n).map .bl
    | none => none
def isiB (c : String) : PV → Option PV := isiF (fun n => kitB n c) []
def TabOk (K : PySem.W.Frag) (u : Value) (b : String → Option Bool) (tab : List (Addr × Bool)) : Prop := (∀ n r, b n = some r → PySem.W.kitOne K (.type n) u = some r) ∧ ∀ x ∈ tab, InsC K x.1 ∧ PySem.W.kitOne K (.ref x.1) u = some x.2
theorem lookup_mem {tab : List (Addr × Bool)} {c : Addr} {b : Bool} (h : tab.lookup c = some b) : (c, b) ∈ tab := by
  induction tab with
  | nil => cases h
  | cons x t ih =>
    obtain ⟨d, e⟩ := x
    rw [List.lookup_cons] at h
    split at h
    · rename_i he
      cases h
      rw [beq_iff_eq] at he
      rw [he]
      exact List.mem_cons_self ..
    · exact List.mem_cons_of_mem _ (ih h)
theorem p_isi {cv : V} {u : Value} {b : String → Option Bool} {tab : List (Addr × Bool)} (hc : ClsV cv u) (ht : TabOk K u b tab) (ha : EP K Z ρ ta ma) : EP K Z ρ (tCB (rIsi K) (tCons ta (tCons (tC cv) tNil))) (op1 (isiF b tab) ma) := fun W0 W σ e Q Ψ Ξ hm k kx =>
  ha W0 W σ e _ _ _ hm (fun a v W1 g p z => by
    obtain ⟨r, er, z⟩ := z
    have dat : ∀ {n : String}, tyN a = some n → (b n).map PV.bl = some r → ∃ (x c : V) (t u : Value) (b : Bool), [v, cv] = [x, c] ∧ ClsV c u ∧ TyX K W1.h x t ∧ PySem.W.kitOne K t u = some b ∧ Q (.bl b) W1.h := fun {n} hn er => by
      cases hk : b n with
      | none => rw [hk] at er; cases er
      | some d =>
        rw [hk] at er
        cases er
        exact ⟨v, cv, .type n, u, d, rfl, hc, tyx_of hn g.ok.sub p, ht.1 n d hk, k (.bl d) _ W1 g rfl z⟩
    unfold isiF at er
    split at er
    · rename_i c ns as
      cases hl : tab.lookup c with
      | none => rw [hl] at er; cases er
      | some d =>
        rw [hl] at er
        cases er
        obtain ⟨h1, h2⟩ := ht.2 _ (lookup_mem hl)
        obtain ⟨q, dx, vs, rfl, h3, _⟩ := p
        exact ⟨_, cv, .ref c, u, d, rfl, hc, .base (.ins (g.ok.sub _ _ h3) h1.cl h1.t1 h1.t2 h1.t3 h1.t4), h2, k (.bl d) _ W1 g rfl z⟩
    · split at er
      · rename_i n hn
        exact dat hn er
      · cases er) kx
theorem tab_b {c : String} : TabOk K (.type c) (fun n => kitB n c) [] := ⟨fun n r h => kit_ty h, fun x hx => by cases hx⟩
end
theorem isi_int (a : PV) (h : tyN a ≠ none) : isiB "int" a = some (.bl (match a with | .int _ => true | .bl _ => true | _ => false)) := by
  have h1 : kitB "NoneType" "int" = some false := by decide +kernel
  have h2 : kitB "bool" "int" = some true := by decide +kernel
  have h3 : kitB "int" "int" = some true := by decide +kernel
  have h4 : kitB "str" "int" = some false := by decide +kernel
  have h5 : kitB "list" "int" = some false := by decide +kernel
  have h6 : kitB "tuple" "int" = some false := by decide +kernel
  have h7 : kitB "dict" "int" = some false := by decide +kernel
  cases a <;> simp only [isiB, isiF, tyN, h1, h2, h3, h4, h5, h6, h7, Option.map] <;> first | rfl | exact absurd rfl h
theorem isi_bool (a : PV) (h : tyN a ≠ none) : isiB "bool" a = some (.bl (match a with | .bl _ => true | _ => false)) := by
  have h1 : kitB "NoneType" "bool" = some false := by decide +kernel
  have h2 : kitB "bool" "bool" = some true := by decide +kernel
  have h3 : kitB "int" "bool" = some false := by decide +kernel
  have h4 : kitB "str" "bool" = some false := by decide +kernel
  have h5 : kitB "list" "bool" = some false := by decide +kernel
  have h6 : kitB "tuple" "bool" = some false := by decide +kernel
  have h7 : kitB "dict" "bool" = some false := by decide +kernel
  cases a <;> simp only [isiB, isiF, tyN, h1, h2, h3, h4, h5, h6, h7, Option.map] <;> first | rfl | exact absurd rfl h
theorem isi_str (a : PV) (h : tyN a ≠ none) : isiB "str" a = some (.bl (match a with | .str _ => true | _ => false)) := by
  have h1 : kitB "NoneType" "str" = some false := by decide +kernel
  have h2 : kitB "bool" "str" = some false := by decide +kernel
  have h3 : kitB "int" "str" = some false := by decide +kernel
  have h4 : kitB "str" "str" = some true := by decide +kernel
  have h5 : kitB "list" "str" = some false := by decide +kernel
  have h6 : kitB "tuple" "str" = some false := by decide +kernel
  have h7 : kitB "dict" "str" = some false := by decide +kernel
  cases a <;> simp only [isiB, isiF, tyN, h1, h2, h3, h4, h5, h6, h7, Option.map] <;> first | rfl | exact absurd rfl h
theorem isi_list (a : PV) (h : tyN a ≠ none) : isiB "list" a = some (.bl (match a with | .lst _ => true | _ => false)) := by
  have h1 : kitB "NoneType" "list" = some false := by decide +kernel
  have h2 : kitB "bool" "list" = some false := by decide +kernel
  have h3 : kitB "int" "list" = some false := by decide +kernel
  have h4 : kitB "str" "list" = some false := by decide +kernel
  have h5 : kitB "list" "list" = some true := by decide +kernel
  have h6 : kitB "tuple" "list" = some false := by decide +kernel
  have h7 : kitB "dict" "list" = some false := by decide +kernel
  cases a <;> simp only [isiB, isiF, tyN, h1, h2, h3, h4, h5, h6, h7, Option.map] <;> first | rfl | exact absurd rfl h
theorem isi_tuple (a : PV) (h : tyN a ≠ none) : isiB "tuple" a = some (.bl (match a with | .tup _ => true | _ => false)) := by
  have h1 : kitB "NoneType" "tuple" = some false := by decide +kernel
  have h2 : kitB "bool" "tuple" = some false := by decide +kernel
  have h3 : kitB "int" "tuple" = some false := by decide +kernel
  have h4 : kitB "str" "tuple" = some false := by decide +kernel
  have h5 : kitB "list" "tuple" = some false := by decide +kernel
  have h6 : kitB "tuple" "tuple" = some true := by decide +kernel
  have h7 : kitB "dict" "tuple" = some false := by decide +kernel
  cases a <;> simp only [isiB, isiF, tyN, h1, h2, h3, h4, h5, h6, h7, Option.map] <;> first | rfl | exact absurd rfl h
mutual
def light : PV → Bool
  | .non => true
  | .bl _ => true
  | .int _ => true
  | .str _ => true
  | .tup as => lights as
  | .cls _ => true
  | .ptr _ => true
  | .hole => true
  | _ => false
def lights : List PV → Bool
  | [] => true
  | a :: as => light a && lights as
end
mutual
theorem light_p {K : PySem.W.Frag} {R R2 : Hp} {p : Addr} {us : List V} (e : ∀ q o, q ≠ p → R q = some o → R2 q = some o) (hp : R p = some (.lst us)) : ∀ {a : PV} {v : V}, light a = true → (mp K a).p R v → (mp K a).p R2 v
  | .non, _, _, h => h
  | .bl _, _, _, h => h
  | .int _, _, _, h => h
  | .str _, _, _, h => h
  | .tup as, v, hl, h => by
    obtain ⟨q, vs, h1, h2, h3⟩ := h
    refine ⟨q, vs, h1, ?_, lights_p e hp hl h3⟩
    rcases h2 with h2 | ⟨o, xs, n, k⟩
    · exact .inl (h2.elim (fun h2 => .inl (e _ _ (fun z => by rw [z, hp] at h2; cases h2) h2)) fun ⟨o, h2⟩ => .inr ⟨o, e _ _ (fun z => by rw [z, hp] at h2; cases h2) h2⟩)
    · exact .inr ⟨o, xs, n, k⟩
  | .cls _, _, _, h => h
  | .ptr _, _, _, h => h
  | .hole, _, _, h => h
theorem lights_p {K : PySem.W.Frag} {R R2 : Hp} {p : Addr} {us : List V} (e : ∀ q o, q ≠ p → R q = some o → R2 q = some o) (hp : R p = some (.lst us)) : ∀ {as : List PV} {vs : List V}, lights as = true → Al R vs (mps K as) → Al R2 vs (mps K as)
  | [], _, _, .nil => .nil
  | a :: as, _, hl, .cons h t => by
    rw [lights, Bool.and_eq_true] at hl
    exact .cons (light_p e hp hl.1 h) (lights_p e hp hl.2 t)
end
end SL
namespace SL
open PySem PySem.Spec PyProof.Rows L2 Evl NF WL
variable [PW]
def Cl.light : Cl → Bool
  | .lst as => lights as
  | .ins _ _ _ as => lights as
  | .dic _ as => lights as
  | .dit _ as => lights as
  | .bag2 => true
  | .bag3 => true
def LightS (S : Sto) : Prop := ∀ p c, S p = some c → c.light = true
def lend (m : W PV) : W PV := fun S Ψ _ => LightS S ∧ m S (fun a S2 => light a = true ∧ LightS S2 ∧ Ψ a S2) fun _ _ => False
def lendO (m : W (List PV)) : W (List PV) := fun S Ψ _ => LightS S ∧ m S (fun as S2 => lights as = true ∧ LightS S2 ∧ Ψ as S2) fun _ _ => False
def cutR (R : Hp) (p : Addr) : Hp := fun q => if q = p then none else R q
theorem cutR_ne {R : Hp} {p q : Addr} (h : q ≠ p) : cutR R p q = R q := by unfold cutR; rw [if_neg h]
theorem cutR_same {R : Hp} {p : Addr} : cutR R p p = none := by unfold cutR; rw [if_pos rfl]
section
variable {K : PySem.W.Frag} {Z : WX} {W0 Wa W1 W2 W3 : Wd} {σ : L2.St} {ρ : List Sl} {i j : Nat} {te : TE} {me : W PV} {ms : W (List PV)}
theorem sq_cut {R : Hp} {p q : Addr} {us vs : List V} (hp : R p = some (.lst us)) (h : SqT K R q vs) : SqT K (cutR R p) q vs := by
  rcases h with (h | ⟨o, h⟩) | h
  · exact .inl (.inl (by rw [cutR_ne fun z => by rw [z, hp] at h; cases h]; exact h))
  · exact .inl (.inr ⟨o, by rw [cutR_ne fun z => by rw [z, hp] at h; cases h]; exact h⟩)
  · exact .inr h
mutual
theorem NKey.cut {R : Hp} {p : Addr} {us : List V} (hp : R p = some (.lst us)) : ∀ {k : NestedKey} {v : V}, NKey K R k v → NKey K (cutR R p) k v
  | _, _, .int i => .int i
  | _, _, .text z => .text z
  | _, _, .tup h hs => .tup (sq_cut hp h) (NKeys.cut hp hs)
theorem NKeys.cut {R : Hp} {p : Addr} {us : List V} (hp : R p = some (.lst us)) : ∀ {ks : List NestedKey} {vs : List V}, NKeys K R ks vs → NKeys K (cutR R p) ks vs
  | _, _, .nil => .nil
  | _, _, .cons h hs => .cons (NKey.cut hp h) (NKeys.cut hp hs)
end
theorem Cl.ok.cut {R H : Hp} {p q : Addr} {us : List V} {c : Cl} (h : c.ok K R H q) (l : c.light = true) (hp : R p = some (.lst us)) : c.ok K (cutR R p) H q := by
  have e : ∀ q o, q ≠ p → R q = some o → cutR R p q = some o := fun q o n h => by rw [cutR_ne n]; exact h
  cases c with
  | lst as => obtain ⟨vs, h, a⟩ := h; exact ⟨vs, h, lights_p e hp l a⟩
  | ins c dx ns as => obtain ⟨vs, h, n, a⟩ := h; exact ⟨vs, h, n, lights_p e hp l a⟩
  | dic ks as => obtain ⟨vs, h, n, a⟩ := h; exact ⟨vs, h, n, lights_p e hp l a⟩
  | dit ks as => obtain ⟨xs, h, n, k, a⟩ := h; exact ⟨xs, h, n, fun x hx => ⟨NKey.cut hp (k x hx).1, (k x hx).2⟩, lights_p e hp l a⟩
  | bag2 => exact h
  | bag3 => exact h
theorem unlend {p : Addr} {us : List V} (hr : Wa.r p = none) (g : Go K ⟨upd Wa.r p (.lst us), Wa.h, Wa.s⟩ W2) (hl : LightS W2.s) : Go K Wa ⟨cutR W2.r p, W2.h, W2.s⟩ := by
  have hp : W2.r p = some (.lst us) := g.le.r _ _ upd_same
  refine ⟨⟨fun q o hq => ?_, fun q c hc => ?_⟩, fun q o hq => ?_, g.le.h, fun q o hq t e ns => ?_, g.le.d, g.le.n⟩
  · have hq' : cutR W2.r p q = some o := hq
    by_cases c : q = p
    · subst c
      rw [cutR_same] at hq'
      cases hq'
    · rw [cutR_ne c] at hq'
      exact g.ok.sub _ _ hq'
  · have a := (g.ok.cell q c hc).1
    have b := (g.ok.cell q c hc).2
    refine ⟨?_, b.cut (hl q c hc) hp⟩
    show cutR W2.r p q = none
    by_cases e : q = p
    · subst e
      exact cutR_same
    · rw [cutR_ne e]
      exact a
  · have c : q ≠ p := fun z => by rw [z, hr] at hq; cases hq
    show cutR W2.r p q = some o
    rw [cutR_ne c]
    exact g.le.r _ _ (by show upd Wa.r p _ q = _; rw [upd_ne c]; exact hq)
  · show cutR W2.r p q = none
    by_cases c : q = p
    · subst c
      exact cutR_same
    · rw [cutR_ne c]
      exact g.le.w q o hq t (by show upd Wa.r p _ q = _; rw [upd_ne c]; exact e) ns
theorem lend_core {as : List PV} (e : En K W0 Wa σ ρ) (h : ρ[i]? = some (.own as)) : ∃ p us, Wa.r p = none ∧ En K W0 ⟨upd Wa.r p (.lst us), Wa.h, Wa.s⟩ σ (ρ.set i (.val (.lst as))) := by
  obtain ⟨u, h1, p, rfl, h2, vs, h3, h4, h5, h6⟩ := e.sl i _ h
  refine ⟨p, vs, h4, ?_⟩
  obtain ⟨W', e1, e2, e3, e4⟩ := e.calm h
  have ex : Ex Wa.r (upd Wa.r p (.lst vs)) := Ex.new h4
  have hi : i < ρ.length := (List.getElem?_eq_some_iff.mp h).1
  refine ⟨⟨fun q o (hq : upd Wa.r p (.lst vs) q = some o) => ?_, fun q c hc => ?_⟩, ⟨e.le.r.trans ex, e.le.h, fun q o hq t z ns => ?_, e.le.d, e.le.n⟩, e4.len, fun k s hk => ?_, e4.ne⟩
  · by_cases c : q = p
    · subst c
      rw [upd_same] at hq
      cases hq
      exact h3
    · rw [upd_ne c] at hq
      exact e.ok.sub _ _ hq
  · have nq : q ≠ p := fun z => by
      have hc' : Wa.s q = some c := hc
      rw [z, h5] at hc'
      cases hc'
    have a := (e.ok.cell q c hc).1
    have b := (e.ok.cell q c hc).2
    exact ⟨by show upd Wa.r p _ q = none; rw [upd_ne nq]; exact a, b.stay ex fun _ h => h⟩
  · have nq : q ≠ p := fun y => by rw [y, h2] at hq; cases hq
    show upd Wa.r p _ q = none
    rw [upd_ne nq]
    exact e.le.w _ _ hq t z ns
  · by_cases c : i = k
    · subst c
      rw [List.getElem?_set_self hi] at hk
      cases hk
      exact ⟨_, h1, _, rfl, p, vs, rfl, upd_same, h6.mono ex⟩
    · rw [List.getElem?_set_ne c] at hk
      obtain ⟨u, k1, k2⟩ := e.sl k s hk
      refine ⟨u, k1, ?_⟩
      cases s with
      | un => trivial
      | val a =>
        obtain ⟨v, rfl, h⟩ := k2
        exact ⟨v, rfl, MP.mono _ ex h⟩
      | own bs =>
        obtain ⟨q, rfl, q1, us, q2, q3, q4, q5⟩ := k2
        have nq : q ≠ p := fun z => by
          subst z
          exact e.ne i k _ _ q c h hk h1 k1
        exact ⟨q, rfl, q1, us, q2, by show upd Wa.r p _ q = none; rw [upd_ne nq]; exact q3, q4, q5.mono ex⟩
theorem p_lend {as : List PV} (h : ρ[i]? = some (.own as)) (he : EP K Z (ρ.set i (.val (.lst as))) te me) : EP K Z ρ te (lend me) := fun W0 W σ e Q Ψ Ξ hm k kx => by
  obtain ⟨p, us, hr, e2⟩ := lend_core e h
  refine he W0 _ σ e2 _ _ _ hm.2 (fun a v W2 g pv ⟨la, ls, z⟩ => ?_) kx0
  have hp : W2.r p = some (.lst us) := g.le.r _ _ upd_same
  exact k a v ⟨cutR W2.r p, W2.h, W2.s⟩ (unlend hr g ls) (light_p (R2 := cutR W2.r p) (fun q o n h => by rw [cutR_ne n]; exact h) hp la pv) z
theorem o_lend {as : List PV} (h : ρ[i]? = some (.own as)) (he : EO K Z (ρ.set i (.val (.lst as))) te ms) : EO K Z ρ te (lendO ms) := fun W0 W σ e Q Ψ Ξ hm k kx => by
  obtain ⟨p, us, hr, e2⟩ := lend_core e h
  refine he W0 _ σ e2 _ _ _ hm.2 (fun bs v W2 g r ⟨la, ls, z⟩ => ?_) kx0
  have hp : W2.r p = some (.lst us) := g.le.r _ _ upd_same
  obtain ⟨q, rfl, hq, vs, h1, h2, h3, h4⟩ := r
  refine k bs _ ⟨cutR W2.r p, W2.h, W2.s⟩ (unlend hr g ls) ⟨q, rfl, hq, vs, h1, ?_, h3, lights_p (R2 := cutR W2.r p) (fun q o n h => by rw [cutR_ne n]; exact h) hp la h4⟩ z
  show cutR W2.r p q = none
  by_cases c : q = p
  · subst c
    exact cutR_same
  · rw [cutR_ne c]
    exact h2
/-- list(range(n)) -/
def lrF : PV → Option (List PV)
  | .int n => if -(2 ^ 60) < n ∧ n ≤ 100000 then some ((List.range n.toNat).map fun i : Nat => .int (i : Int)) else none
  | _ => none
def lrO (ma : W PV) : W (List PV) := bind ma fun a => lift (lrF a)
theorem p_dic : EP K Z ρ tDNewK (ret (.dic [] [])) := fun W0 W σ e Q Ψ Ξ hm k kx p hp => k (.dic [] []) _ ⟨upd W.r p (.dK []), upd W.h p (.dK []), W.s⟩ (new_set e.ok hp) ⟨p, [], rfl, upd_same, rfl, .nil⟩ hm
end
theorem ps_any {X : Cx} {st : Stmt} : PS X st (fun _ _ _ => False) := ⟨fun _ _ _ _ _ _ h => h.elim⟩
section
variable {P : Program} {w : World} {K : PySem.W.Frag} {mg : Str → Option Value} {base : Heap} {k : Nat} {f : Addr} {fd : FuncData} {ps : List Str}
def outW (s n : PV) : W RV := fun S Ψ _ => ∃ (p : Addr) (k : Int), s = .ptr p ∧ S p = some .bag2 ∧ n = .int k ∧ 0 < k ∧ k < 2 ^ 60 ∧ ∀ d : Int, 0 ≤ d → d < k → Ψ (.v (.int d)) S
def bagW (scr at_ : PV) : W RV := fun S Ψ _ => ∃ (ns : List Int) (j : Nat), scr = .scr ns ∧ at_ = .int (j : Int) ∧ ns.length ≤ 1000 ∧ j ≤ 1000 ∧ ∀ (a b : Int), Ψ (.o [.int a, .int b]) S
/-- a bag's place changes, all else stands -/
theorem bag_go {Wa : Wd} {p : Addr} {c : Cl} {H' : Hp} (o : Ok K Wa) (hs : Wa.s p = some c) (x : ∀ q u, q ≠ p → Wa.h q = some u → H' q = some u) (hc : c.ok K Wa.r H' p) : Go K Wa ⟨Wa.r, H', Wa.s⟩ := by
  have hr := (o.cell p c hs).1
  refine ⟨⟨fun q u hq => x q u (fun z => by rw [z] at hq; rw [show Wa.r p = some u from hq] at hr; cases hr) (o.sub _ _ hq), fun q d hq => ?_⟩, Ex.refl _, fun q u n h => x q u (fun z => by rw [z, hs] at n; cases n) h, fun q u h t e _ => e, fun q d h => by
    by_cases e : q = p
    · subst e
      exact hc.there
    · obtain ⟨v, a, b⟩ := o.stands h
      exact ⟨v, x q v e a, b⟩, fun q d h n => ?_⟩
  · have a := (o.cell q d hq).1
    have b := (o.cell q d hq).2
    refine ⟨a, ?_⟩
    by_cases e : q = p
    · subst e
      have hq' : Wa.s q = some d := hq
      rw [hs] at hq'
      cases hq'
      exact hc
    · exact b.stay (Ex.refl _) fun u h => x q u e h
  · have h' : Wa.s q = some d := h
    rw [n] at h'
    cases h'
theorem sub_out : ∀ vs H Q E, spW K (ar2 outW) vs H Q E → spOut vs H Q E := fun vs H Q E h => by
  obtain ⟨Wa, as, Ψ, Ξ, rfl, o, al, hF, q, _⟩ := h
  obtain ⟨a, b, rfl, p, n, rfl, hs, rfl, n0, n8, z⟩ := ar2_inv hF
  obtain ⟨v, v2, rfl, h1, h2⟩ := Al.inv2 al
  cases h1
  cases h2
  have hb := (o.cell p _ hs).2
  refine ⟨p, n, rfl, hb, n0, n8, fun d H' d0 dn hb' x => ?_⟩
  exact q (.v (.int d)) (.int d) ⟨Wa.r, H', Wa.s⟩ (bag_go o hs (fun q u e h => x q u e h) hb') rfl (z d d0 dn)
theorem grown_go {Wa : Wd} {H' : Hp} (o : Ok K Wa) (e : Ex Wa.h H') : Go K Wa ⟨Wa.r, H', Wa.s⟩ := ⟨⟨fun q u hq => e _ _ (o.sub _ _ hq), fun q d hq => by
  have a := (o.cell q d hq).1
  have b := (o.cell q d hq).2
  exact ⟨a, b.stay (Ex.refl _) fun u h => e _ _ h⟩⟩, Ex.refl _, fun q u n h => e _ _ h, fun q u h t e _ => e, fun q d h => (o.stands h).imp fun _ z => ⟨e _ _ z.1, z.2⟩, fun q d h n => by
  have h' : Wa.s q = some d := h
  rw [n] at h'
  cases h'⟩
theorem sub_bag : ∀ vs H Q E, spW K (ar2 bagW) vs H Q E → spBag K vs H Q E := fun vs H Q E h => by
  obtain ⟨Wa, as, Ψ, Ξ, rfl, o, al, hF, q, _⟩ := h
  obtain ⟨a, b, rfl, ns, j, rfl, rfl, nl, jl, z⟩ := ar2_inv hF
  obtain ⟨v, v2, rfl, h1, h2⟩ := Al.inv2 al
  obtain ⟨p, rfl, hp⟩ := h1
  cases h2
  refine ⟨p, ns, j, rfl, ex_l o.sub hp, nl, jl, fun st H' nst e hb => ?_⟩
  obtain ⟨a, b, hb⟩ := hb
  exact q (.o [.int a, .int b]) (.ref st) ⟨Wa.r, H', Wa.s⟩ (grown_go o e) ⟨st, rfl, nst, _, hb, o.rnone nst, o.snone nst, .cons rfl (Al.one rfl)⟩ (z a b)
def isBag2 : List PV → Bool
  | [.int _, .int _] => true
  | _ => false
def bag2W (ms : W (List PV)) : W PV := fun S Ψ Ξ => ms S (fun as S2 => isBag2 as = true ∧ ∀ p, S2 p = none → Ψ (.ptr p) (put S2 p .bag2)) Ξ
theorem new_bag {Wa W1 : Wd} {as : List PV} {v : V} {c : Cl} (g : Go K Wa W1) (r : ROk K Wa W1 v as) (hc : ∀ vs p, W1.h p = some (.lst vs) → Al W1.r vs (mps K as) → c.ok K W1.r W1.h p) : ∃ p W3, v = .ref p ∧ W1.s p = none ∧ W3.h = W1.h ∧ W3.r = W1.r ∧ W3.s = put W1.s p c ∧ Go K Wa W3 := by
  obtain ⟨p, rfl, hp, vs, h1, h2, h3, h4⟩ := r
  refine ⟨p, ⟨W1.r, W1.h, put W1.s p c⟩, rfl, h3, rfl, rfl, rfl, ⟨g.ok.sub, fun q d hd => ?_⟩, g.le.r, g.le.h, g.le.w, g.le.d, fun q d hd n => ?_⟩
  · have hd' : put W1.s p c q = some d := hd
    by_cases e : q = p
    · subst e
      rw [put_same] at hd'
      cases hd'
      exact ⟨h2, hc vs q h1 h4⟩
    · rw [put_ne e] at hd'
      exact g.ok.cell q d hd'
  · by_cases e : q = p
    · subst e
      exact hp
    · have hd' : put W1.s p c q = some d := hd
      rw [put_ne e] at hd'
      exact g.le.n q d hd' n
variable {Z : WX} {ρ : List Sl} {te : TE} {ms : W (List PV)}
theorem p_bag2 (h : EO K Z ρ te ms) : EP K Z ρ te (bag2W ms) := fun W0 W σ e Q Ψ Ξ hm k kx => h W0 W σ e _ _ _ hm (fun as v W1 g1 r ⟨hb, h2⟩ => by
  match as, hb with
  | [.int a, .int b], _ =>
    obtain ⟨p, W3, rfl, sp, e1, _, e2, g3⟩ := new_bag (c := .bag2) g1 r fun vs p hp al => by
      obtain ⟨x, y, rfl, p2, p3⟩ := Al.inv2 al
      cases p2
      cases p3
      exact ⟨a, b, hp⟩
    rw [← e1]
    exact k (.ptr p) _ W3 g3 rfl (by rw [e2]; exact h2 p sp)) kx
def spEnd (K : PySem.W.Frag) : Sp := fun vs H Q _ => ∃ (a : Addr) (ns : List Int), vs = [.ref a] ∧ SqL K H a (ns.map V.int) ∧ ns.length ≤ 63 ∧ ∀ H', Q (.bl true) H'
def S0 : Sto := fun _ => none
theorem ad_end {F : PV → W RV} (hF : ∀ ns : List Int, ns.length ≤ 63 → F (.scr ns) S0 (fun r _ => r = .v (.bl true)) fun _ _ => False) (Fn : FnG P w K mg base CX0 k f fd ps (spW K (ar1 F))) : FnG P w K mg base CX0 k f fd ps (spEnd K) := FnG.imp Fn fun vs H Q E h => by
  obtain ⟨a, ns, rfl, hs, hl, q⟩ := h
  refine ⟨⟨H, H, S0⟩, [.scr ns], fun r _ => r = .v (.bl true), fun _ _ => False, rfl, ⟨Ex.refl _, fun p c h => by cases h⟩, .cons ⟨a, rfl, hs⟩ .nil, hF ns hl, fun r v W2 _ rr z => ?_, fun _ _ _ _ _ _ z => z.elim⟩
  subst z
  cases rr
  exact q _
end
end SL
namespace SL
open PySem PySem.Spec PyProof.Rows L2 Evl NF WL
variable [PW]
section
variable {P : Program} {w : World} {K : PySem.W.Frag} {mg : Str → Option Value} {base : Heap} {f : Addr} {fd : FuncData} {F : List PV → W RV}
theorem FnOk.sub {CX : CXT} {k : Nat} {ps : List Str} {sp sp' : Sp} (G : FnOk P w K mg base CX k f fd ps sp) (h : ∀ vs H Q E, sp' vs H Q E → sp vs H Q E) : FnOk P w K mg base CX k f fd ps sp' :=
  ⟨fun vs H Q E z => G.len vs H Q E (h vs H Q E z), fun A out s H args us vs Q E hr he hb hv hs => G.run A out s H args us vs Q E hr he hb hv (h vs H Q E hs)⟩
theorem foW {x qual : Str} {st : Stmt} {N ps : List Str} {k : Nat} (Fn : Fun K x qual st f fd) (S : FnScope N ps (defScope st)) (hN : ps.length ≤ N.length) (hl : ∀ as S Ψ Ξ, F as S Ψ Ξ → as.length = ps.length)
    (hb : ∀ (cdv : Value) (A : Around) (outer : List Env) (s : Shared) (H : Hp) (E : XK), Room k (A.deeper (envOfC qual (defScope st) s.heap.objs.size f cdv)) → ∃ t, PSs (cxOf CX0 P w K mg base N qual (defScope st) f cdv A outer s H E).nox (defBody st) t ∧
      ∀ as S Ψ Ξ, F as S Ψ Ξ → ∃ m : W (Fl Unit), runF m S Ψ Ξ ∧ GP K (fun cls d _ H => E cls d H) (as.map .val ++ List.replicate (N.length - as.length) .un) t (fun _ => List.replicate N.length .un) m) : FnOk P w K mg base CX0 (k + 1) f fd ps (spW K F) :=
  Fun.ok Fn S (sp_len hl) fun cdv A out s H vs Q E hr h => by
    obtain ⟨t, ht, b⟩ := hb cdv A out s H E hr
    exact ⟨t, ht, fnW_core h (fun as S Ψ Ξ z => by rw [hl as S Ψ Ξ z]; exact hN) b⟩
end
section
variable {K : PySem.W.Frag} {Z : WX} {W0 W1 W2 W3 : Wd} {σ : L2.St} {ρ : List Sl} {i j : Nat} {ta tb te : TE} {tA : TA} {ma mb me : W PV} {ms : W (List PV)} {F : List PV → W RV} {S : Type} {pat : S → List Sl} {t : TS}
theorem zip_lookup {R : Hp} {f : Str} : ∀ {ns : List Str} {vs : List V} {as : List PV}, vs.length = ns.length → Al R vs (mps K as) → ∀ {a : PV}, (ns.zip as).lookup f = some a → ∃ v, (ns.zip vs).lookup f = some v ∧ (mp K a).p R v
  | [], _, _, _, _, _, h => by simp at h
  | _ :: _, [], _, h, _, _, _ => by cases h
  | n :: ns, v :: vs, [], _, al, _, h => by cases al
  | n :: ns, v :: vs, b :: as, hl, .cons p t, a, h => by
    rw [List.zip_cons_cons, List.lookup_cons] at h ⊢
    split at h
    · rename_i he
      cases h
      exact ⟨v, rfl, p⟩
    · rename_i he
      exact zip_lookup (Nat.succ.inj hl) t h
/-- e.f -/
def fldG (c : Addr) (f : Str) (S : Sto) : PV → Option PV
  | .ptr p => match S p with
    | some (.ins d _ ns as) => if d = c then (ns.zip as).lookup f else none
    | _ => none
  | .ins d ns as => if d = c then (ns.zip as).lookup f else none
  | _ => none
def fldW (c : Addr) (f : Str) (ma : W PV) : W PV := bind ma fun a => look fun S => fldG c f S a
theorem p_fld {c : Addr} {f : Str} (hc : Cls K c) (hn : NoAttr K c f) (ha : EP K Z ρ ta ma) : EP K Z ρ (tFld K ta f) (fldW c f ma) := fun W0 W σ e Q Ψ Ξ hm k kx =>
  ha W0 W σ e _ _ _ hm (fun a v W1 g p z => by
    obtain ⟨b, eb, z⟩ := z
    unfold fldG at eb
    split at eb
    · rename_i q
      cases p
      dsimp only at eb
      split at eb
      · rename_i d dx ns as hs
        split at eb
        · rename_i hd
          subst hd
          obtain ⟨vs, h1, h2, h3⟩ := (g.ok.cell q _ hs).2
          obtain ⟨u, hu, pu⟩ := zip_lookup h2 h3 eb
          exact ⟨q, d, dx, _, u, rfl, h1, hc, hn, hu, k b u W1 g pu z⟩
        · cases eb
      · cases eb
    · rename_i d ns as
      dsimp only at eb
      split at eb
      · rename_i hd
        subst hd
        obtain ⟨q, dx, vs, rfl, h1, h2, h3⟩ := p
        obtain ⟨u, hu, pu⟩ := zip_lookup h2 h3 eb
        exact ⟨q, d, dx, _, u, rfl, g.ok.sub _ _ h1, hc, hn, hu, k b u W1 g pu z⟩
      · cases eb
    · cases eb) kx
/-- x.f = e, where the instance may change and has no f yet -/
theorem putF_new {f : Str} {v : V} : ∀ {fs : List (Str × V)}, fs.lookup f = none → putF f v fs = fs ++ [(f, v)]
  | [], _ => rfl
  | (g, x) :: r, h => by
    rw [List.lookup_cons] at h
    split at h
    · cases h
    · rename_i he
      have hne : ¬ g = f := fun z => by
        subst z
        simp at he
      rw [putF, if_neg hne, putF_new h]
      rfl
theorem zip_snoc {α β : Type} : ∀ {ns : List α} {vs : List β} {n : α} {v : β}, vs.length = ns.length → ns.zip vs ++ [(n, v)] = (ns ++ [n]).zip (vs ++ [v])
  | [], [], _, _, _ => rfl
  | _ :: ns, _ :: vs, _, _, h => by
    rw [List.zip_cons_cons, List.cons_append, List.cons_append, List.cons_append, List.zip_cons_cons, zip_snoc (by simpa using h)]
  | [], _ :: _, _, _, h => by cases h
  | _ :: _, [], _, _, h => by cases h
theorem zip_none {f : Str} : ∀ {ns : List Str} {vs : List V}, ns.contains f = false → (ns.zip vs).lookup f = none
  | [], _, _ => by simp
  | _ :: _, [], _ => by simp
  | n :: ns, v :: vs, h => by
    rw [List.contains_cons, Bool.or_eq_false_iff] at h
    rw [List.zip_cons_cons, List.lookup_cons, h.1]
    exact zip_none h.2
def newFld (p : Addr) (c : Addr) (f : Str) (a : PV) : W Unit := fun S Ψ _ => ∃ dx ns as, S p = some (.ins c dx ns as) ∧ ns.contains f = false ∧ ns.length < 900 ∧ as.length = ns.length ∧ Ψ () (put S p (.ins c dx (ns ++ [f]) (as ++ [a])))
theorem fld_core {c : Addr} {f : Str} {p : Addr} {Wa : Wd} {D : Ends} {Ψ : Sto → Prop} {Ξ : XV → Sto → Prop} (hc : Cls K c) (hn : NoAttr K c f) (h : ρ[i]? = some (.val (.ptr p))) (e : En K W0 Wa σ ρ) (ht : EP K Z ρ te me) (hm : (bind me fun a => newFld p c f a) Wa.s (fun _ S => Ψ S) Ξ)
    (k : ∀ W2, En K W0 W2 σ ρ → Ψ W2.s → D.nx σ W2.h) (kx : KX K Z σ Wa Ξ) : sFld K (tVar i) te f D σ Wa.h :=
  ht W0 Wa σ e _ _ _ hm (fun a v W1 g pv z => by
    obtain ⟨dx, ns, as, hs, hf, hl, ha, z⟩ := z
    have e1 := e.go g
    obtain ⟨u, h1, w, rfl, h2⟩ := e1.sl i _ h
    cases h2
    obtain ⟨vs, k1, k2, k3⟩ := (g.ok.cell p _ hs).2
    refine ⟨_, h1, p, c, dx, _, rfl, k1, hc, hn, ?_, ?_⟩
    · rw [List.length_zip]
      omega
    · rw [putF_new (zip_none hf), zip_snoc k2]
      exact k _ (e1.go (put_cell (c2 := .ins c dx (ns ++ [f]) (as ++ [a])) g.ok hs ⟨vs ++ [v], upd_same, by simp [k2], by rw [mps_app]; exact k3.app (Al.one pv)⟩)) z) kx
theorem gp_fld1 {c : Addr} {f : Str} {p : Addr} {s : S} (hc : Cls K c) (hn : NoAttr K c f) (h : ρ[i]? = some (.val (.ptr p))) (he : EP K Z ρ te me) (hp : pat s = ρ) : GP K Z ρ (sFld K (tVar i) te f) pat (bind me fun a => bind (newFld p c f a) fun _ => ret (.nx s)) := fun W0 W σ D e Φ Ξ hm q =>
  fld_core hc hn h e he (Ψ := fun S => Φ (.nx s) S) hm (fun W2 e2 z => q.nx W2 σ s (hp ▸ e2) z) (q.x e)
/-- a new instance, settled behind its __init__ -/
def makeW (c : Addr) (F : List PV → W RV) (ds : List PV) (ms : W (List PV)) : W PV := bind ms fun vs => fun S Ψ Ξ => ∀ x dx, S x = none → S dx = none → F (.ptr x :: (vs ++ ds)) (put S x (.ins c dx [] [])) (fun r S2 => r = .v .non ∧ ∃ ns as, S2 x = some (.ins c dx ns as) ∧ Ψ (.ins c ns as) (rem S2 x)) fun _ _ => False
theorem make_go {Wa Wb : Wd} {x c dx : Addr} {ns : List Str} {as : List PV} (o : Ok K Wa) (g : Go K Wa Wb) (hx : Wa.h x = none) (hs : Wb.s x = some (.ins c dx ns as)) : ∃ W3, W3.h = Wb.h ∧ W3.s = rem Wb.s x ∧ Go K Wa W3 ∧ (mp K (.ins c ns as)).p W3.r (.ref x) := by
  obtain ⟨vs, h1, h2, h3⟩ := (g.ok.cell x _ hs).2
  have hr := (g.ok.cell x _ hs).1
  have ex : Ex Wb.r (upd Wb.r x (.ins c dx (ns.zip vs))) := Ex.new hr
  exact ⟨⟨upd Wb.r x (.ins c dx (ns.zip vs)), Wb.h, rem Wb.s x⟩, rfl, rfl, g.trans (calm_cell g.ok hs h1), x, dx, vs, rfl, upd_same, h2, h3.mono ex⟩
end
end SL
namespace SL
open PySem PySem.Spec PyProof.Rows L2 Evl NF WL
variable [PW]
structure EqO (P : Program) (w : World) (K : PySem.W.Frag) (mg : Str → Option Value) (base : Heap) (C : Addr) (k : Nat) (sp : Sp) : Prop where
  ex : ∃ (f : Addr) (fd : FuncData), PySem.W.findIn K (.ref C) "__eq__" = some (some (.ref f)) ∧ PySem.W.isFn K (.ref f) = true ∧ FnOk P w K mg base CX0 k f fd ["self", "other"] sp ∧ Binds K fd ["self", "other"] []
def rEqO (C : Addr) (sp : Sp) : R2 := fun x y H Q => ∃ (a b dx dy : Addr) (fs gs : List (Str × V)), x = .ref a ∧ y = .ref b ∧ H a = some (.ins C dx fs) ∧ H b = some (.ins C dy gs) ∧ sp [.ref a, .ref b] H (fun v H' => ∃ r : Bool, v = .bl r ∧ Q (.bl r) H') E0
theorem op_eqO {X : Cx} {C : Addr} {k j : Nat} {sp : Sp} (L : EqO X.prog X.w X.K X.mg X.base C k sp) (hr : Room j X.A) (hk : k ≤ j) : OpR X (compareOp .Eq) (rEqO C sp) := by
  obtain ⟨f, fd, hl, hf, F, hb⟩ := L.ex
  intro pins s σ H x y u v Q I rx ry h
  obtain ⟨a, b, dx, dy, fs, gs, rfl, rfl, ea, eb, hs⟩ := h
  cases (show u = Value.ref a from rx)
  cases (show v = Value.ref b from ry)
  obtain ⟨mA, O, _⟩ := ins_get I.hok ea
  obtain ⟨od, J, _⟩ := O.look
  obtain ⟨mB, O2, _⟩ := ins_get I.hok eb
  obtain ⟨od2, J2, _⟩ := O2.look
  obtain ⟨m, fr⟩ := I.fr
  have bd := hb s [.ref a, .ref b] I.kIn rfl
  have lk : PySem.W.Looks (model X.prog X.w) s.heap (typeOf (.ref b)) (.ref C) := fun A Q E s k q => wpAny_typeOf_ref (k _ _ O2.obj) q
  have un := hr.units
  show wpAny (model X.prog X.w) X.A (richCompare .Eq (.ref a) (.ref b)) _ _ s
  refine PySem.W.cmp_K (by omega) fr I.ok.mod.kin J lk (by unfold PySem.W.notFirst; simp) hl hf (wpAny_call (codeAny_mono (F.run X.A X.stack s H ⟨[.ref a, .ref b], []⟩ [.ref a, .ref b] [.ref a, .ref b] _ E0 (hr.mono hk) I.env0 bd (.cons rfl (.cons rfl .nil)) hs) ?_))
  intro rr s2 z
  match rr, z with
  | .error y, z => exact z.elim
  | .ok (.ret u), z =>
    obtain ⟨v, H', I', rv, r, rfl, q⟩ := I.after z
    cases rv
    exact ⟨.bl r, H', I', rfl, q⟩
section
variable {K : PySem.W.Frag} {Z : WX} {W0 W1 W2 W3 : Wd} {σ : L2.St} {ρ : List Sl} {i j : Nat} {ta tb te tl : TE} {tA : TA} {ma mb me : W PV} {ms : W (List PV)} {F : List PV → W RV} {S : Type} {pat : S → List Sl} {t : TS}
theorem p_make {c : Addr} {dvs : List V} {ds : List PV} {Ex0 : XK} (hd : ∀ H, Al H dvs (mps K ds)) (ha : VP K Z ρ tA ms) : EP K Z ρ (tMake c (spW K F) dvs Ex0 tA) (makeW c F ds ms) := fun W0 W σ e Q Ψ Ξ hm k kx =>
  ha W0 W σ e _ _ _ hm (fun as vs W1 g1 al z x dx hx hdx ne => by
    have g2 := new_own (u := .own x) g1.ok hdx
    have hx2 : upd W1.h dx (.own x) x = none := by rw [upd_ne (Ne.symm ne)]; exact hx
    have g3 := new_cell (p := x) (u := .ins c dx []) (c := .ins c dx [] []) g2.ok hx2 ⟨[], upd_same, rfl, .nil⟩
    have G := g2.trans g3
    refine ⟨⟨W1.r, upd (upd W1.h dx (.own x)) x (.ins c dx []), put W1.s x (.ins c dx [] [])⟩, .ptr x :: (as ++ ds), _, _, rfl, g3.ok, .cons rfl (by rw [mps_app]; exact al.app (hd _)), z x dx (g1.ok.snone hx) (g1.ok.snone hdx), fun r v W2 g4 rr zz => ?_, fun _ _ _ _ _ _ z => z.elim⟩
    obtain ⟨rfl, ns, bs, hs, zz⟩ := zz
    cases rr
    obtain ⟨W3, e1, e2, g5, p5⟩ := make_go g1.ok (G.trans g4) hx hs
    refine ⟨rfl, ?_⟩
    rw [← e1]
    exact k _ _ W3 (g1.trans g5) p5 (by rw [e2]; exact zz)) kx
def isObj (c : Addr) (m : Str) (S : Sto) : PV → Option Unit
  | .ptr p => match S p with
    | some (.ins d _ ns _) => if d = c ∧ ns.contains m = false then some () else none
    | _ => none
  | .ins d ns _ => if d = c ∧ ns.contains m = false then some () else none
  | _ => none
theorem isObj_p {c : Addr} {m : Str} {Wa : Wd} {a : PV} {v : V} (o : Ok K Wa) (h : isObj c m Wa.s a = some ()) (p : (mp K a).p Wa.r v) : ∃ q dx fs, v = .ref q ∧ Wa.h q = some (.ins c dx fs) ∧ fs.lookup m = none := by
  unfold isObj at h
  split at h
  · rename_i q
    cases p
    split at h
    · rename_i d dx ns as hs
      split at h
      · rename_i hd
        obtain ⟨rfl, hn⟩ := hd
        obtain ⟨vs, h1, h2, h3⟩ := (o.cell q _ hs).2
        exact ⟨q, dx, _, rfl, h1, zip_none hn⟩
      · cases h
    · cases h
  · rename_i d ns as
    split at h
    · rename_i hd
      obtain ⟨rfl, hn⟩ := hd
      obtain ⟨q, dx, vs, rfl, h1, h2, h3⟩ := p
      exact ⟨q, dx, _, rfl, o.sub _ _ h1, zip_none hn⟩
    · cases h
  · cases h
/-- o.m(..) -/
def methR (c : Addr) (m : Str) (F : List PV → W RV) (ma : W PV) (ms : W (List PV)) : W RV := bind ma fun a => bind (look fun S => isObj c m S a) fun _ => bind ms fun as => noX (F (a :: as))
def methO (c : Addr) (m : Str) (F : List PV → W RV) (ma : W PV) (ms : W (List PV)) : W (List PV) := bind (methR c m F ma ms) fun r => lift (asO r)
theorem meth_core {c : Addr} {m : Str} {Wa : Wd} {Q : VK} {Ex0 : XK} {Ψ : RV → Sto → Prop} {Ξ : XV → Sto → Prop} (e : En K W0 Wa σ ρ) (ha : EP K Z ρ ta ma) (hs : VP K Z ρ tA ms) (hm : methR c m F ma ms Wa.s Ψ Ξ) (k : ∀ r v W2, Go K Wa W2 → RRk K Wa W2 v r → Ψ r W2.s → Q v W2.h) (kx : KX K Z σ Wa Ξ) : tMeth c m (spW K F) [] Ex0 ta tA σ Wa.h Q :=
  ha W0 Wa σ e _ _ _ hm (fun a v W1 g1 p z => by
    obtain ⟨_, ho, z⟩ := z
    obtain ⟨q, dx, fs, rfl, h1, h2⟩ := isObj_p g1.ok ho p
    refine ⟨q, dx, fs, rfl, h1, h2, hs W0 W1 σ (e.go g1) _ _ _ z (fun as vs W2 g2 al z => ?_) (kx.go g1)⟩
    have G := g1.trans g2
    exact ⟨W2, a :: as, _, _, rfl, g2.ok, .cons (MP.mono _ g2.le.r p) (by rw [List.append_nil]; exact al), z, fun r v W3 g3 rr zz => k r v W3 (G.trans g3) (by
      cases r with
      | v b => exact rr
      | o bs => exact ROk.back G.ok G rr) zz, fun _ _ _ _ _ _ z => z.elim⟩) kx
theorem o_meth {c : Addr} {m : Str} {Ex0 : XK} (ha : EP K Z ρ ta ma) (hs : VP K Z ρ tA ms) : EO K Z ρ (tMeth c m (spW K F) [] Ex0 ta tA) (methO c m F ma ms) := fun W0 W σ e Q Ψ Ξ hm k kx =>
  meth_core e ha hs hm (fun r v W2 g rr z => by
    obtain ⟨bs, eb, z⟩ := z
    cases r with
    | v a => cases eb
    | o cs =>
      cases eb
      exact k _ v W2 g rr z) kx
/-- len(o) -/
def lenOf : RV → Option PV
  | .v (.int n) => if 0 ≤ n ∧ n < 2 ^ 63 then some (.int n) else none
  | _ => none
def lenOW (c : Addr) (F : List PV → W RV) (ma : W PV) : W PV := bind ma fun a => bind (look fun S => isObj c "" S a) fun _ => bind (noX (F [a])) fun r => lift (lenOf r)
theorem p_lenO {c : Addr} (ha : EP K Z ρ ta ma) : EP K Z ρ (tCB (rLenO c (spW K F)) (tCons ta tNil)) (lenOW c F ma) := fun W0 W σ e Q Ψ Ξ hm k kx =>
  ha W0 W σ e _ _ _ hm (fun a v W1 g1 p z => by
    obtain ⟨_, ho, z⟩ := z
    obtain ⟨q, dx, fs, rfl, h1, h2⟩ := isObj_p g1.ok ho p
    refine ⟨q, dx, fs, rfl, h1, W1, [a], _, _, rfl, g1.ok, Al.one p, z, fun r v W3 g3 rr zz => ?_, fun _ _ _ _ _ _ z => z.elim⟩
    obtain ⟨b, eb, zz⟩ := zz
    unfold lenOf at eb
    split at eb
    · rename_i n
      split at eb
      · rename_i hn
        cases eb
        cases rr
        exact ⟨n, rfl, hn.1, hn.2, k (.int n) _ W3 (g1.trans g3) rfl zz⟩
      · cases eb
    · cases eb) kx
/-- o == p -/
def eqOf : RV → Option PV
  | .v (.bl b) => some (.bl b)
  | _ => none
def asSs : List PV → Option (List Str)
  | [] => some []
  | .str b :: as => (asSs as).map (b :: ·)
  | _ :: _ => none
theorem asSs_al {H : Hp} : ∀ {as : List PV} {bs : List Str} {vs : List V}, asSs as = some bs → Al H vs (mps K as) → vs = bs.map V.str
  | [], _, _, h, .nil => by cases h; rfl
  | .str b :: as, bs, _, h, .cons p t => by
    simp only [asSs] at h
    cases c : asSs as with
    | none => rw [c] at h; cases h
    | some cs =>
      rw [c] at h
      cases h
      cases p
      rw [asSs_al c t]
      rfl
def rJoin (K : PySem.W.Frag) : V → List V → Hp → VK → Prop := fun x xs H Q => ∃ a p, ∃ ys : List Str, x = .str a ∧ xs = [.ref p] ∧ (SqL K H p (ys.map V.str) ∨ SqT K H p (ys.map V.str)) ∧ (ys.map (·.length)).sum + ys.length * a.length ≤ 16777216 ∧ Q (.str (Txt.join a ys)) H
theorem pe_joinK {X : Cx} {o e : Expr} {to te : TE} {apos pos : Pos} (hK : X.K = K) (ho : PE X o to) (he : PE X e te) (hs : starEach [e] X.env = [(false, eval e X.env)] := by rfl) (hbase : attributeBase o "join" X.env (eval o X.env) = eval o X.env := by rfl) (hline : (apos.endLine == pos.line) = true := by rfl) : PE X (.Call (.Attribute o "join" apos) [e] [] pos) (tM1 (rJoin K) to te) := hK ▸ pe_join ho he hs hbase hline
def isS : PV → Option Str
  | .str s => some s
  | _ => none
theorem isS_p {a : PV} {s : Str} {H : Hp} {v : V} (h : isS a = some s) (p : (mp K a).p H v) : v = .str s := by
  cases a <;> try cases h
  exact p
def joinS (a : Str) : PV → Option PV
  | .lst as => match asSs as with
    | some ys => if (ys.map (·.length)).sum + ys.length * a.length ≤ 16777216 then some (.str (Txt.join a ys)) else none
    | none => none
  | _ => none
def joinW (ma mb : W PV) : W PV := bind ma fun a => bind (lift (isS a)) fun s => bind mb fun b => lift (joinS s b)
theorem p_join (ha : EP K Z ρ ta ma) (hb : EP K Z ρ tb mb) : EP K Z ρ (tM1 (rJoin K) ta tb) (joinW ma mb) := fun W0 W σ e Q Ψ Ξ hm k kx =>
  ha W0 W σ e _ _ _ hm (fun a v W1 g1 p z => by
    obtain ⟨s, es, z⟩ := z
    cases isS_p es p
    refine ⟨⟨s, rfl⟩, hb W0 W1 σ (e.go g1) _ _ _ z (fun b y W2 g2 py z => ?_) (kx.go g1)⟩
    obtain ⟨c, ec, z⟩ := z
    match b, ec with
    | .lst as, ec =>
      simp only [joinS] at ec
      split at ec
      · rename_i ys hy
        split at ec
        · rename_i hl
          cases ec
          obtain ⟨q, vs, rfl, hq, al⟩ := py
          rw [asSs_al hy al] at hq
          exact ⟨s, q, ys, rfl, rfl, .inl (SqL.of (g2.ok.sub _ _ hq)), hl, k (.str (Txt.join s ys)) _ W2 (g1.trans g2) rfl z⟩
        · cases ec
      · cases ec) kx
def OP (K : PySem.W.Frag) (Z : WX) (ρ : List Sl) (to : TO) (m : W (Option Int)) : Prop := ∀ W0 W σ, En K W0 W σ ρ → ∀ (Q : Option Int → Hp → Prop) Ψ Ξ, m W.s Ψ Ξ → (∀ o W2, Go K W W2 → Ψ o W2.s → Q o W2.h) → KX K Z σ W Ξ → to σ W.h Q
def isI1 : PV → Option (Option Int)
  | .int i => some (some i)
  | _ => none
def partW (m : W PV) : W (Option Int) := bind m fun a => lift (isI1 a)
def noPart : W (Option Int) := ret none
theorem op_none : OP K Z ρ tNoPart noPart := fun W0 W σ e Q Ψ Ξ hm k kx => k none W e.id hm
theorem op_part (h : EP K Z ρ te me) : OP K Z ρ (tPart te) (partW me) := fun W0 W σ e Q Ψ Ξ hm k kx => h W0 W σ e _ _ _ hm (fun a v W1 g p z => by
  obtain ⟨o, eo, z⟩ := z
  match a, eo with
  | .int i, eo =>
    cases eo
    cases p
    exact ⟨i, rfl, k (some i) W1 g z⟩) kx
def cutO (ma : W PV) (ml mh : W (Option Int)) : W (List PV) := bind ma fun a => bind ml fun l => bind mh fun h => lift ((asL a).map fun as => WL.cut as l h)
theorem mps_cut (as : List PV) (l h : Option Int) : mps K (WL.cut as l h) = WL.cut (mps K as) l h := by
  unfold WL.cut
  rw [mps_map, mps_map, List.map_take, List.map_drop, List.length_map]
theorem o_cut {to th : TO} {ml mh : W (Option Int)} (ha : EP K Z ρ ta ma) (hl : OP K Z ρ to ml) (hh : OP K Z ρ th mh) : EO K Z ρ (tSl (rSlL K) ta to th) (cutO ma ml mh) := fun W0 W σ e Q Ψ Ξ hm k kx =>
  ha W0 W σ e _ _ _ hm (fun a v W1 g1 p z => hl W0 W1 σ (e.go g1) _ _ _ z (fun l W2 g2 z => hh W0 W2 σ ((e.go g1).go g2) _ _ _ z (fun h W3 g3 z => by
    obtain ⟨cs, ec, z⟩ := z
    match a, ec with
    | .lst as, ec =>
      cases ec
      obtain ⟨q, vs, rfl, hq, al⟩ := p
      have hq3 := (g2.le.r.trans g3.le.r) _ _ hq
      have al3 := (al.mono g2.le.r).mono g3.le.r
      exact ⟨q, vs, rfl, SqL.of (g3.ok.sub _ _ hq3), fun p hp => o_new k ((g1.trans g2).trans g3) hp (by rw [mps_cut]; exact WL.al_cut al3) z⟩) (kx.go (g1.trans g2))) (kx.go g1)) kx
theorem pe_sliceK {X : Cx} {e : Expr} {lo hi : Option Expr} {p2 pos : Pos} {te : TE} {tl th : TO} (hK : X.K = K) (he : PE X e te) (hl : PO X lo tl) (hu : PO X hi th) : PE X (.Subscript e (.Slice lo hi none p2) pos) (L2.tSl (rSlL K) te tl th) := hK ▸ pe_slice sl_list he hl hu
end
end SL
namespace SL
open PySem PySem.Spec PyProof.Rows L2 Evl NF WL
variable [PW]
section
variable {X : Cx} {K : PySem.W.Frag} {Z : WX} {W0 W1 W2 W3 : Wd} {σ : L2.St} {ρ : List Sl} {ta tb te tl : TE} {ma mb me : W PV}
def strL : PV → Option (List PV)
  | .str z => some (z.cps.toList.map fun c => .str ⟨#[c]⟩)
  | _ => none
def itS (me : W PV) : W (List PV) := bind me fun a => lift (strL a)
theorem w_str (h : EP K Z ρ te me) : WkP K Z ρ (iStr te) (itS me) := fun W0 W σ e R Ψ Ξ hm kk kx =>
  h W0 W σ e _ _ _ hm (fun a v W2 g p ⟨as, ea, z⟩ => by
    match a, ea with
    | .str s, ea =>
      cases ea
      cases p
      have ll : (s.cps.toList.map fun c => PV.str ⟨#[c]⟩).length = s.cps.size := by simp
      refine ⟨s, rfl, kk _ W2 _ g ⟨fun i W1 _ _ h => ?_, fun i W1 _ _ h => ?_, fun i W1 x H' a b hi y => ?_⟩ z⟩
      · rw [ll] at h
        exact Nat.le_of_eq h
      · rw [ll] at h
        exact h
      · rw [ll] at hi
        obtain ⟨rfl, c, hc, rfl⟩ := y
        refine ⟨W1, .str ⟨#[c]⟩, rfl, rfl, Go.id b, ?_, rfl⟩
        rw [List.getElem?_map, Array.getElem?_toList, hc]
        rfl) kx
def rLeS : R2 := fun x y H Q => ∃ i j, x = .str i ∧ y = .str j ∧ Q (.bl (!decide (j.cps.toList < i.cps.toList))) H
def rLeU : R2 := fun x y H Q => rI0 (fun i j => .bl (decide (i ≤ j))) x y H Q ∨ rLeS x y H Q
theorem op_leU : OpR X (compareOp .LtE) rLeU := op_or op_le op_le_str
def leU : PV → PV → Option PV
  | .int a, .int b => some (.bl (decide (a ≤ b)))
  | .str a, .str b => some (.bl (!decide (b.cps.toList < a.cps.toList)))
  | _, _ => none
theorem ow_leU : OpW K rLeU leU := fun a b c e R H x y s px py C k => by
  match a, b, e with
  | .int i, .int j, e =>
    cases e
    cases px
    cases py
    exact .inl ⟨i, j, rfl, rfl, k _ rfl⟩
  | .str i, .str j, e =>
    cases e
    cases px
    cases py
    exact .inr ⟨i, j, rfl, rfl, k _ rfl⟩
end
end SL
namespace SL
open PySem PySem.Spec PyProof.Rows L2 Evl NF WL
variable [PW]
section
variable {α β S T A : Type}
@[simp] theorem r_bind (a : α) (k : α → W β) : bind (ret a) k = k a := rfl
@[simp] theorem r_bindF_nx (s : S) (k : S → W (Fl T)) : bindF (ret (.nx s)) k = k s := rfl
@[simp] theorem r_bindF_rt (r : RV) (k : S → W (Fl T)) : bindF (ret (.rt r)) k = ret (.rt r) := rfl
@[simp] theorem r_bb {γ : Type} (m : W α) (k : α → W β) (l : β → W γ) : bind (bind m k) l = bind m fun a => bind (k a) l := rfl
@[simp] theorem r_bFb (m : W α) (k : α → W (Fl S)) (l : S → W (Fl T)) : bindF (bind m k) l = bind m fun a => bindF (k a) l := rfl
@[simp] theorem r_bFF {U : Type} (m : W (Fl S)) (k : S → W (Fl T)) (l : T → W (Fl U)) : bindF (bindF m k) l = bindF m fun s => bindF (k s) l := by
  funext S Ψ Ξ
  show m S _ Ξ = m S _ Ξ
  congr 1
  funext f S2
  cases f <;> rfl
@[simp] theorem r_lift (a : α) : lift (some a) = ret a := lift_some a
@[simp] theorem r_noX (a : α) : noX (ret a) = ret a := rfl
@[simp] theorem r_noXb (m : W α) (k : α → W β) : noX (bind m k) = bind (noX m) fun a => noX (k a) := rfl
@[simp] theorem r_noXX (m : W α) : noX (noX m) = noX m := rfl
@[simp] theorem r_noXl (o : Option α) : noX (lift o) = lift o := rfl
@[simp] theorem r_op2 (f : PV → PV → Option PV) (a b : PV) : op2 f (ret a) (ret b) = lift (f a b) := rfl
@[simp] theorem r_op1 (f : PV → Option PV) (a : PV) : op1 f (ret a) = lift (f a) := rfl
@[simp] theorem r_cb (f : List PV → Option PV) (as : List PV) : cb f (ret as) = lift (f as) := rfl
@[simp] theorem r_cbO (f : List PV → Option (List PV)) (as : List PV) : cbO f (ret as) = lift (f as) := rfl
@[simp] theorem r_vnil : vnil = ret [] := rfl
@[simp] theorem r_vcons (a : PV) (as : List PV) : vcons (ret a) (ret as) = ret (a :: as) := rfl
@[simp] theorem r_tst (b : Bool) : tst (ret (.bl b)) = ret b := by unfold tst; simp [isB]
@[simp] theorem r_andT1 (m : W Bool) : andT (ret true) m = m := rfl
@[simp] theorem r_andT0 (m : W Bool) : andT (ret false) m = ret false := rfl
@[simp] theorem r_orT1 (m : W Bool) : orT (ret true) m = ret true := rfl
@[simp] theorem r_orT0 (m : W Bool) : orT (ret false) m = m := rfl
@[simp] theorem r_notT (b : Bool) : notT (ret b) = ret !b := rfl
@[simp] theorem r_andV1 (m : W PV) : andV (ret (.bl true)) m = m := by unfold andV; simp [isB]
@[simp] theorem r_andV0 (m : W PV) : andV (ret (.bl false)) m = ret (.bl false) := by unfold andV; simp [isB]
@[simp] theorem r_orV1 (m : W PV) : orV (ret (.bl true)) m = ret (.bl true) := by unfold orV; simp [isB]
@[simp] theorem r_orV0 (m : W PV) : orV (ret (.bl false)) m = m := by unfold orV; simp [isB]
@[simp] theorem r_notV (b : Bool) : notV (ret (.bl b)) = ret (.bl !b) := by unfold notV; simp [isB]
@[simp] theorem r_ifE1 (ma mb : W PV) : ifE (ret true) ma mb = ma := rfl
@[simp] theorem r_ifE0 (ma mb : W PV) : ifE (ret false) ma mb = mb := rfl
@[simp] theorem r_chain (f1 f2 : PV → PV → Option PV) (a b : PV) (mc : W PV) : chain f1 f2 (ret a) (ret b) mc = bind (lift (f1 a b)) fun u => bind (lift (isB u)) fun t => if t = true then bind mc fun c => lift (f2 b c) else ret (.bl false) := rfl
@[simp] theorem r_chain3 (f1 f2 f3 : PV → PV → Option PV) (a b c : PV) (md : W PV) : chain3 f1 f2 f3 (ret a) (ret b) (ret c) md = bind (lift (f1 a b)) fun u => bind (lift (isB u)) fun t => if t = true then bind (lift (f2 b c)) fun u2 => bind (lift (isB u2)) fun t2 => if t2 = true then bind md fun d => lift (f3 c d) else ret (.bl false) else ret (.bl false) := rfl
@[simp] theorem r_isB (b : Bool) : isB (.bl b) = some b := rfl
@[simp] theorem r_tup (as : List PV) : tupW (ret as) = lift (if as.length ≤ 100000 then some (.tup as) else none) := rfl
@[simp] theorem r_lstO (as : List PV) : lstO (ret as) = lift (if as.length ≤ 100000 then some as else none) := rfl
@[simp] theorem r_setl (as : List PV) : setl (ret as) = ret (.lst as) := rfl
@[simp] theorem r_addO (a b : PV) : addO (ret a) (ret b) = lift (addL a b) := rfl
@[simp] theorem r_runF_rt (r : RV) : runF (ret (.rt r)) = ret r := rfl
@[simp] theorem r_runF_nx (s : Unit) : runF (ret (.nx s)) = ret (.v .non) := rfl
@[simp] theorem r_runF_b (m : W α) (k : α → W (Fl Unit)) : runF (bind m k) = bind m fun a => runF (k a) := rfl
@[simp] theorem r_pv_v (a : PV) : (RV.v a).pv = a := rfl
@[simp] theorem r_pv_o (as : List PV) : (RV.o as).pv = .lst as := rfl
@[simp] theorem r_asO (as : List PV) : asO (.o as) = some as := rfl
@[simp] theorem r_itL (as : List PV) : itL (ret (.lst as)) = ret as := by unfold itL; simp [asL]
@[simp] theorem r_itR (n : Int) (h1 : -(2 ^ 60) < n) (h2 : n < 2 ^ 60) : itR (ret [.int n]) = ret ((List.range n.toNat).map fun i : Nat => .int (i : Int)) := by unfold itR; simp only [r_bind]; rw [show rngL [.int n] = some ((List.range n.toNat).map fun i : Nat => .int (i : Int)) by show (if -(2 ^ 60) < n ∧ n < 2 ^ 60 then some ((List.range n.toNat).map fun i : Nat => PV.int (i : Int)) else none) = _; rw [if_pos ⟨h1, h2⟩]]; exact lift_some _
@[simp] theorem r_itE (as : List PV) : itE (ret [.lst as]) = ret (enumF 0 as) := by unfold itE; simp [enumL]
@[simp] theorem r_itZ (as bs : List PV) : itZ (ret [.lst as, .lst bs]) = ret (zipF as bs) := by unfold itZ; simp [zipL]
@[simp] theorem r_for0 (f : PV → Option A) (F : A → S → W (Fl S)) (s : S) : forW f F [] s = ret (.nx s) := rfl
@[simp] theorem r_for1 (F : PV → S → W (Fl S)) (a : PV) (l : List PV) (s : S) : forW some F (a :: l) s = bindF (F a s) (forW some F l) := by rw [forW, lift_some]; rfl
theorem r_for2 (F : PV × PV → S → W (Fl S)) (a b : PV) (l : List PV) (s : S) : forW (tupF2 some some) F (.tup [a, b] :: l) s = bindF (F (a, b) s) (forW (tupF2 some some) F l) := by
  rw [forW]
  simp [tupF2]
@[simp] theorem b_op2a (f : PV → PV → Option PV) (m : W α) (k : α → W PV) (mb : W PV) : op2 f (bind m k) mb = bind m fun a => op2 f (k a) mb := rfl
@[simp] theorem b_op2b (f : PV → PV → Option PV) (a : PV) (m : W α) (k : α → W PV) : op2 f (ret a) (bind m k) = bind m fun b => op2 f (ret a) (k b) := rfl
@[simp] theorem b_op1 (f : PV → Option PV) (m : W α) (k : α → W PV) : op1 f (bind m k) = bind m fun a => op1 f (k a) := rfl
@[simp] theorem b_cb (f : List PV → Option PV) (m : W α) (k : α → W (List PV)) : cb f (bind m k) = bind m fun a => cb f (k a) := rfl
@[simp] theorem b_cbO (f : List PV → Option (List PV)) (m : W α) (k : α → W (List PV)) : cbO f (bind m k) = bind m fun a => cbO f (k a) := rfl
@[simp] theorem b_vcons (m : W α) (k : α → W PV) (ms : W (List PV)) : vcons (bind m k) ms = bind m fun a => vcons (k a) ms := rfl
@[simp] theorem b_vcons2 (a : PV) (m : W α) (k : α → W (List PV)) : vcons (ret a) (bind m k) = bind m fun b => vcons (ret a) (k b) := rfl
@[simp] theorem b_tst (m : W α) (k : α → W PV) : tst (bind m k) = bind m fun a => tst (k a) := rfl
@[simp] theorem b_notT (m : W α) (k : α → W Bool) : notT (bind m k) = bind m fun a => notT (k a) := rfl
@[simp] theorem b_orT (m : W α) (k : α → W Bool) (n : W Bool) : orT (bind m k) n = bind m fun a => orT (k a) n := rfl
@[simp] theorem b_andT (m : W α) (k : α → W Bool) (n : W Bool) : andT (bind m k) n = bind m fun a => andT (k a) n := rfl
@[simp] theorem b_orV (m : W α) (k : α → W PV) (n : W PV) : orV (bind m k) n = bind m fun a => orV (k a) n := rfl
@[simp] theorem b_andV (m : W α) (k : α → W PV) (n : W PV) : andV (bind m k) n = bind m fun a => andV (k a) n := rfl
@[simp] theorem b_notV (m : W α) (k : α → W PV) : notV (bind m k) = bind m fun a => notV (k a) := rfl
@[simp] theorem b_ifE (m : W α) (k : α → W Bool) (x y : W PV) : ifE (bind m k) x y = bind m fun a => ifE (k a) x y := rfl
@[simp] theorem b_tup (m : W α) (k : α → W (List PV)) : tupW (bind m k) = bind m fun a => tupW (k a) := rfl
@[simp] theorem b_lstO (m : W α) (k : α → W (List PV)) : lstO (bind m k) = bind m fun a => lstO (k a) := rfl
@[simp] theorem b_setl (m : W α) (k : α → W (List PV)) : setl (bind m k) = bind m fun a => setl (k a) := rfl
@[simp] theorem b_itL (m : W α) (k : α → W PV) : itL (bind m k) = bind m fun a => itL (k a) := rfl
@[simp] theorem b_itR (m : W α) (k : α → W (List PV)) : itR (bind m k) = bind m fun a => itR (k a) := rfl
@[simp] theorem r_addI (a b : Int) : addF (.int a) (.int b) = some (.int (a + b)) := rfl
@[simp] theorem r_subI (a b : Int) : subF (.int a) (.int b) = some (.int (a - b)) := rfl
@[simp] theorem r_ltI (a b : Int) : ltF (.int a) (.int b) = some (.bl (decide (a < b))) := rfl
@[simp] theorem r_leI (a b : Int) : leF (.int a) (.int b) = some (.bl (decide (a ≤ b))) := rfl
@[simp] theorem r_gtI (a b : Int) : gtF (.int a) (.int b) = some (.bl (decide (a > b))) := rfl
@[simp] theorem r_geI (a b : Int) : geF (.int a) (.int b) = some (.bl (decide (a ≥ b))) := rfl
@[simp] theorem r_negI (a : Int) : negF (.int a) = some (.int (-a)) := rfl
@[simp] theorem r_absI (a : Int) : absF [.int a] = some (.int (if a < 0 then -a else a)) := rfl
@[simp] theorem r_max2 (a b : Int) : max2F [.int a, .int b] = some (.int (if b > a then b else a)) := rfl
@[simp] theorem r_min2 (a b : Int) : min2F [.int a, .int b] = some (.int (if b < a then b else a)) := rfl
@[simp] theorem r_lenL (as : List PV) : lenF [.lst as] = some (.int (as.length : Int)) := rfl
@[simp] theorem r_lenT (as : List PV) : lenF [.tup as] = some (.int (as.length : Int)) := rfl
theorem r_modI {a b : Int} (h : b ≠ 0) : modF (.int a) (.int b) = some (.int (a.fmod b)) := by simp only [modF]; rw [if_pos h]
theorem r_fdivI {a b : Int} (h : b ≠ 0) (h2 : b.natAbs.log2 < 9000) : fdivF (.int a) (.int b) = some (.int (a.fdiv b)) := by simp only [fdivF]; rw [if_pos ⟨h, h2⟩]
theorem atI_nat' {α : Type} (as : List α) (n : Nat) (h : n < as.length) : atI as (n : Int) = some as[n] := atI_nat (List.getElem?_eq_getElem h)
@[simp] theorem r_ixL0 (a : PV) (as : List PV) : ixF (.lst (a :: as)) (.int 0) = some a := atI_nat (j := 0) rfl
@[simp] theorem r_ixT0 (a : PV) (as : List PV) : ixF (.tup (a :: as)) (.int 0) = some a := atI_nat (j := 0) rfl
@[simp] theorem r_ixL1 (a b : PV) (as : List PV) : ixF (.lst (a :: b :: as)) (.int 1) = some b := atI_nat (j := 1) rfl
@[simp] theorem r_ixT1 (a b : PV) (as : List PV) : ixF (.tup (a :: b :: as)) (.int 1) = some b := atI_nat (j := 1) rfl
@[simp] theorem r_ixT2 (a b c : PV) (as : List PV) : ixF (.tup (a :: b :: c :: as)) (.int 2) = some c := atI_nat (j := 2) rfl
theorem r_ixL {as : List PV} {n : Nat} {a : PV} (h : as[n]? = some a) : ixF (.lst as) (.int (n : Int)) = some a := atI_nat h
@[simp] theorem r_eqI (a b : Int) : eqF (.int a) (.int b) = some (.bl (decide (a = b))) := by
  unfold eqF eqD
  simp only [toD]
  rw [if_pos ⟨rfl, rfl, rfl, rfl⟩]
  simp only [PyData.eqv]
  rfl
@[simp] theorem r_neI (a b : Int) : neF (.int a) (.int b) = some (.bl (!decide (a = b))) := by
  unfold neF neD
  simp only [toD]
  rw [if_pos ⟨rfl, rfl, rfl, rfl⟩]
  simp only [PyData.eqv]
  rfl
@[simp] theorem r_eqS (a b : Str) : eqF (.str a) (.str b) = some (.bl (decide (a = b))) := rfl
@[simp] theorem r_neS (a b : Str) : neF (.str a) (.str b) = some (.bl (!decide (a = b))) := rfl
@[simp] theorem r_callW (F : List PV → W RV) (ds as : List PV) : callW F ds (ret as) = bind (noX (F (as ++ ds))) fun r => ret r.pv := rfl
@[simp] theorem r_callO (F : List PV → W RV) (ds as : List PV) : callO F ds (ret as) = bind (noX (F (as ++ ds))) fun r => lift (asO r) := rfl
@[simp] theorem b_callW (F : List PV → W RV) (ds : List PV) (m : W α) (k : α → W (List PV)) : callW F ds (bind m k) = bind m fun a => callW F ds (k a) := rfl
@[simp] theorem b_callO (F : List PV → W RV) (ds : List PV) (m : W α) (k : α → W (List PV)) : callO F ds (bind m k) = bind m fun a => callO F ds (k a) := rfl
@[simp] theorem r_ar0 (F : W RV) : ar0 F [] = F := rfl
@[simp] theorem r_ar1 (F : PV → W RV) (a : PV) : ar1 F [a] = F a := rfl
@[simp] theorem r_ar2 (F : PV → PV → W RV) (a b : PV) : ar2 F [a, b] = F a b := rfl
@[simp] theorem r_ar3 (F : PV → PV → PV → W RV) (a b c : PV) : ar3 F [a, b, c] = F a b c := rfl
@[simp] theorem r_ar4 (F : PV → PV → PV → PV → W RV) (a b c d : PV) : ar4 F [a, b, c, d] = F a b c d := rfl
@[simp] theorem r_ar5 (F : PV → PV → PV → PV → PV → W RV) (a b c d e : PV) : ar5 F [a, b, c, d, e] = F a b c d e := rfl
@[simp] theorem r_fldI (c : Addr) (f : Str) (ns : List Str) (as : List PV) : fldW c f (ret (.ins c ns as)) = lift ((ns.zip as).lookup f) := by
  funext S Ψ Ξ
  show (∃ a, fldG c f S (.ins c ns as) = some a ∧ Ψ a S) = ∃ a, (ns.zip as).lookup f = some a ∧ Ψ a S
  simp [fldG]
@[simp] theorem b_fld (c : Addr) (f : Str) (m : W α) (k : α → W PV) : fldW c f (bind m k) = bind m fun a => fldW c f (k a) := rfl
@[simp] theorem r_lrI (n : Int) (h1 : -(2 ^ 60) < n) (h2 : n ≤ 100000) : lrO (ret (.int n)) = ret ((List.range n.toNat).map fun i : Nat => .int (i : Int)) := by
  unfold lrO
  simp only [r_bind]
  rw [show lrF (.int n) = some ((List.range n.toNat).map fun i : Nat => PV.int (i : Int)) by simp only [lrF]; rw [if_pos ⟨h1, h2⟩]]
  exact lift_some _
@[simp] theorem r_lenS (ns : List Int) : lenF [.scr ns] = some (.int (ns.length : Int)) := rfl
theorem use_bindF {m : W (Fl S)} {k : S → W (Fl T)} {S0 : Sto} {Ψ : Fl T → Sto → Prop} {Ξ : XV → Sto → Prop} (h : m S0 (fun fl S2 => match fl with | .nx s => k s S2 Ψ Ξ | .rt r => Ψ (.rt r) S2) Ξ) : bindF m k S0 Ψ Ξ := by
  show m S0 (fun fl S2 => (match fl with | .nx s => k s | .rt r => ret (.rt r) : W (Fl T)) S2 Ψ Ξ) Ξ
  have e : (fun (fl : Fl S) (S2 : Sto) => (match fl with | .nx s => k s | .rt r => ret (.rt r) : W (Fl T)) S2 Ψ Ξ) = fun fl S2 => match fl with | .nx s => k s S2 Ψ Ξ | .rt r => Ψ (.rt r) S2 := by
    funext fl S2
    cases fl <;> rfl
  rw [e]
  exact h
theorem use_runF {m : W (Fl Unit)} {S0 : Sto} {Ψ : RV → Sto → Prop} {Ξ : XV → Sto → Prop} (h : m S0 (fun fl S2 => match fl with | .nx _ => Ψ (.v .non) S2 | .rt r => Ψ r S2) Ξ) : runF m S0 Ψ Ξ := by
  show m S0 (fun fl S2 => (match fl with | .nx _ => ret (.v .non) | .rt r => ret r : W RV) S2 Ψ Ξ) Ξ
  have e : (fun (fl : Fl Unit) (S2 : Sto) => (match fl with | .nx _ => ret (.v .non) | .rt r => ret r : W RV) S2 Ψ Ξ) = fun fl S2 => match fl with | .nx _ => Ψ (.v .non) S2 | .rt r => Ψ r S2 := by
    funext fl S2
    cases fl <;> rfl
  rw [e]
  exact h
/-- a loop by an invariant of its state and of the places -/
theorem for_inv {f : PV → Option A} {F : A → S → W (Fl S)} {Φ : Fl S → Sto → Prop} {Ξ : XV → Sto → Prop} (I : S → Sto → Prop) : ∀ (as : List PV) (s : S) (S0 : Sto), I s S0 → (∀ a ∈ as, ∀ s S1 Φ', I s S1 → (∀ s' S2, I s' S2 → Φ' (.nx s') S2) → (bind (lift (f a)) fun x => F x s) S1 Φ' Ξ) → (∀ s S1, I s S1 → Φ (.nx s) S1) → forW f F as s S0 Φ Ξ
  | [], s, S0, i, _, k => k s S0 i
  | a :: as, s, S0, i, h, k => by
    have := h a (List.mem_cons_self ..) s S0 (fun fl S2 => match fl with | .nx s' => forW f F as s' S2 Φ Ξ | .rt r => Φ (.rt r) S2) i fun s' S2 i' => for_inv I as s' S2 i' (fun b hb => h b (List.mem_cons_of_mem _ hb)) k
    obtain ⟨x, ex, z⟩ := this
    exact ⟨x, ex, use_bindF z⟩
theorem while_no {c : S → W Bool} {F : S → W (Fl S)} {s : S} (hc : c s = ret false) : whileW c F s = ret (.nx s) := by
  funext S0 Φ Ξ
  apply propext
  constructor
  · rintro ⟨n, h⟩
    cases n with
    | zero => exact h.elim
    | succ n =>
      rw [iterW, hc] at h
      exact h
  · intro h
    refine ⟨1, ?_⟩
    rw [iterW, hc]
    exact h
theorem while_go {c : S → W Bool} {F : S → W (Fl S)} {s s' : S} (hc : c s = ret true) (hF : F s = ret (.nx s')) : whileW c F s = whileW c F s' := by
  funext S0 Φ Ξ
  apply propext
  constructor
  · rintro ⟨n, h⟩
    cases n with
    | zero => exact h.elim
    | succ n =>
      rw [iterW, hc, r_bind, if_pos rfl, hF] at h
      exact ⟨n, h⟩
  · rintro ⟨n, h⟩
    refine ⟨n + 1, ?_⟩
    rw [iterW, hc, r_bind, if_pos rfl, hF]
    exact h
theorem r_lcO {f : PV → Option A} {c : A → W Bool} {F : A → W PV} {as bs : List PV} (hl : as.length ≤ 50000) (h : lcF f c F as = ret bs) : lcO f c F (ret as) = ret bs := by
  unfold lcO
  simp only [r_bind]
  rw [show few 50000 as = some as by unfold few; rw [if_pos hl], r_lift, r_bind, h]
  rfl
end
end SL
namespace SL
open PySem PySem.Spec PyProof.Rows L2 Evl NF WL
variable [PW]
def withP {α : Type} (a : PV) (k : Addr → W α) : W α := match a with
  | .ptr p => k p
  | _ => fail
theorem withP_inv {α : Type} {a : PV} {k : Addr → W α} {S Ψ Ξ} (h : withP a k S Ψ Ξ) : ∃ p, a = .ptr p ∧ k p S Ψ Ξ := by
  unfold withP at h
  split at h
  · exact ⟨_, rfl, h⟩
  · exact h.elim
section
variable {X : Cx} {C : Addr} {j k : Nat} {m : Str} {ps : List Str} {sp : Sp} {o : Expr} {ta : TE} {pos apos : Pos} {pl : Sem Bool}
theorem pe_cm0 (M : CalM X.prog X.w X.K X.mg X.base C k m ps sp) (hr : Room j X.A) (hk : k ≤ j) (he : PE X o ta)
    (ht : eval (.Call (.Attribute o m apos) [] [] pos) X.env = (do
      let ov ← eval o X.env
      standAt apos.atName
      let (g, first) ← holding [ov] (getMethod ov m pl)
      callWith pos g first (backTo pos (starEach [] X.env)) (backToKw pos (keywordEach [] X.env))) := by rfl) : PE X (.Call (.Attribute o m apos) [] [] pos) (tMeth C m sp [] E0 ta tNil) := by
  obtain ⟨f, fd, hm, F, b⟩ := M.ex
  exact pe_meth0 he M.cl hm F (hr.mono hk) b .nil pass0 ht
end
theorem pi_enumK {X : Cx} {K : PySem.W.Frag} {tg e : Expr} {es : List Expr} {x : Str} {p pos : Pos} {ta : TA} (h : X.K = K) (hi : PI X tg (.Call (.Name x p) (e :: es) [] pos) (iEnum X.K ta)) : PI X tg (.Call (.Name x p) (e :: es) [] pos) (iEnum K ta) := h ▸ hi
theorem pg_tupK {X : Cx} {K : PySem.W.Frag} {es : List Expr} {k n : Nat} {t : TGs} {pos : Pos} (hK : X.K = K) (hc : X.calm = true) (h : PGs X es t) (hn : (assignEach es X.env).length = n := by rfl) (hst : (assignEach es X.env).findIdx? (·.1) = none := by rfl) : PG X (.Tuple es k pos) (gTup K n t) := hK ▸ pg_tup hc h hn hst
end SL
namespace SL
open PySem PySem.Spec PyProof.Rows L2 Evl NF WL
variable [PW]
theorem tab_one {K : PySem.W.Frag} {c : Addr} (h : InsC K c) (k : PySem.W.kitOne K (.ref c) (.ref c) = some true) : TabOk K (.ref c) (fun _ => none) [(c, true)] := ⟨fun n r e => (by cases e), fun x hx => by
  rw [List.mem_singleton] at hx
  subst hx
  exact ⟨h, k⟩⟩
theorem cal_mk {P : Program} {w : World} {K : PySem.W.Frag} {mg : Str → Option Value} {base : Heap} {k : Nat} {x : Str} {ps : List Str} {dvs : List V} {sp : Sp} {f : Addr} {fd : FuncData} {ds : List Value} (h : FnOk P w K mg base CX0 k f fd ps sp) (m : mg x = some (.ref f)) (kp : PySem.W.keepIn K (.ref f) = true) (b : Binds K fd ps ds) (d : Vals dvs ds) : Cal P w K mg base k x ps dvs sp := ⟨⟨f, fd, ds, h, m, kp, b, d⟩⟩
end SL
namespace SL
open PySem PySem.Spec PyProof.Rows L2 Evl NF WL
variable [PW]
section
variable {X : Cx} {K : PySem.W.Frag} {Z : WX} {W0 W1 W2 W3 : Wd} {σ : L2.St} {ρ : List Sl} {i j : Nat} {ta tb te to : TE} {tA tr : TA} {ma mb me : W PV} {ms mk : W (List PV)}
def ixC (ma mb : W PV) : W PV := bind ma fun a => bind mb fun b => fun S Ψ _ => ∃ p as c, a = .ptr p ∧ S p = some (.lst as) ∧ ixF (.lst as) b = some c ∧ Ψ c S
theorem p_ixC (ha : EP K Z ρ ta ma) (hb : EP K Z ρ tb mb) : EP K Z ρ (tOp (rIxU K) ta tb) (ixC ma mb) := fun W0 W σ e Q Ψ Ξ hm k kx => ha W0 W σ e _ _ _ hm (fun a v W1 g1 p z => hb W0 W1 σ (e.go g1) _ _ _ z (fun b y W2 g2 py z => by
  obtain ⟨q, as, c, rfl, hs, hc, z⟩ := z
  cases p
  obtain ⟨vs, h1, h2⟩ := (g2.ok.cell q _ hs).2
  match b, hc with
  | .int i, hc =>
    cases py
    obtain ⟨v, hv, pv⟩ := atI_al h2 hc
    exact .inl ⟨q, vs, i, v, rfl, rfl, SqL.of h1, hv, k c v W2 (g1.trans g2) pv z⟩) (kx.go g1)) kx
def isLC (a : PV) (S : Sto) : Option Unit := match a with
  | .ptr p => match S p with
    | some (.lst _) => some ()
    | _ => none
  | _ => none
theorem isLC_p {a : PV} {S : Sto} (h : isLC a S = some ()) : ∃ p as, a = .ptr p ∧ S p = some (.lst as) := by
  unfold isLC at h
  split at h
  · split at h
    · rename_i p _ as e
      exact ⟨p, as, rfl, e⟩
    · cases h
  · cases h
theorem op_inW {X : Cx} (h : X.K = K) : OpR X (compareOp .In) (rIn K false) := h ▸ op_in_seq
theorem sc_ar1 (F : PV → W RV) : ar1 (fun a => scopeW (F a)) = fun as => scopeW (ar1 F as) := by
  funext as
  unfold ar1
  split <;> rfl
/-- the kit's name for what a comprehension's block has -/
theorem pe_bmH {T : String} {r : V → List V → Hp → VK → Prop} {e : Expr} {t : TA} (h : X.K = K) (p : PE X e (tBM X.K T r to t)) : PE X e (tBM K T r to t) := h ▸ p
end
end SL
namespace SL
open PySem PySem.Spec PyProof.Rows L2 Evl NF WL
variable [PW]
section
variable {X : Cx} {K : PySem.W.Frag} {Z : WX} {W0 W1 W2 W3 : Wd} {σ : L2.St} {ρ : List Sl} {i j : Nat} {ta tb te to ti : TE} {tA tr : TA} {t : TS} {ma mb me mo mi : W PV} {ms mk : W (List PV)} {S : Type} {pat : S → List Sl} {k : W (Fl S)}
def pushC (o a : PV) : W Unit := fun S Ψ _ => ∃ p as, o = .ptr p ∧ S p = some (.lst as) ∧ as.length < 100000 ∧ Ψ () (put S p (.lst (as ++ [a])))
theorem pushC_core {Wa : Wd} {Q : VK} {Ψ : Unit → Sto → Prop} {Ξ : XV → Sto → Prop} (e : En K W0 Wa σ ρ) (ho : EP K Z ρ to mo) (he : EP K Z ρ te me) (hm : (bind mo fun o => bind (look (isLC o)) fun _ => bind me fun a => pushC o a) Wa.s Ψ Ξ)
    (kk : ∀ W2, En K W0 W2 σ ρ → Ψ () W2.s → Q .non W2.h) (kx : KX K Z σ Wa Ξ) : tBM K "list" rAppend to (tCons te tNil) σ Wa.h Q :=
  ho W0 Wa σ e _ _ _ hm (fun o x W1 g1 p z => by
    obtain ⟨u, hu, z⟩ := z
    obtain ⟨q, as0, rfl, hc⟩ := isLC_p hu
    cases p
    obtain ⟨vs0, h1, _⟩ := (g1.ok.cell q _ hc).2
    refine ⟨.inl ⟨rfl, vs0, SqL.of h1⟩, he W0 W1 σ (e.go g1) _ _ _ z (fun a v W2 g2 pa z => ?_) (kx.go g1)⟩
    obtain ⟨p', as, ep, hs2, hl, z⟩ := z
    cases ep
    obtain ⟨us, h2, h3⟩ := (g2.ok.cell q _ hs2).2
    refine ⟨q, us, v, rfl, rfl, h2, sz_lt (by rw [h3.length, mps_len]; exact hl), ?_⟩
    have g3 := put_cell (p := q) (u := .lst (us ++ [v])) (c2 := .lst (as ++ [a])) g2.ok hs2 ⟨_, upd_same, by rw [mps_app]; exact h3.app (Al.one pa)⟩
    exact kk _ (((e.go g1).go g2).go g3) z) kx
theorem gp_pushC (ho : EP K Z ρ to mo) (he : EP K Z ρ te me) (hk : GP K Z ρ t pat k) : GP K Z ρ (tSeq (tDrop (tBM K "list" rAppend to (tCons te tNil))) t) pat (bind mo fun o => bind (look (isLC o)) fun _ => bind me fun a => bind (pushC o a) fun _ => k) := fun W0 W σ D e Φ Ξ hm q =>
  pushC_core e ho he (Ψ := fun _ S => k S Φ Ξ) hm (fun W2 e2 z => hk W0 W2 σ D e2 _ _ z q) (q.x e)
def calm1 (a : PV) : W PV := match a with
  | .ptr p => fun S Ψ _ => ∃ as, S p = some (.lst as) ∧ Ψ (.lst as) (rem S p)
  | a => ret a
def calmL : List PV → W (List PV)
  | [] => ret []
  | a :: as => bind (calm1 a) fun b => bind (calmL as) fun bs => ret (b :: bs)
end
end SL
namespace SL
open PySem PySem.Spec PyProof.Rows L2 Evl NF WL
variable [PW]
section
variable {X : Cx} {K : PySem.W.Frag} {Z : WX} {W0 W1 W2 W3 : Wd} {σ : L2.St} {ρ : List Sl} {i j : Nat} {ta tb te to ti : TE} {tA tr : TA} {t : TS} {ma mb me mo mi : W PV} {ms mk : W (List PV)}
def isbF (neg : Bool) (a b : PV) : Option PV := match a, b with
  | .bl x, .bl y => some (.bl (if neg then !decide (x = y) else decide (x = y)))
  | _, _ => none
theorem ow_notb : OpW K rNotB (isbF true) := fun a b c e R H x y s px py C k => by
  match a, b, e with
  | .bl m, .bl n, e =>
    cases e
    cases px
    cases py
    exact ⟨m, n, rfl, rfl, k _ rfl⟩
def rTupOf (K : PySem.W.Frag) : List V → Hp → VK → Prop := fun xs H Q => ∃ p ys, xs = [.ref p] ∧ ((SqL K H p ys ∧ ∀ l, H l = none → Q (.ref l) (upd H l (.tup ys))) ∨ (SqT K H p ys ∧ Q (.ref p) H))
theorem call_tupK (hK : X.K = K) : CallR X (.type "tuple") (rTupOf K) := hK ▸ call_tuple_of
def tupF1 : List PV → Option PV
  | [.lst bs] => some (.tup bs)
  | [.tup bs] => some (.tup bs)
  | _ => none
def tupOf (ms : W (List PV)) : W PV := bind ms fun as => lift (tupF1 as)
theorem p_tupOf (ha : VP K Z ρ tA ms) : EP K Z ρ (tCB (rTupOf K) tA) (tupOf ms) := fun W0 W σ e Q Ψ Ξ hm k kx => ha W0 W σ e _ _ _ hm (fun as vs W1 g al z => by
  obtain ⟨c, ec, z⟩ := z
  match as, ec with
  | [.lst bs], ec =>
    cases ec
    obtain ⟨v, rfl, q, us, rfl, hq, a2⟩ := Al.inv1 al
    refine ⟨q, us, rfl, .inl ⟨SqL.of (g.ok.sub _ _ hq), fun l hl => ?_⟩⟩
    have g2 := new_set (u := .tup us) g.ok hl
    exact k (.tup bs) _ _ (g.trans g2) ⟨l, us, rfl, SqT.of upd_same, a2.mono g2.le.r⟩ z
  | [.tup bs], ec =>
    cases ec
    obtain ⟨v, rfl, q, us, rfl, hq, a2⟩ := Al.inv1 al
    exact ⟨q, us, rfl, .inr ⟨ex_t g.ok.sub hq, k (.tup bs) _ W1 g ⟨q, us, rfl, hq, a2⟩ z⟩⟩) kx
end
end SL
namespace SL
open PySem PySem.Spec PyProof.Rows L2 Evl NF WL
variable [PW]
def zipF3 : List PV → List PV → List PV → List PV
  | a :: as, b :: bs, c :: cs => .tup [a, b, c] :: zipF3 as bs cs
  | _, _, _ => []
def zipL3 : List PV → Option (List PV)
  | [.lst as, .lst bs, .lst cs] => some (zipF3 as bs cs)
  | _ => none
def itZ3 (ms : W (List PV)) : W (List PV) := bind ms fun as => lift (zipL3 as)
@[simp] theorem r_itZ3 (as bs cs : List PV) : itZ3 (ret [.lst as, .lst bs, .lst cs]) = ret (zipF3 as bs cs) := by unfold itZ3; simp [zipL3]
end SL
namespace SL
open PySem PySem.Spec PyProof.Rows L2 Evl NF WL
variable [PW]
section
variable {elt t i : Expr} {gs : List Comprehension} {scope : Scope} {pos : Pos} {d : Nat} {it acc : Value} {env : Env} {ifs : List Expr} {prog : Program} {w : World} {A : Around} {R : Result → Shared → Prop} {s : Shared}
/-- what comes behind the tests of the clause ahead of d -/
def StepW (prog : Program) (w : World) (A : Around) (elt : Expr) (gs : List Comprehension) (scope : Scope) (pos : Pos) (acc : Value) (env : Env) (d : Nat) (Q : Shared → Prop) (s : Shared) : Prop := match gs[d]? with
  | some g => wpAny (model prog w) A (eval g.iter env) (fun x s1 => wpAny (model prog w) A (pyIter x) (fun it s2 => codeAny (model prog w) A (.compStart (.ListComp elt gs scope pos) d it acc env) (fun r s3 => r = .ok .next ∧ Q s3) s2) (fun _ _ => False) s1) (fun _ _ => False) s
  | none => wpAny (model prog w) A (eval elt env) (fun x s1 => wpAny (model prog w) A (call (.builtin "list.append") [acc, x]) (fun _ s2 => Q s2) (fun _ _ => False) s1) (fun _ _ => False) s
end
/-- the clauses from one on, or what they bring: from slots and heap to a wish of the heap; D is the new list -/
abbrev TR := L2.St → Hp → Addr → (Hp → Prop) → Prop
section
variable {B : Cx} {all vs : List Nat} {elt tg iter : Expr} {gs : List Comprehension} {scope : Scope} {pos : Pos} {d : Nat} {D : Addr} {ifs : List Expr} {te : TE} {g : TG} {tt : TT} {wi : TI} {rest : TR}
theorem StepW.mono {prog : Program} {w : World} {A : Around} {acc : Value} {env : Env} {Q Q' : Shared → Prop} {s : Shared} (h : StepW prog w A elt gs scope pos acc env d Q s) (k : ∀ s, Q s → Q' s) : StepW prog w A elt gs scope pos acc env d Q' s := by
  unfold StepW at h ⊢
  split
  · rename_i e
    rw [e] at h
    exact thn h fun _ _ h => thn h fun _ _ h => codeAny_mono h fun _ _ z => ⟨z.1, k _ z.2⟩
  · rename_i e
    rw [e] at h
    exact thn h fun _ _ h => thn h fun _ _ z => k _ z
end
end SL
namespace SL
open PySem PySem.Spec PyProof.Rows L2 Evl NF WL
end SL
namespace SL
open PySem PySem.Spec PyProof.Rows L2 Evl NF WL
variable [PW]
def ixOwn (as : List PV) (mb : W PV) : W PV := bind mb fun b => lift (ixF (.lst as) b)
@[simp] theorem r_ixOwn (as : List PV) (b : PV) : ixOwn as (ret b) = lift (ixF (.lst as) b) := rfl
end SL
set_option maxHeartbeats 3200000
namespace SL
open PySem PySem.Spec PyProof.Rows L2 Evl NF WL
variable [PW]
section
variable {P : Program} {w : World} {K : Type} [DecidableEq K] {knd : PySem.KeyKind P w K} {A : Around} {E : Value → Shared → Prop} {s : Shared} {a : Addr} {L : List K}
/-- the key that a value is, if it is one -/
noncomputable def keyAt (knd : PySem.KeyKind P w K) (v : Value) : Option K := open Classical in if h : ∃ k, knd.is k v = true then some h.choose else none
theorem keyAt_of {k : K} {v : Value} (h : knd.is k v = true) : keyAt knd v = some k := by
  have g : ∃ k, knd.is k v = true := ⟨k, h⟩
  unfold keyAt
  rw [dif_pos g, knd.inj v _ k g.choose_spec h]
noncomputable def keysOf (knd : PySem.KeyKind P w K) (es : List (Int × Value)) : List K := es.filterMap fun e => keyAt knd e.2
theorem keysOf_len : ∀ {es : List (Int × Value)}, PySem.ElemsOf knd es → (keysOf knd es).length = es.length
  | [], _ => rfl
  | e :: es, g => by
    obtain ⟨⟨j, hj, _⟩, _⟩ := g.head
    show (List.filterMap (fun e => keyAt knd e.2) (e :: es)).length = _
    rw [List.filterMap_cons, keyAt_of hj]
    exact congrArg (· + 1) (keysOf_len g.tail)
/-- a table that can be walked: it fits, its places rise, its order is no one's secret -/
def Laid (w : World) (t : SetTable) (n : Nat) : Prop := t.fits n = true ∧ Ris t.place.toList ∧ (w.params.followText "set-order" = true ∨ t.led = true)
theorem Laid.new {t : SetTable} {n : Nat} (h : Laid w t n) (es : Array (Int × Value)) (i : Int) (x : Value) : Laid w (layNew t es i x).2.1 (layNew t es i x).1.size :=
  ⟨layNew_fits t es i x, layNew_ris t es i x h.2.1, h.2.2.imp id fun z => (layNew_led t es i x).trans z⟩
/-- what stands at a: a set with these rows -/
def HasSet (h : Heap) (a : Addr) (es : Array (Int × Value)) (t : SetTable) : Prop := ∃ o ep, h.get? a = some o ∧ o.ExactSet ∧ o.data = .set es ep t
/-- a set with the keys of L, in the table's order -/
def SetL (knd : PySem.KeyKind P w K) (h : Heap) (a : Addr) (L : List K) : Prop :=
  ∃ es t, HasSet h a es t ∧ PySem.ElemsOf knd es.toList ∧ keysOf knd es.toList = L ∧ es.size < scanBound ∧ Laid w t es.size
theorem SetL.at {h h' : Heap} (R : SetL knd h a L) (k : ∀ o, h.get? a = some o → h'.get? a = some o) : SetL knd h' a L := by
  obtain ⟨es, t, ⟨o, ep, ho, r⟩, q⟩ := R
  exact ⟨es, t, ⟨o, ep, k o ho, r⟩, q⟩
theorem SetL.len {h : Heap} (R : SetL knd h a L) : ∃ es t, HasSet h a es t ∧ es.size = L.length := by
  obtain ⟨es, t, hs, g, rfl, _⟩ := R
  exact ⟨es, t, hs, by rw [keysOf_len g, Array.length_toList]⟩
/-- what a set holds once the first of a list's keys have been put in -/
def SetUpTo (knd : PySem.KeyKind P w K) (h : Heap) (a : Addr) (xs : List K) : Prop := ∃ L, SetL knd h a L ∧ L.Nodup ∧ (∀ x, x ∈ L ↔ x ∈ xs) ∧ L.length ≤ xs.length
theorem SetUpTo.at {h h' : Heap} {xs : List K} (R : SetUpTo knd h a xs) (k : ∀ o, h.get? a = some o → h'.get? a = some o) : SetUpTo knd h' a xs := by
  obtain ⟨L, r, z⟩ := R
  exact ⟨L, r.at k, z⟩
theorem SetUpTo.more {h' : Heap} {xs : List K} {L L' : List K} {x : K} (d : L.Nodup) (m : ∀ x, x ∈ L ↔ x ∈ xs) (n : L.length ≤ xs.length) (R : SetL knd h' a L') (e : if x ∈ L then L' = L else L'.Perm (x :: L)) : SetUpTo knd h' a (xs ++ [x]) := by
  refine ⟨L', R, ?_⟩
  by_cases hx : x ∈ L
  · rw [if_pos hx] at e
    subst e
    refine ⟨d, fun y => ?_, by rw [List.length_append]; exact Nat.le_add_right_of_le n⟩
    rw [List.mem_append, List.mem_singleton, ← m]
    exact ⟨.inl, fun z => z.elim id fun z => z ▸ hx⟩
  · rw [if_neg hx] at e
    refine ⟨e.nodup_iff.mpr (List.nodup_cons.mpr ⟨hx, d⟩), fun y => ?_, by rw [e.length_eq, List.length_append]; exact Nat.succ_le_succ n⟩
    rw [e.mem_iff, List.mem_cons, List.mem_append, List.mem_singleton, m, Or.comm]
end
end SL
set_option maxHeartbeats 3200000
namespace SL
open PySem PySem.Spec PyProof.Rows L2 Evl NF WL
end SL
namespace SL
open PySem PySem.Spec PyProof.Rows L2 Evl NF WL
end SL
set_option maxHeartbeats 3200000
namespace SL
open PySem PySem.Spec PyProof.Rows L2 Evl NF WL
variable [PW]
def noughtW (a : PV) : W RV := fun S Ψ _ => ∃ x : Rat, a = .tup [.int x.num, .int x.den] ∧ Ψ (.v (.bl true)) S
@[simp] theorem r_noughtW (x : Rat) : noughtW (.tup [.int x.num, .int x.den]) = ret (.v (.bl true)) := by
  funext S Ψ Ξ
  exact propext ⟨fun ⟨_, _, h⟩ => h, fun h => ⟨x, rfl, h⟩⟩
end SL
set_option maxHeartbeats 3200000
namespace SL
open PySem PySem.Spec PyProof.Rows L2 Evl NF WL
end SL
namespace SL
open PySem PySem.Spec PyProof.Rows L2 Evl NF WL
end SL
namespace SL
open PySem PySem.Spec PyProof.Rows L2 Evl NF WL
end SL
namespace SL
open PySem PySem.Spec PyProof.Rows L2 Evl NF WL
variable [PW]
def keyF : PV → Option Key
  | .int i => some (.inl i)
  | .str z => some (.inr z)
  | _ => none
theorem keyF_p {K : PySem.W.Frag} {a : PV} {k : Key} {H : Hp} {v : V} (h : keyF a = some k) (p : (mp K a).p H v) : v = kV k := by
  cases a <;> simp only [keyF] at h <;> cases h
  · exact p
  · exact p
section
variable {K : PySem.W.Frag} {κ : Type} [DecidableEq κ]
def hasK (ks : List κ) (k : κ) : Bool := ks.any fun j => decide (j = k)
theorem hasK_cons {j k : κ} {ks : List κ} : hasK (j :: ks) k = (decide (j = k) || hasK ks k) := rfl
def dputK (ks : List κ) (k : κ) : List κ := if hasK ks k = true then ks else ks ++ [k]
def dputA {α : Type} (ks : List κ) (as : List α) (k : κ) (a : α) : List α := if hasK ks k = true then List.zipWith (fun j x => if j = k then a else x) ks as else as ++ [a]
theorem put_map {k : κ} {y : V} : ∀ {ks : List κ} {vs : List V}, vs.length = ks.length → ((ks.zip vs).map fun kv => if kv.1 = k then (kv.1, y) else kv) = ks.zip (List.zipWith (fun j x => if j = k then y else x) ks vs)
  | [], _, _ => by simp
  | _ :: _, [], h => by cases h
  | j :: ks, v :: vs, hl => by
    rw [List.zip_cons_cons, List.map_cons, List.zipWith_cons_cons, List.zip_cons_cons, put_map (Nat.succ.inj hl)]
    congr 1
    show (if j = k then (j, y) else (j, v)) = (j, if j = k then y else v)
    split <;> rfl
theorem zip_any {k : κ} : ∀ {ks : List κ} {vs : List V}, vs.length = ks.length → ((ks.zip vs).any fun kv => decide (kv.1 = k)) = hasK ks k
  | [], _, _ => by simp [hasK]
  | _ :: _, [], h => by cases h
  | j :: ks, v :: vs, hl => by
    rw [List.zip_cons_cons, List.any_cons, zip_any (Nat.succ.inj hl), hasK_cons]
theorem putK_zip {k : κ} {y : V} {ks : List κ} {vs : List V} (hl : vs.length = ks.length) : putK (ks.zip vs) k y = (dputK ks k).zip (dputA ks vs k y) := by
  unfold putK dputK dputA
  rw [zip_any hl]
  cases c : hasK ks k with
  | true =>
    rw [if_pos rfl, if_pos rfl, if_pos rfl, ← put_map hl]
  | false =>
    rw [if_neg (by decide), if_neg (by decide), if_neg (by decide), List.zip_append hl.symm]
    rfl
theorem dputA_len {α : Type} {ks : List κ} {as : List α} {k : κ} {a : α} (hl : as.length = ks.length) : (dputA ks as k a).length = (dputK ks k).length := by
  unfold dputA dputK
  split
  · simp [hl]
  · simp [hl]
theorem al_zipWith {R : Hp} {k : κ} {v : V} {a : PV} (p : (mp K a).p R v) : ∀ {ks : List κ} {vs : List V} {as : List PV}, Al R vs (mps K as) → Al R (List.zipWith (fun j x => if j = k then v else x) ks vs) (mps K (List.zipWith (fun j x => if j = k then a else x) ks as))
  | [], _, _, _ => by simp; exact .nil
  | _ :: _, [], [], .nil => by simp; exact .nil
  | j :: ks, w :: vs, b :: as, .cons q t => by
    rw [List.zipWith_cons_cons, List.zipWith_cons_cons]
    refine .cons ?_ (al_zipWith p t)
    split
    · exact p
    · exact q
theorem al_dput {R : Hp} {k : κ} {v : V} {a : PV} (p : (mp K a).p R v) {ks : List κ} {vs : List V} {as : List PV} (al : Al R vs (mps K as)) : Al R (dputA ks vs k v) (mps K (dputA ks as k a)) := by
  unfold dputA
  split
  · exact al_zipWith p al
  · rw [mps_app]
    exact al.app (Al.one p)
end
section
variable {X : Cx} {K : PySem.W.Frag} {Z : WX} {W0 W1 W2 W3 : Wd} {σ : L2.St} {ρ : List Sl} {i j : Nat} {ta tb te td ty tv : TE} {tA tr : TA} {t : TS} {ma mb me md mk mv : W PV} {ms : W (List PV)} {S : Type} {pat : S → List Sl} {k : W (Fl S)}
theorem zip_lt {α β : Type} {ks : List α} {vs : List β} (h : ks.length < 100000) : (ks.zip vs).length < sizeLine := by
  have : 100000 ≤ sizeLine := by decide
  rw [List.length_zip]
  omega
end
end SL
namespace SL
open PySem PySem.Spec PyProof.Rows L2 Evl NF WL
end SL
namespace SL
open PySem PySem.Spec PyProof.Rows L2 Evl NF WL
end SL
set_option maxHeartbeats 3200000
namespace SL
open PySem PySem.Spec PyProof.Rows L2 Evl NF WL
end SL
namespace SL
open PySem PySem.Spec PyProof.Rows L2 Evl NF WL
end SL
namespace SL
open PySem PySem.Spec PyProof.Rows L2 Evl NF WL
end SL
namespace SL
open PySem PySem.Spec PyProof.Rows L2 Evl NF WL
variable [PW]
structure KTab (K : PySem.W.Frag) (w : World) (a : Addr) (tab : List (Str × PV)) : Prop where
  kd : ∃ es n, KDict K w a es n
  yes : ∀ q ∈ tab, ∃ u v, PySem.W.nsIn K a q.1 = some (some u) ∧ RelV v u ∧ ∀ H, (mp K q.2).p H v
  no : ∀ z, (∀ q ∈ tab, q.1 ≠ z) → PySem.W.nsIn K a z = some none
theorem tab_mem {tab : List (Str × PV)} {z : Str} {c : PV} (h : tab.lookup z = some c) : (z, c) ∈ tab := by
  induction tab with
  | nil => cases h
  | cons q tab ih =>
    obtain ⟨k, v⟩ := q
    rw [List.lookup_cons] at h
    split at h
    · rename_i e
      cases h
      rw [eq_of_beq e]
      exact List.mem_cons_self ..
    · exact List.mem_cons_of_mem _ (ih h)
theorem lookup_no {tab : List (Str × PV)} {z : Str} (h : tab.lookup z = none) : ∀ q ∈ tab, q.1 ≠ z := by
  induction tab with
  | nil => exact fun q hq => absurd hq List.not_mem_nil
  | cons p tab ih =>
    obtain ⟨k, v⟩ := p
    rw [List.lookup_cons] at h
    split at h
    · cases h
    · rename_i e
      intro q hq
      rcases List.mem_cons.mp hq with rfl | hq
      · exact fun z => by
          subst z
          rw [beq_self_eq_true] at e
          cases e
      · exact ih h q hq
def rInKT (neg : Bool) (a : Addr) (tab : List (Str × PV)) : R2 := fun x y H Q => ∃ z, x = .str z ∧ y = .ref a ∧ Q (.bl (neg != (tab.lookup z).isSome)) H
def rIxKT (K : PySem.W.Frag) (a : Addr) (tab : List (Str × PV)) : R2 := fun x y H Q => ∃ z c, x = .ref a ∧ y = .str z ∧ tab.lookup z = some c ∧ ∀ v, (∀ H, (mp K c).p H v) → Q v H
section
variable {X : Cx} {K : PySem.W.Frag} {w : World} {a : Addr} {tab : List (Str × PV)}
theorem op_notInKT (D : KTab K w a tab) (hK : X.K = K) (hw : X.w = w) : OpR X (compareOp .NotIn) (rInKT true a tab) := by
  subst hK hw
  intro pins s σ H x y v u Q I rx ry h
  obtain ⟨z, rfl, rfl, q⟩ := h
  obtain ⟨es, n, kd⟩ := D.kd
  refine op_notIn_kd kd pins s σ H _ _ v u Q I rx ry ?_
  cases e : tab.lookup z with
  | none =>
    rw [e] at q
    exact ⟨z, none, rfl, rfl, D.no z (lookup_no e), q⟩
  | some c =>
    rw [e] at q
    obtain ⟨u0, v0, h1, _⟩ := D.yes _ (tab_mem e)
    exact ⟨z, some u0, rfl, rfl, h1, q⟩
theorem ix_KT (D : KTab K w a tab) (hK : X.K = K) (hw : X.w = w) : IxR X (rIxKT K a tab) := by
  subst hK hw
  intro value slice pins s σ H x y v u Q I rx ry h hs
  obtain ⟨z, c, rfl, rfl, e, q⟩ := h
  obtain ⟨es, n, kd⟩ := D.kd
  obtain ⟨u0, v0, h1, h2, h3⟩ := D.yes _ (tab_mem e)
  exact ix_kdict value slice pins s σ H _ _ v u Q I rx ry ⟨a, z, v0, rfl, rfl, ⟨es, n, u0, kd.at_, kd.lit, h1, h2⟩, q v0 h3⟩ hs
end
section
variable {K : PySem.W.Frag} {Z : WX} {ρ : List Sl} {te : TE} {me : W PV} {a : Addr} {tab : List (Str × PV)}
def inTab (neg : Bool) (tab : List (Str × PV)) : PV → Option PV
  | .str z => some (.bl (neg != (tab.lookup z).isSome))
  | _ => none
def atTab (tab : List (Str × PV)) : PV → Option PV
  | .str z => tab.lookup z
  | _ => none
theorem p_inKT {neg : Bool} (he : EP K Z ρ te me) : EP K Z ρ (tOp (rInKT neg a tab) te (tC (.ref a))) (op1 (inTab neg tab) me) := fun W0 W σ e Q Ψ Ξ hm k kx =>
  he W0 W σ e _ _ _ hm (fun b v W1 g1 p h => by
    obtain ⟨c, ec, h⟩ := h
    match b, ec with
    | .str z, ec =>
      cases ec
      cases p
      exact ⟨z, rfl, rfl, k (.bl _) (.bl _) W1 g1 rfl h⟩) kx
theorem p_ixKT (he : EP K Z ρ te me) : EP K Z ρ (tOp (rIxKT K a tab) (tC (.ref a)) te) (op1 (atTab tab) me) := fun W0 W σ e Q Ψ Ξ hm k kx =>
  he W0 W σ e _ _ _ hm (fun b v W1 g1 p h => by
    obtain ⟨c, ec, h⟩ := h
    match b, ec with
    | .str z, ec =>
      cases p
      exact ⟨z, c, rfl, rfl, ec, fun v hv => k _ v W1 g1 (hv _) h⟩) kx
end
def strOfV : Value → Option Str
  | .str x _ => some x
  | _ => none
theorem ns_no {K : PySem.W.Frag} {a : Addr} {es : Array DictEntry} {n : Nat} {ks : List Str} {z : Str} (t : K.lookup a = some ⟨.type "dict", none, .dict es n, #[]⟩) (s : (es.toList.map fun e => strOfV e.key) = ks.map some) (h : z ∉ ks) : PySem.W.nsIn K a z = some none := by
  unfold PySem.W.nsIn
  rw [t]
  dsimp only
  have key : ∀ e ∈ es.toList, ∃ x ∈ ks, strOfV e.key = some x := fun e he => by
    have : strOfV e.key ∈ es.toList.map fun e => strOfV e.key := List.mem_map.mpr ⟨e, he, rfl⟩
    rw [s] at this
    obtain ⟨x, hx, e2⟩ := List.mem_map.mp this
    exact ⟨x, hx, e2.symm⟩
  have f : es.toList.find? (·.key.isStr z) = none := List.find?_eq_none.mpr fun e he hh => by
    obtain ⟨x, hx, e2⟩ := key e he
    unfold strOfV at e2
    split at e2
    · rename_i y t q
      cases e2
      rw [q] at hh
      have : x = z := by
        first
        | exact eq_of_beq hh
        | exact (eq_of_beq hh).symm
      exact h (this ▸ hx)
    · cases e2
  rw [f]
  dsimp only
  have g : es.toList.any (·.refKey) = false := List.any_eq_false.mpr fun e he hh => by
    obtain ⟨x, hx, e2⟩ := key e he
    unfold strOfV at e2
    split at e2
    · rename_i y t q
      unfold DictEntry.refKey at hh
      rw [q] at hh
      cases hh
    · cases e2
  rw [g]
  rfl
theorem tupS1_k {K : PySem.W.Frag} {A : Addr} {od : Option Addr} {sl : Array (Option Value)} {n : Nat} {i : Str} {ta : Tok} (h : K.lookup A = some ⟨.type "tuple", od, .seq #[.str i ta] n, sl⟩) : ∀ H, (mp K (.tup [.str i])).p H (.ref A) := fun H => ⟨A, [.str i], rfl, .inr ⟨_, _, _, h, rfl, rfl, by show 1 ≤ sizeLine; decide, .cons ⟨_, rfl⟩ .nil⟩, .cons rfl .nil⟩
theorem tupS2_k {K : PySem.W.Frag} {A : Addr} {od : Option Addr} {sl : Array (Option Value)} {n : Nat} {i j : Str} {ta tb : Tok} (h : K.lookup A = some ⟨.type "tuple", od, .seq #[.str i ta, .str j tb] n, sl⟩) : ∀ H, (mp K (.tup [.str i, .str j])).p H (.ref A) := fun H => ⟨A, [.str i, .str j], rfl, .inr ⟨_, _, _, h, rfl, rfl, by show 2 ≤ sizeLine; decide, .cons ⟨_, rfl⟩ (.cons ⟨_, rfl⟩ .nil)⟩, .cons rfl (.cons rfl .nil)⟩
theorem ktab_of {K : PySem.W.Frag} {w : World} {a : Addr} {tab : List (Str × PV)} {es : Array DictEntry} {n : Nat} (t : K.lookup a = some ⟨.type "dict", none, .dict es n, #[]⟩) (y : PySem.W.KeysLit w.params es.toList) (m : (a == sysModules) = false)
    (s : (es.toList.map fun e => strOfV e.key) = (tab.map (·.1)).map some) (h : ∀ q ∈ tab, ∃ u v, PySem.W.nsIn K a q.1 = some (some u) ∧ RelV v u ∧ ∀ H, (mp K q.2).p H v) : KTab K w a tab :=
  ⟨⟨es, n, t, y, m⟩, h, fun z hz => ns_no t s fun hm => by
    obtain ⟨q, hq, e⟩ := List.mem_map.mp hm
    exact hz q hq e⟩
end SL
namespace SL
open PySem PySem.Spec PyProof.Rows L2 Evl NF WL
variable [PW]
def inSF (neg : Bool) (a b : PV) : Option PV := match a, b with
  | .str z, .lst as => match asSs as with
    | some zs => some (.bl (if neg then !decide (z ∈ zs) else decide (z ∈ zs)))
    | none => none
  | _, _ => none
theorem inV_str {a : Str} : ∀ {zs : List Str}, inV (.str a) (zs.map V.str) = decide (a ∈ zs)
  | [] => by simp [inV]
  | n :: ns => by
    have ih := inV_str (a := a) (zs := ns)
    unfold inV at *
    rw [List.map_cons, List.any_cons, ih]
    have e : eqV (.str n) (.str a) = decide (a = n) := by
      show (n == a) = decide (a = n)
      by_cases c : a = n
      · subst c; simp
      · simp [c, Ne.symm c]
    rw [e]
    by_cases c : a = n
    · simp [c]
    · simp [c]
theorem flat_strs : ∀ zs : List Str, (zs.map V.str).all flatV = true
  | [] => rfl
  | z :: zs => by
    rw [List.map_cons, List.all_cons, flat_strs zs]
    rfl
theorem ow_inS {K : PySem.W.Frag} {neg : Bool} : OpW K (rIn K neg) (inSF neg) := fun a b c e R H x y s px py C k => by
  match a, b, e with
  | .str i, .lst as, e =>
    simp only [inSF] at e
    cases h : asSs as with
    | none => rw [h] at e; cases e
    | some is =>
      rw [h] at e
      cases e
      cases px
      obtain ⟨p, us, rfl, hp, a2⟩ := py
      rw [asSs_al h a2] at hp
      exact ⟨p, _, rfl, .inl (SqL.of (s _ _ hp)), rfl, flat_strs _, by rw [inV_str]; exact k _ rfl⟩
end SL
namespace SL
open PySem PySem.Spec PyProof.Rows L2 Evl NF WL
variable [PW]
section
variable {K : PySem.W.Frag} {Z : WX} {ρ : List Sl} {ta tb : TE} {ma mb : W PV}
def asT : PV → Option (List PV)
  | .tup as => some as
  | _ => none
def cutT (ma : W PV) (ml mh : W (Option Int)) : W PV := bind ma fun a => bind ml fun l => bind mh fun h => lift ((asT a).map fun as => .tup (WL.cut as l h))
theorem cut_whole {α : Type} {as : List α} {l h : Option Int} (h1 : HT.sIx as.length 0 l = 0) (h2 : HT.sIx as.length as.length h = as.length) : WL.cut as l h = as := by
  unfold WL.cut
  rw [h1, h2, List.drop_zero, Nat.sub_zero, List.take_length]
theorem p_cutT {to th : TO} {ml mh : W (Option Int)} (ha : EP K Z ρ ta ma) (hl : OP K Z ρ to ml) (hh : OP K Z ρ th mh) : EP K Z ρ (tSl (rSlA K) ta to th) (cutT ma ml mh) := fun W0 W σ e Q Ψ Ξ hm k kx =>
  ha W0 W σ e _ _ _ hm (fun a v W1 g1 p z => hl W0 W1 σ (e.go g1) _ _ _ z (fun l W2 g2 z => hh W0 W2 σ ((e.go g1).go g2) _ _ _ z (fun h W3 g3 z => by
    obtain ⟨c, ec, z⟩ := z
    match a, ec with
    | .tup as, ec =>
      cases ec
      obtain ⟨q, vs, rfl, hq, al⟩ := p
      have al3 := (al.mono g2.le.r).mono g3.le.r
      have hq3 : SqT K W3.r q vs := ex_t (g2.le.r.trans g3.le.r) hq
      have gg := (g1.trans g2).trans g3
      have len : vs.length = as.length := by rw [al.length, mps_len]
      refine ⟨q, vs, rfl, ex_t g3.ok.sub hq3, fun hw => ?_, fun hn p hp => ?_⟩
      · have z : Ψ (.tup (WL.cut as l h)) W3.s := z
        rw [cut_whole (by rw [← len]; exact hw.1) (by rw [← len]; exact hw.2)] at z
        exact k (.tup as) _ W3 gg ⟨q, vs, rfl, hq3, al3⟩ z
      · have g4 := new_set (u := .tup (WL.cut vs l h)) g3.ok hp
        refine k (.tup (WL.cut as l h)) _ _ (gg.trans g4) ⟨p, _, rfl, SqT.of upd_same, ?_⟩ z
        show Al _ _ (mps K (WL.cut as l h))
        rw [mps_cut]
        exact WL.al_cut (al3.mono g4.le.r)) (kx.go (g1.trans g2))) (kx.go g1)) kx
theorem pe_sliceT {X : Cx} {e : Expr} {lo hi : Option Expr} {p2 pos : Pos} {te : TE} {tl th : TO} (hK : X.K = K) (he : PE X e te) (hl : PO X lo tl) (hu : PO X hi th) : PE X (.Subscript e (.Slice lo hi none p2) pos) (L2.tSl (rSlA K) te tl th) := hK ▸ pe_slice sl_tupA he hl hu
end
end SL
namespace SL
open PySem PySem.Spec PyProof.Rows L2 Evl NF WL
variable [PW]
def zipTL : List PV → Option (List PV)
  | [.tup as, .tup bs] => some (zipF as bs)
  | _ => none
def itZT (ms : W (List PV)) : W (List PV) := bind ms fun as => lift (zipTL as)
@[simp] theorem r_itZT (as bs : List PV) : itZT (ret [.tup as, .tup bs]) = ret (zipF as bs) := by unfold itZT; simp [zipTL]
section
variable {K : PySem.W.Frag} {Z : WX} {ρ : List Sl} {tA : TA} {ms : W (List PV)}
theorem w_zipT (h : VP K Z ρ tA ms) : WkP K Z ρ (RZ.iZipA K tA) (itZT ms) := fun W0 W σ e R Ψ Ξ hm kk kx =>
  h W0 W σ e _ _ _ hm (fun as vs W2 g al ⟨bs, eb, z⟩ => by
    match as, eb with
    | [.tup xs, .tup ys], eb =>
      cases eb
      obtain ⟨_, _, rfl, ⟨p1, u1, rfl, h1, a1⟩, ⟨p2, u2, rfl, h2, a2⟩⟩ := Al.inv2 al
      have up : ∀ {p : Addr} {us : List V} {W1 : Wd}, SqT K W2.r p us → Ex W2.r W1.r → Ok K W1 → SqT K W1.h p us := fun q a b => ex_t (a.trans b.sub) q
      have l1 : u1.length = xs.length := by rw [a1.length, mps_len]
      have l2 : u2.length = ys.length := by rw [a2.length, mps_len]
      have l0 := zipF_len xs ys
      refine ⟨p1, p2, u1, u2, rfl, .inr ⟨up h1 (Ex.refl _) g.ok, up h2 (Ex.refl _) g.ok, kk _ W2 _ g ⟨fun i W1 a b h => ?_, fun i W1 a b h => ?_, fun i W1 x H' a b hi y => ?_⟩ z⟩⟩
      · rw [l0] at h
        exact ⟨u1, u2, up h1 a b, up h2 a b, by omega⟩
      · rw [l0] at h
        exact ⟨u1, u2, _, _, up h1 a b, up h2 a b, List.getElem?_eq_getElem (by omega), List.getElem?_eq_getElem (by omega)⟩
      · obtain ⟨T, y1, y2, rfl, nT, rfl, f1, f2⟩ := y
        rw [l0] at hi
        have e1 : xs[i]? = some xs[i] := List.getElem?_eq_getElem (by omega)
        have e2 : ys[i]? = some ys[i] := List.getElem?_eq_getElem (by omega)
        have gr := new_set (u := .tup [y1, y2]) b nT
        have px : ∀ {us : List V} {as : List PV} {y : V} {c : PV}, Al W2.r us (mps K as) → us[i]? = some y → as[i]? = some c → (mp K c).p (upd W1.r T (.tup [y1, y2])) y := fun al e e' => by
          obtain ⟨P, hP, pp⟩ := al.getV e
          rw [mps_get e'] at hP
          cases hP
          exact MP.mono _ gr.le.r (MP.mono _ a pp)
        exact ⟨⟨upd W1.r T (.tup [y1, y2]), upd W1.h T (.tup [y1, y2]), W1.s⟩, _, rfl, rfl, gr, zipF_get xs ys i _ _ e1 e2, T, _, rfl, SqT.of upd_same, .cons (px a1 (f1 u1 (up h1 a b)) e1) (Al.one (px a2 (f2 u2 (up h2 a b)) e2))⟩
    | [], eb => cases eb) kx
theorem pi_zipAK {X : Cx} {K : PySem.W.Frag} {tg e : Expr} {es : List Expr} {x : Str} {p pos : Pos} {ta : TA} (h : X.K = K) (hi : PI X tg (.Call (.Name x p) (e :: es) [] pos) (RZ.iZipA X.K ta)) : PI X tg (.Call (.Name x p) (e :: es) [] pos) (RZ.iZipA K ta) := h ▸ hi
end
end SL
namespace SL
open PySem PySem.Spec PyProof.Rows L2 Evl NF WL
end SL
set_option maxHeartbeats 4000000
namespace SL
open PySem PySem.Spec PyProof.Rows L2 Evl NF WL
open Builtin.ObjectAttr
end SL
set_option maxHeartbeats 4000000
namespace SL
open PySem
open Sem (wp)
end SL
namespace SL
open PySem PySem.Spec PyProof.Rows L2 Evl NF WL
end SL
namespace SL
open PySem PySem.Spec PyProof.Rows L2 Evl NF WL
variable [PW]
def GdOk (g : List Code) (H : Hp) : Prop := ∀ (id : String) (v : Value) (rest : List Value) (kw : List (Str × Value)), Code.builtin id ⟨v :: rest, kw⟩ ∈ g → ∃ (a : Addr) (vs : List V) (q C dx : Addr) (fs : List (Str × V)), v = .ref a ∧ H a = some (.lst vs) ∧ V.ref q ∈ vs ∧ H q = some (.ins C dx fs)
theorem GdOk.nil {H : Hp} : GdOk [] H := fun _ _ _ _ h => nomatch h
theorem GdOk.more {g : List Code} {H H2 : Hp} (h : GdOk g H) (e : Ex H H2) : GdOk g H2 := fun id v rest kw m => by
  obtain ⟨a, vs, q, C, dx, fs, h1, h2, h3, h4⟩ := h id v rest kw m
  exact ⟨a, vs, q, C, dx, fs, h1, e _ _ h2, h3, e _ _ h4⟩
theorem GdOk.cons {g : List Code} {H : Hp} {id : String} {a : Addr} {rest : List Value} {vs : List V} {q C dx : Addr} {fs : List (Str × V)} (h : GdOk g H) (h1 : H a = some (.lst vs)) (h2 : V.ref q ∈ vs) (h3 : H q = some (.ins C dx fs)) : GdOk (.builtin id ⟨.ref a :: rest, []⟩ :: g) H := fun id' v rest' kw m => by
  rcases List.mem_cons.mp m with e | m
  · cases e
    exact ⟨a, vs, q, C, dx, fs, rfl, h1, h2, h3⟩
  · exact h id' v rest' kw m
end SL
namespace SL
open PySem PySem.Spec PyProof.Rows L2 Evl NF WL Builtin Builtin.List
end SL
namespace SL
open PySem PySem.Spec PyProof.Rows L2 Evl NF WL
variable [PW]
/-- a class with a __repr__ of its own: the text of its fields, whatever lists of objects are being shown -/
structure RepC (P : Program) (w : World) (K : PySem.W.Frag) (mg : Str → Option Value) (base : Heap) (C : Addr) (k : Nat) (ns : List Str) (tx : List PV → Option Str) : Prop where
  ex : ∃ (f : Addr) (fd : FuncData), PySem.W.findIn K (.ref C) "__repr__" = some (some (.ref f)) ∧ PySem.W.isFn K (.ref f) = true ∧ Binds K fd ["self"] [] ∧
    ∀ (g : List Code) (A : Around) (out : List Env) (s : Shared) (H : Hp) (args : Args) (x dx : Addr) (vs : List V) (as : List PV) (t : Str) (Q : VK), A.guards = some g → GdOk g H → Room k A → Env0 P w K mg base A out s H → BindsTo s fd args ((["self"] : List Str).zip [Value.ref x]) →
      H x = some (.ins C dx (ns.zip vs)) → vs.length = ns.length → Al H vs (mps K as) → tx as = some t → (∀ H', Ex H H' → Q (.str t) H') → codeAny (model P w) A (.call (.ref f) args) (CR CX0 out P w H s Q E0) s
/-- an object of that class, and its text -/
def InsT (K : PySem.W.Frag) (C : Addr) (ns : List Str) (tx : List PV → Option Str) (H : Hp) (v : V) (t : Str) : Prop := ∃ (x dx : Addr) (vs : List V) (as : List PV), v = .ref x ∧ H x = some (.ins C dx (ns.zip vs)) ∧ vs.length = ns.length ∧ Al H vs (mps K as) ∧ tx as = some t
theorem InsT.more {K : PySem.W.Frag} {C : Addr} {ns : List Str} {tx : List PV → Option Str} {H H2 : Hp} {v : V} {t : Str} (h : InsT K C ns tx H v t) (e : Ex H H2) : InsT K C ns tx H2 v t := by
  obtain ⟨x, dx, vs, as, h1, h2, h3, h4, h5⟩ := h
  exact ⟨x, dx, vs, as, h1, e _ _ h2, h3, h4.mono e, h5⟩
def rRepO (K : PySem.W.Frag) (C : Addr) (ns : List Str) (tx : List PV → Option Str) : List V → Hp → VK → Prop := fun xs H Q => ∃ v t, xs = [v] ∧ InsT K C ns tx H v t ∧ ∀ H', Ex H H' → Q (.str t) H'
section
variable {X : Cx} {C : Addr} {k j : Nat} {ns : List Str} {tx : List PV → Option Str}
theorem call_repO (L : RepC X.prog X.w X.K X.mg X.base C k ns tx) (gd : X.A.guards = some []) (hr : Room j X.A) (hk : k + 1 ≤ j) : CallR X (.builtin "repr") (rRepO X.K C ns tx) := by
  obtain ⟨f, fd, hl, hf, hb, F⟩ := L.ex
  intro pins s σ H xs us Q I r h
  obtain ⟨v, t, rfl, ⟨x, dx, vs, as, rfl, ea, h3, h4, h5⟩, q⟩ := h
  obtain ⟨u, rfl, ru⟩ := vals1 r
  cases (show u = Value.ref x from ru)
  obtain ⟨mA, O, _⟩ := ins_get I.hok ea
  obtain ⟨od, J, _⟩ := O.look
  obtain ⟨m, fr⟩ := I.fr
  have b := hb s [.ref x] I.kIn rfl
  refine PySem.W.repr_K (hr.mono hk).in1.units0 fr I.ok.mod.kin J hl hf (wpAny_call (codeAny_mono (F [] X.A.in1 X.stack s H ⟨[.ref x], []⟩ x dx vs as t (fun v H' => ∃ y, v = V.str y ∧ Q (.str y) H') gd GdOk.nil (hr.mono hk).in1 I.env0.in1 b ea h3 h4 h5 fun H' e => ⟨t, rfl, q H' e⟩) ?_))
  intro rr s2 z
  match rr, z with
  | .error y, z => exact z.elim
  | .ok (.ret u), z =>
    obtain ⟨v, H', I', rv, y, rfl, q⟩ := I.after z
    obtain ⟨tk, rfl⟩ := rv
    exact ⟨.str y, H', I', ⟨_, rfl⟩, q⟩
end
end SL
namespace SL
open PySem PySem.Spec PyProof.Rows L2 Evl NF WL
variable [PW]
/-- a new thing that nobody reads -/
theorem grow {K : PySem.W.Frag} {W : Wd} {H2 : Hp} (o : Ok K W) (e : Ex W.h H2) : Go K W ⟨W.r, H2, W.s⟩ :=
  ⟨⟨o.sub.trans e, fun p c h => ⟨(o.cell p c h).1, (o.cell p c h).2.stay (Ex.refl _) fun u hu => e _ _ hu⟩⟩, Ex.refl _, fun p u _ h => e _ _ h, fun p u _ _ h _ => h, fun p c h => (o.stands h).imp fun u z => ⟨e _ _ z.1, z.2⟩, fun p c h n => by
    have h' : W.s p = some c := h
    rw [n] at h'
    cases h'⟩
/-- the text of an object of a class -/
def txO (c : Addr) (ns : List Str) (tx : List PV → Option Str) : PV → Option Str
  | .ins c2 ns2 as => if c2 = c ∧ ns2 = ns then tx as else none
  | _ => none
def repOF (c : Addr) (ns : List Str) (tx : List PV → Option Str) (a : PV) : Option PV := (txO c ns tx a).map .str
section
variable {K : PySem.W.Frag} {Z : WX} {ρ : List Sl} {ta : TE} {ma : W PV} {c : Addr} {ns : List Str} {tx : List PV → Option Str}
theorem txO_p {R H : Hp} {a : PV} {v : V} {t : Str} (h : txO c ns tx a = some t) (e : Ex R H) (p : (mp K a).p R v) : InsT K c ns tx H v t := by
  unfold txO at h
  split at h
  · rename_i c2 ns2 as
    split at h
    · rename_i hc
      obtain ⟨rfl, rfl⟩ := hc
      obtain ⟨q, dx, vs, rfl, h1, h2, h3⟩ := p
      exact ⟨q, dx, vs, as, rfl, e _ _ h1, h2, h3.mono e, h⟩
    · cases h
  · cases h
theorem p_repO (ha : EP K Z ρ ta ma) : EP K Z ρ (tCB (rRepO K c ns tx) (tCons ta tNil)) (op1 (repOF c ns tx) ma) := fun W0 W σ e Q Ψ Ξ hm k kx =>
  ha W0 W σ e _ _ _ hm (fun a v W1 g1 p z => by
    obtain ⟨b, eb, z⟩ := z
    unfold repOF at eb
    obtain ⟨t, et, rfl⟩ := Option.map_eq_some_iff.mp eb
    exact ⟨v, t, rfl, txO_p et g1.ok.sub p, fun H' e' => k (.str t) _ ⟨W1.r, H', W1.s⟩ (g1.trans (grow g1.ok e')) rfl z⟩) kx
end
theorem le_line {n : Nat} (h : n ≤ 4000000) : n ≤ sizeLine := Nat.le_trans h (by decide)
end SL
namespace SL
open PySem PySem.Spec PyProof.Rows L2 Evl NF WL
variable [PW]
def fmtT : PV → Option Str
  | .str z => if z.length ≤ 4000000 then some z else none
  | .int i => if i.natAbs.log2 < 1920 then some (toString i : String) else none
  | _ => none
/-- the parts of an f-string -/
def JP (K : PySem.W.Frag) (Z : WX) (ρ : List Sl) (ts : List TE) (k : Str → W Str) : Prop := ∀ acc W0 W σ, En K W0 W σ ρ → ∀ (Q : Str → Hp → Prop) Ψ Ξ, k acc W.s Ψ Ξ → (∀ z W2, Go K W W2 → Ψ z W2.s → Q z W2.h) → KX K Z σ W Ξ → tJs ts acc σ W.h Q
def jsN : Str → W Str := fun acc => ret acc
def jsL (c : Str) (k : Str → W Str) : Str → W Str := fun acc => bind (lift (if (acc ++ c).length ≤ 4000000 then some () else none)) fun _ => k (acc ++ c)
def jsF (m : W PV) (k : Str → W Str) : Str → W Str := fun acc => bind m fun a => bind (lift (fmtT a)) fun y => bind (lift (if (acc ++ y).length ≤ 4000000 then some () else none)) fun _ => k (acc ++ y)
def fstrW (k : Str → W Str) : W PV := bind (k Str.empty) fun z => ret (.str z)
section
variable {K : PySem.W.Frag} {Z : WX} {ρ : List Sl} {te : TE} {ts : List TE} {m : W PV} {k : Str → W Str} {c : Str} {ta : TE} {ma : W PV}
theorem if_some {p : Prop} [Decidable p] {u : Unit} (h : (if p then some () else none) = some u) : p := by
  split at h
  · assumption
  · cases h
theorem j_nil : JP K Z ρ [] jsN := fun acc W0 W σ e Q Ψ Ξ hm kk kx => kk acc W e.id hm
theorem j_lit (h : JP K Z ρ ts k) : JP K Z ρ (tC (.str c) :: ts) (jsL c k) := fun acc W0 W σ e Q Ψ Ξ hm kk kx => by
  obtain ⟨u, hu, z⟩ := hm
  exact ⟨c, rfl, le_line (if_some hu), h (acc ++ c) W0 W σ e Q Ψ Ξ z kk kx⟩
theorem j_fmt (he : EP K Z ρ te m) (h : JP K Z ρ ts k) : JP K Z ρ (tFmt te :: ts) (jsF m k) := fun acc W0 W σ e Q Ψ Ξ hm kk kx => by
  refine he W0 W σ e _ _ _ hm (fun a v W1 g1 p z => ?_) kx
  obtain ⟨y, hy, u, hu, z⟩ := z
  have rest : tJs ts (acc ++ y) σ W1.h Q := h (acc ++ y) W0 W1 σ (e.go g1) Q Ψ Ξ z (fun z W2 g => kk z W2 (g1.trans g)) (kx.go g1)
  have fits := le_line (if_some hu)
  cases a <;> simp only [fmtT] at hy <;> try cases hy
  · rename_i i
    split at hy
    · rename_i hi
      cases hy
      cases p
      exact .inr ⟨i, rfl, hi, _, rfl, fits, rest⟩
    · cases hy
  · rename_i z0
    split at hy
    · rename_i hz
      cases hy
      cases p
      exact .inl ⟨_, rfl, le_line hz, _, rfl, fits, rest⟩
    · cases hy
theorem p_fstr (h : JP K Z ρ ts k) : EP K Z ρ (fun σ H Q => tJs ts Str.empty σ H fun out H1 => Q (.str out) H1) (fstrW k) := fun W0 W σ e Q Ψ Ξ hm kk kx =>
  h Str.empty W0 W σ e _ _ Ξ hm (fun z W2 g hz => kk (.str z) _ W2 g rfl hz) kx
def rStrI : List V → Hp → VK → Prop := fun xs H Q => ∃ i, xs = [.int i] ∧ i.natAbs.log2 < 1920 ∧ Q (.str (toString i : String)) H
theorem call_strI {X : Cx} : CallR X (.type "str") rStrI := call_str_int
def strIF : List PV → Option PV
  | [.int i] => if i.natAbs.log2 < 1920 then some (.str (toString i : String)) else none
  | _ => none
theorem cw_strI : CbW K rStrI strIF := fun as c e R H vs s al C kk => by
  match as, e with
  | [.int i], e =>
    simp only [strIF] at e
    split at e
    · rename_i hi
      cases e
      obtain ⟨v, rfl, p⟩ := Al.inv1 al
      cases p
      exact ⟨i, rfl, hi, kk _ rfl⟩
    · cases e
end
structure StrO (P : Program) (w : World) (K : PySem.W.Frag) (mg : Str → Option Value) (base : Heap) (C : Addr) (k : Nat) (sp : Sp) : Prop where
  ex : ∃ (f : Addr) (fd : FuncData), PySem.W.findIn K (.ref C) "__str__" = some (some (.ref f)) ∧ PySem.W.isFn K (.ref f) = true ∧ FnOk P w K mg base CX0 k f fd ["self"] sp ∧ Binds K fd ["self"] []
def rStrO (C : Addr) (sp : Sp) : List V → Hp → VK → Prop := fun xs H Q => ∃ (a dx : Addr) (fs : List (Str × V)), xs = [.ref a] ∧ H a = some (.ins C dx fs) ∧ sp [.ref a] H (fun v H' => ∃ z : Str, v = .str z ∧ Q (.str z) H') E0
theorem call_strO {X : Cx} {C : Addr} {k j : Nat} {sp : Sp} (L : StrO X.prog X.w X.K X.mg X.base C k sp) (hr : Room j X.A) (hk : k + 2 ≤ j) : CallR X (.type "str") (rStrO C sp) := by
  obtain ⟨f, fd, hl, hf, F, hb⟩ := L.ex
  intro pins s σ H xs us Q I r h
  obtain ⟨a, dx, fs, rfl, ea, hs⟩ := h
  obtain ⟨u, rfl, ru⟩ := vals1 r
  cases (show u = Value.ref a from ru)
  obtain ⟨mA, O, _⟩ := ins_get I.hok ea
  obtain ⟨od, J, _⟩ := O.look
  have b := hb s [.ref a] I.kIn rfl
  refine PySem.W.kso_call (hr.mono hk).in1.in1.units0 I.kIn J hl hf (wpAny_call (codeAny_mono (F.run X.A.in1.in1 X.stack s H ⟨[.ref a], []⟩ [.ref a] [.ref a] _ E0 (hr.mono hk).in1.in1 I.env0.in1.in1 b (.cons rfl .nil) hs) ?_))
  intro rr s2 z
  match rr, z with
  | .error y, z => exact z.elim
  | .ok (.ret u), z =>
    obtain ⟨v, H', I', rv, n, rfl, q⟩ := I.after z
    obtain ⟨t, rfl⟩ := rv
    exact ⟨.str n, H', I', ⟨_, rfl⟩, q⟩
def strOf : RV → Option PV
  | .v (.str z) => some (.str z)
  | _ => none
def strOW (c : Addr) (F : List PV → W RV) (ma : W PV) : W PV := bind ma fun a => bind (look fun S => isObj c "" S a) fun _ => bind (noX (F [a])) fun r => lift (strOf r)
section
variable {K : PySem.W.Frag} {Z : WX} {ρ : List Sl} {ta : TE} {ma : W PV} {F : List PV → W RV}
theorem p_strO {c : Addr} (ha : EP K Z ρ ta ma) : EP K Z ρ (tCB (rStrO c (spW K F)) (tCons ta tNil)) (strOW c F ma) := fun W0 W σ e Q Ψ Ξ hm k kx =>
  ha W0 W σ e _ _ _ hm (fun a v W1 g1 p z => by
    obtain ⟨_, ho, z⟩ := z
    obtain ⟨q, dx, fs, rfl, h1, h2⟩ := isObj_p g1.ok ho p
    refine ⟨q, dx, fs, rfl, h1, W1, [a], _, _, rfl, g1.ok, Al.one p, z, fun r v W3 g3 rr zz => ?_, fun _ _ _ _ _ _ z => z.elim⟩
    obtain ⟨b, eb, zz⟩ := zz
    unfold strOf at eb
    split at eb
    · rename_i n
      cases eb
      cases rr
      exact ⟨n, rfl, k (.str n) _ W3 (g1.trans g3) rfl zz⟩
    · cases eb) kx
end
end SL
namespace SL
open PySem PySem.Spec PyProof.Rows L2 Evl NF WL
variable [PW]
section
variable {X : Cx} {K : PySem.W.Frag} {Z : WX} {W0 W1 W2 W3 : Wd} {σ : L2.St} {ρ : List Sl} {i j : Nat} {ta tb te to ti : TE} {tA tr : TA} {t : TS} {ma mb me mo mi : W PV} {ms mk : W (List PV)} {S : Type} {pat : S → List Sl} {k : W (Fl S)}
def turnC (f : List PV → List PV) (o : PV) : W Unit := fun S Ψ _ => ∃ p as, o = .ptr p ∧ S p = some (.lst as) ∧ Ψ () (put S p (.lst (f as)))
theorem turnC_core {r : V → List V → Hp → VK → Prop} {fV : List V → List V} {fP : List PV → List PV} (hr : ∀ p us (H : Hp) Q, H p = some (.lst us) → Q .non (upd H p (.lst (fV us))) → r (.ref p) [] H Q)
    (hal : ∀ {H : Hp} {vs : List V} {as : List PV}, Al H vs (mps K as) → Al H (fV vs) (mps K (fP as))) {Wa : Wd} {Q : VK} {Ψ : Unit → Sto → Prop} {Ξ : XV → Sto → Prop} (e : En K W0 Wa σ ρ) (ho : EP K Z ρ to mo)
    (hm : (bind mo fun o => turnC fP o) Wa.s Ψ Ξ) (kk : ∀ W2, En K W0 W2 σ ρ → Ψ () W2.s → Q .non W2.h) (kx : KX K Z σ Wa Ξ) : tBM0 K "list" r to σ Wa.h Q :=
  ho W0 Wa σ e _ _ _ hm (fun o x W1 g1 p z => by
    obtain ⟨q, as, rfl, hs, z⟩ := z
    cases p
    obtain ⟨us, h2, h3⟩ := (g1.ok.cell q _ hs).2
    refine ⟨.inl ⟨rfl, us, SqL.of h2⟩, hr q us _ Q h2 ?_⟩
    have g3 := put_cell (p := q) (u := .lst (fV us)) (c2 := .lst (fP as)) g1.ok hs ⟨_, upd_same, hal h3⟩
    exact kk _ ((e.go g1).go g3) z) kx
theorem gp_clrC (ho : EP K Z ρ to mo) (hk : GP K Z ρ t pat k) : GP K Z ρ (tSeq (tDrop (tBM0 K "list" rClear to)) t) pat (bind mo fun o => bind (turnC (fun _ => []) o) fun _ => k) := fun W0 W σ D e Φ Ξ hm q =>
  turnC_core (fV := fun _ => []) (fP := fun _ => []) (fun p us H Q a b => ⟨p, us, rfl, rfl, a, b⟩) (fun _ => .nil) e ho (Ψ := fun _ S => k S Φ Ξ) hm (fun W2 e2 z => hk W0 W2 σ D e2 _ _ z q) (q.x e)
end
end SL
namespace SL
open PySem PySem.Spec PyProof.Rows L2 Evl NF WL
variable [PW]
/-- a dict, by what its keys are -/
def IsN (P : Program) (w : World) (H : Hp) (a : Addr) : Prop := (∃ kvs, H a = some (.dK kvs)) ∨ ∃ xs, H a = some (dN P w a xs)
/-- what a dict's keys have, in their order -/
def ItsN (P : Program) (w : World) (H : Hp) (a : Addr) (zs : List V) : Prop := (∃ kvs, H a = some (.dK kvs) ∧ zs = kvs.map (·.2)) ∨ ∃ xs, H a = some (dN P w a xs) ∧ zs = xs.map fun x => x.2.2
def atN (xs : List (NestedKey × Addr × V)) (k : NestedKey) : Option V := (xs.find? fun x => decide (x.1 = k)).map fun x => x.2.2
section
variable {X : Cx} {pins : List (Addr × Obj)} {σ : L2.St} {H : Hp} {s : Shared} {a : Addr} {A : Around} {E : Value → Shared → Prop}
theorem isN_at (I : Inv X pins σ H s) (d : IsN X.prog X.w H a) : s.TypeIs (.ref a) "dict" ∧ (∀ b, Value.ref a = .ref b → ∃ ob, s.heap.get? b = some ob ∧ ob.dict = none) ∧ (a == sysModules) = false := by
  rcases d with ⟨kvs, e⟩ | ⟨xs, e⟩
  · exact isD_at I (.inl ⟨kvs, .inl e⟩)
  · obtain ⟨⟨_, hd, _, _, _, o, es, ep, ho, hx, _⟩, _⟩ := I.hok a _ e
    refine ⟨⟨o, ho, hx.1⟩, fun b q => ?_, hd⟩
    cases q
    exact ⟨o, ho, hx.2.1⟩
end
def SetN (P : Program) (w : World) (K : PySem.W.Frag) (H : Hp) (a : Addr) (y z : V) (Q : VK) : Prop :=
  (∃ (kvs : List (Key × V)) (k : Key), H a = some (.dK kvs) ∧ y = kV k ∧ kvs.length < sizeLine ∧ (∀ v, valV kvs k = some v → Q v H) ∧ (valV kvs k = none → Q z (upd H a (.dK (putK kvs k z))))) ∨
  ∃ (xs : List (NestedKey × Addr × V)) (ks : List NestedKey) (b : Addr), (H a = some (dN P w a xs) ∨ (xs = [] ∧ H a = some (.dK []))) ∧ y = .ref b ∧ (∀ x ∈ xs, NKey K H x.1 (.ref x.2.1) ∧ x.1.depth ≤ 8) ∧ NKey K H (.tup ks) (.ref b) ∧ (NestedKey.tup ks).depth ≤ 8 ∧ xs.length < sizeLine ∧
    (∀ v, atN xs (.tup ks) = some v → Q v H) ∧ (atN xs (.tup ks) = none → Q z (upd H a (dN P w a (xs ++ [(.tup ks, b, z)]))))
def tSet2 (P : Program) (w : World) (K : PySem.W.Frag) (td ty tx : TE) : TE := fun σ H Q => td σ H fun x H1 => ∃ a, x = .ref a ∧ IsN P w H1 a ∧ ty σ H1 fun y H2 => tx σ H2 fun z H3 => SetN P w K H3 a y z Q
section
variable {X : Cx} {o e f : Expr} {td ty tx : TE} {apos cpos : Pos}
def vwO (p d : Addr) : HO := .ext fun h => h.IsValuesView p d
def tVals (P : Program) (w : World) (td : TE) : TE := fun σ H Q => td σ H fun x H1 => ∃ a, x = .ref a ∧ IsN P w H1 a ∧ ∀ p, H1 p = none → Q (.ref p) (upd H1 p (vwO p a))
def rListV (P : Program) (w : World) : List V → Hp → VK → Prop := fun xs H Q => ∃ p a, xs = [V.ref p] ∧ H p = some (vwO p a) ∧ IsN P w H a ∧ ∃ zs, ItsN P w H a zs ∧ ∀ q, H q = none → Q (.ref q) (upd H q (.lst zs))
end
end SL
namespace SL
open PySem PySem.Spec PyProof.Rows L2 Evl NF WL
variable [PW]
mutual
def keyT : PV → Option NestedKey
  | .int i => some (.num i)
  | .str z => some (.text z)
  | .tup as => (keyTs as).map .tup
  | _ => none
def keyTs : List PV → Option (List NestedKey)
  | [] => some []
  | a :: as => match keyT a, keyTs as with
    | some k, some ks => some (k :: ks)
    | _, _ => none
end
section
variable {K : PySem.W.Frag} {R : Hp}
mutual
theorem keyT_p : ∀ {a : PV} {k : NestedKey} {v : V}, keyT a = some k → (mp K a).p R v → NKey K R k v
  | .int i, k, v, h, p => by
    cases h
    cases p
    exact .int i
  | .str z, k, v, h, p => by
    cases h
    cases p
    exact .text z
  | .tup as, k, v, h, p => by
    simp only [keyT, Option.map_eq_some_iff] at h
    obtain ⟨ks, h, rfl⟩ := h
    obtain ⟨q, vs, rfl, hs, al⟩ := p
    exact .tup hs (keyTs_p h al)
  | .non, _, _, h, _ => by cases h
  | .bl _, _, _, h, _ => by cases h
  | .lst _, _, _, h, _ => by cases h
  | .dic _ _, _, _, h, _ => by cases h
  | .dit _ _, _, _, h, _ => by cases h
  | .ins _ _ _, _, _, h, _ => by cases h
  | .exc _ _ _, _, _, h, _ => by cases h
  | .cls _, _, _, h, _ => by cases h
  | .scr _, _, _, h, _ => by cases h
  | .ptr _, _, _, h, _ => by cases h
  | .hole, _, _, h, _ => by cases h
theorem keyTs_p : ∀ {as : List PV} {ks : List NestedKey} {vs : List V}, keyTs as = some ks → Al R vs (mps K as) → NKeys K R ks vs
  | [], _, _, h, .nil => by
    cases h
    exact .nil
  | a :: as, ks, _, h, .cons p al => by
    cases c1 : keyT a with
    | none => simp only [keyTs, c1] at h; cases h
    | some k =>
      cases c2 : keyTs as with
      | none => simp only [keyTs, c1, c2] at h; cases h
      | some ks2 =>
        simp only [keyTs, c1, c2] at h
        cases h
        exact .cons (keyT_p c1 p) (keyTs_p c2 al)
end
end
def tupK : PV → Option NestedKey
  | .tup as => match keyTs as with
    | some ks => if (NestedKey.tup ks).depth ≤ 8 then some (.tup ks) else none
    | none => none
  | _ => none
def atD (ds : List (NestedKey × V)) (k : NestedKey) : Option V := (ds.find? fun e => decide (e.1 = k)).map (·.2)
structure DicL (P : Program) (w : World) (K : PySem.W.Frag) (f : PV → Option NestedKey) (Dc : Hp → Hp → Addr → List (NestedKey × V) → Prop) : Prop where
  up : ∀ {r r2 h h2 : Hp} {a ds}, Dc r h a ds → Ex r r2 → h2 a = h a → Dc r2 h2 a ds
  there : ∀ {r h : Hp} {a ds}, Dc r h a ds → ∃ o, h a = some o ∧ nt o = true ∧ ∀ xs, o ≠ .lst xs
  new : ∀ {r h : Hp} {a}, h a = some (.dK []) → Dc r h a []
  isN : ∀ {r h : Hp} {a ds}, Dc r h a ds → IsN P w h a
  its : ∀ {r h : Hp} {a ds}, Dc r h a ds → ItsN P w h a (ds.map (·.2))
  set : ∀ {r h : Hp} {a ds c k v z} {Q : VK}, f c = some k → (mp K c).p r v → Ex r h → Dc r h a ds → ds.length < sizeLine → (∀ v', atD ds k = some v' → Q v' h) → (atD ds k = none → ∀ o, nt o = true → (∀ xs, o ≠ .lst xs) → (∀ h2 : Hp, h2 a = some o → Dc r h2 a (ds ++ [(k, z)])) → Q z (upd h a o)) → SetN P w K h a v z Q
end SL
namespace SL
open PySem PySem.Spec PyProof.Rows L2 Evl NF WL
variable [PW]
abbrev Ent := NestedKey × Addr × List Nat
def intsV (l : List Nat) : List V := l.map fun i : Nat => V.int (i : Int)
structure PI (P : Program) (w : World) (K : PySem.W.Frag) (Dc : Hp → Hp → Addr → List (NestedKey × V) → Prop) (W0 W : Wd) (a : Addr) (ts : List Ent) : Prop where
  dc : Dc W.r W.h a (ts.map fun t => (t.1, V.ref t.2.1))
  f0 : W0.h a = none
  fr : W.r a = none
  fs : W.s a = none
  it : ∀ t ∈ ts, W0.h t.2.1 = none ∧ W.r t.2.1 = none ∧ W.s t.2.1 = none ∧ W.h t.2.1 = some (.lst (intsV t.2.2))
  nd : (ts.map (·.2.1)).Nodup
  kd : (ts.map (·.1)).Nodup
section
variable {P : Program} {w : World} {K : PySem.W.Frag} {f : PV → Option NestedKey} {Dc : Hp → Hp → Addr → List (NestedKey × V) → Prop} {W0 W W2 : Wd} {a p q : Addr} {ts : List Ent} {σ : L2.St} {ρ : List Sl} {u : HO}
theorem go_snone (g : Go K W W2) (h : W.s p = none) {o : HO} (e : W.h p = some o) : W2.s p = none := by
  cases c : W2.s p with
  | none => rfl
  | some k => rw [g.le.n _ _ c h] at e; cases e
theorem PI.go (L : DicL P w K f Dc) (h : PI P w K Dc W0 W a ts) (g : Go K W W2) : PI P w K Dc W0 W2 a ts := by
  obtain ⟨o, ho, hn, _⟩ := L.there h.dc
  refine ⟨L.up h.dc g.le.r (by rw [ho]; exact g.le.h _ _ h.fs ho), h.f0, g.le.w _ _ ho hn h.fr h.fs, go_snone g h.fs ho, fun t ht => ?_, h.nd, h.kd⟩
  obtain ⟨h1, h2, h3, h4⟩ := h.it t ht
  exact ⟨h1, g.le.w _ _ h4 rfl h2 h3, go_snone g h3 h4, g.le.h _ _ h3 h4⟩
end
end SL
namespace SL
open PySem PySem.Spec PyProof.Rows L2 Evl NF WL
variable [PW]
section
variable {P : Program} {w : World} {K : PySem.W.Frag} {Z : WX} {f : PV → Option NestedKey} {Dc : Hp → Hp → Addr → List (NestedKey × V) → Prop} {W0 W W2 : Wd} {a p q : Addr} {ts : List Ent} {σ : L2.St} {ρ : List Sl} {u : HO}
def tPart (P : Program) (w : World) (K : PySem.W.Frag) : TS := tSeq (tAsg tDNewK (gName 1)) (tSeq (tFor (iEnum K (tCons (tVar 0) tNil)) (gTup K 2 (gCons (gName 2) (gCons (gName 3) gNil))) (tDrop (tBM K "list" rAppend (tSet2 P w K (tVar 1) (tVar 3) (tLst tNil)) (tCons (tVar 2) tNil)))) (tRet (tCB (rListV P w) (tCons (tVals P w (tVar 1)) tNil))))
end
end SL
namespace SL
open PySem PySem.Spec PyProof.Rows L2 Evl NF WL
variable [PW]
inductive TyN (K : PySem.W.Frag) (H : Hp) : V → String → Prop
  | non : TyN K H .non "NoneType"
  | bl (b : Bool) : TyN K H (.bl b) "bool"
  | int (i : Int) : TyN K H (.int i) "int"
  | str (z : Str) : TyN K H (.str z) "str"
  | lst {p : Addr} {xs : List V} : SqL K H p xs → TyN K H (.ref p) "list"
  | tup {p : Addr} {xs : List V} : SqT K H p xs → TyN K H (.ref p) "tuple"
  | dic {p : Addr} {kvs : List (Key × V)} : H p = some (.dK kvs) → TyN K H (.ref p) "dict"
def tyNs : List String := ["NoneType", "bool", "int", "str", "list", "tuple", "dict"]
structure EqC (K : PySem.W.Frag) (C : Addr) : Prop where
  up : ∀ n ∈ tyNs, PySem.W.subIn K (.type n) (.ref C) = some false
  dn : ∀ n ∈ tyNs, PySem.W.subIn K (.ref C) (.type n) = some false
section
variable {X : Cx} {pins : List (Addr × Obj)} {σ : L2.St} {H : Hp} {s : Shared} {x C : Addr} {ox : Obj} {od : Option Obj} {n : String} {y : V} {u : Value}
theorem TyN.mem {K : PySem.W.Frag} (h : TyN K H y n) : n ∈ tyNs := by cases h <;> decide
theorem TyN.is (I : Inv X pins σ H s) (h : TyN X.K H y n) (r : RelV y u) : s.TypeIs u n := by
  cases h with
  | non => cases r; exact rfl
  | bl b => cases r; exact rfl
  | int i => obtain ⟨t, rfl⟩ := r; exact rfl
  | str z => obtain ⟨t, rfl⟩ := r; exact rfl
  | lst h =>
    cases r
    obtain ⟨_, _, ⟨o, k, e, hc, _⟩, _⟩ := I.list h
    exact ⟨o, e, hc⟩
  | tup h =>
    cases r
    obtain ⟨_, _, ⟨o, e, hc, _⟩, _⟩ := I.tuple h
    exact ⟨o, e, hc⟩
  | dic h =>
    cases r
    exact (isN_at I (.inl ⟨_, h⟩)).1
end
section
variable {prog : Program} {w : World} {A : Around} {E : Value → Shared → Prop} {s : Shared} {K : PySem.W.Frag} {x C : Addr} {ox : Obj} {od : Option Obj}
theorem isi_inst {T : String} {b : Bool} {Q : Bool → Shared → Prop} (X : K.In s.heap) (I : PySem.W.InstAt s.heap x ox C od) (hd : PySem.W.subIn K (.ref C) (.type T) = some b) (q : Q b s) : wpAny (model prog w) A (isInstance (.ref x) (.type T)) Q E s := by
  unfold isInstance
  exact wpAny_bind (I.type.here ((PySem.W.looks_subIn X hd).here q))
theorem dec_list {l : Addr} {Q : Value → Shared → Prop} (hl : s.TypeIs (.ref l) "list") (X : K.In s.heap) (I : PySem.W.InstAt s.heap x ox C od) (hd : PySem.W.subIn K (.ref C) (.type "list") = some false) (q : Q .notImplemented s) : wpAny (model prog w) A (call (.builtin "list.__eq__") [.ref l, .ref x]) Q E s := by
  refine GQ.call_here PySem.F.slot_list_eq hl PySem.F.entry_list_eq (PySem.F.args_list_eq_2 _ _) ?_
  obtain ⟨hp, g, d, tk, os⟩ := s
  wp_walk using isi_inst X I hd
  exact q
theorem dec_tuple {l : Addr} {Q : Value → Shared → Prop} (hl : s.TypeIs (.ref l) "tuple") (X : K.In s.heap) (I : PySem.W.InstAt s.heap x ox C od) (hd : PySem.W.subIn K (.ref C) (.type "tuple") = some false) (q : Q .notImplemented s) : wpAny (model prog w) A (call (.builtin "tuple.__eq__") [.ref l, .ref x]) Q E s := by
  refine GQ.call_here PySem.F.slot_tuple_eq hl PySem.F.entry_tuple_eq (PySem.F.args_tuple_eq_2 _ _) ?_
  obtain ⟨hp, g, d, tk, os⟩ := s
  wp_walk using isi_inst X I hd
  exact q
theorem dec_dict {l : Addr} {Q : Value → Shared → Prop} (hl : s.TypeIs (.ref l) "dict") (X : K.In s.heap) (I : PySem.W.InstAt s.heap x ox C od) (hd : PySem.W.subIn K (.ref C) (.type "dict") = some false) (q : Q .notImplemented s) : wpAny (model prog w) A (call (.builtin "dict.__eq__") [.ref l, .ref x]) Q E s := by
  refine GQ.call_here PySem.F.slot_dict_eq hl PySem.F.entry_dict_eq (PySem.F.args_dict_eq_2 _ _) ?_
  obtain ⟨hp, g, d, tk, os⟩ := s
  wp_walk using isi_inst X I hd
  exact q
theorem dec_int {i : Int} {t : Tok} {dx : Addr} {Q : Value → Shared → Prop} (hx : s.heap.get? x = some (PySem.W.instObj C dx)) (q : Q .notImplemented s) : wpAny (model prog w) A (call (.builtin "int.__eq__") [.int i t, .ref x]) Q E s := by
  refine GQ.call_here PySem.F.slot_int_eq (typeIs_int _ _ _) PySem.F.entry_int_eq (PySem.F.args_int_eq_2 _ _) ?_
  obtain ⟨hp, g, d, tk, os⟩ := s
  wp_walk
  exact q
theorem dec_bool {i : Bool} {dx : Addr} {Q : Value → Shared → Prop} (hx : s.heap.get? x = some (PySem.W.instObj C dx)) (q : Q .notImplemented s) : wpAny (model prog w) A (call (.builtin "int.__eq__") [.bool i, .ref x]) Q E s := by
  refine GQ.call_here PySem.F.slot_bool_eq (rfl) PySem.F.entry_int_eq (PySem.F.args_int_eq_2 _ _) ?_
  obtain ⟨hp, g, d, tk, os⟩ := s
  wp_walk
  exact q
theorem dec_str {i : Str} {t : Tok} {dx : Addr} {Q : Value → Shared → Prop} (hx : s.heap.get? x = some (PySem.W.instObj C dx)) (q : Q .notImplemented s) : wpAny (model prog w) A (call (.builtin "str.__eq__") [.str i t, .ref x]) Q E s := by
  refine GQ.call_here PySem.F.slot_str_eq (typeIs_str _ _ _) PySem.F.entry_str_eq (PySem.F.args_str_eq_2 _ _) ?_
  obtain ⟨hp, g, d, tk, os⟩ := s
  wp_walk
  exact q
theorem dec_none {Q : Value → Shared → Prop} (q : Q .notImplemented s) : wpAny (model prog w) A (call (.builtin "NoneType.__eq__") [.none, .ref x]) Q E s := by
  refine GQ.call_here PySem.F.slot_NoneType_eq rfl PySem.F.entry_NoneType_eq (PySem.F.args_NoneType_eq_2 _ _) ?_
  obtain ⟨hp, g, d, tk, os⟩ := s
  wp_walk
  exact q
/-- what a built-in value says of an instance: it declines -/
theorem declines {n : String} {u : Value} {dx : Addr} (hn : n ∈ tyNs) (ty : s.TypeIs u n) (sh : n = "int" → ∃ i t, u = .int i t) (sb : n = "bool" → ∃ i, u = .bool i) (ss : n = "str" → ∃ i t, u = .str i t) (sn : n = "NoneType" → u = .none) (sr : n = "list" ∨ n = "tuple" ∨ n = "dict" → ∃ l, u = .ref l)
    (X : K.In s.heap) (I : PySem.W.InstAt s.heap x ox C od) (hx : s.heap.get? x = some (PySem.W.instObj C dx)) (q : EqC K C) : ∃ id, Slot n (cmpInfo .Eq).2.1 id ∧ ∀ (E : Value → Shared → Prop) (Q : Value → Shared → Prop), Q .notImplemented s → wpAny (model prog w) A (call (.builtin id) [u, .ref x]) Q E s := by
  simp only [tyNs, List.mem_cons, List.not_mem_nil, or_false] at hn
  rcases hn with rfl | rfl | rfl | rfl | rfl | rfl | rfl
  · obtain rfl := sn rfl
    exact ⟨_, PySem.F.slot_NoneType_eq, fun E Q h => dec_none h⟩
  · obtain ⟨i, rfl⟩ := sb rfl
    exact ⟨_, PySem.F.slot_bool_eq, fun E Q h => dec_bool hx h⟩
  · obtain ⟨i, t, rfl⟩ := sh rfl
    exact ⟨_, PySem.F.slot_int_eq, fun E Q h => dec_int hx h⟩
  · obtain ⟨i, t, rfl⟩ := ss rfl
    exact ⟨_, PySem.F.slot_str_eq, fun E Q h => dec_str hx h⟩
  · obtain ⟨l, rfl⟩ := sr (.inl rfl)
    exact ⟨_, PySem.F.slot_list_eq, fun E Q h => dec_list ty X I (q.dn _ (by decide)) h⟩
  · obtain ⟨l, rfl⟩ := sr (.inr (.inl rfl))
    exact ⟨_, PySem.F.slot_tuple_eq, fun E Q h => dec_tuple ty X I (q.dn _ (by decide)) h⟩
  · obtain ⟨l, rfl⟩ := sr (.inr (.inr rfl))
    exact ⟨_, PySem.F.slot_dict_eq, fun E Q h => dec_dict ty X I (q.dn _ (by decide)) h⟩
theorem rc_any {n : String} {u : Value} {id : String} {f : Addr} {Q : Value → Shared → Prop} (hu : A.units < cLine) (ty : s.TypeIs u n) (X : K.In s.heap) (I : PySem.W.InstAt s.heap x ox C od) (hd : PySem.W.subIn K (.ref C) (.type n) = some false) (sl : Slot n (cmpInfo .Eq).2.1 id)
    (dec : ∀ (E : Value → Shared → Prop) (Q : Value → Shared → Prop), Q .notImplemented s → wpAny (model prog w) A (call (.builtin id) [u, .ref x]) Q E s) (hs : PySem.W.findIn K (.ref C) "__eq__" = some (some (.ref f))) (hf : PySem.W.isFn K (.ref f) = true)
    (h : wpAny (model prog w) A (call (.ref f) [.ref x, u]) (fun v s' => ∃ b : Bool, v = .bool b ∧ Q v s') E s) : wpAny (model prog w) A (richCompare .Eq u (.ref x)) Q E s := by
  rcases hi : cmpInfo CmpOp.Eq with ⟨sym, f0, r⟩
  have hr : r = ("__eq__" : Str) := by
    have := congrArg (fun z => z.2.2) hi
    exact this.symm
  rw [hi] at sl
  simp only [richCompare, hi, ty.oneThing_none]
  try with_reducible refine wpAny_holding ?_
  refine wpAny_bind (wpAny_cRoomFor_or (.inr hu) ?_)
  refine wpAny_bind (wpAny_typeOf ty (wpAny_bind (I.type.here ?_)))
  rw [if_pos (by rfl)]
  refine wpAny_bind ((PySem.W.looks_subIn X hd).here ?_)
  simp only [Bool.false_eq_true, if_false, Bool.not_false, if_true]
  refine wpAny_bind (m := tryCompare u _ (.ref x)) (wpAny_tryCompare_declines ty sl (dec _ _ ⟨rfl, ?_⟩))
  subst hr
  refine wpAny_bind (m := tryCompare (.ref x) _ u) ?_
  unfold tryCompare
  refine wpAny_bind (PySem.W.ifBound_K X I hs hf (wpAny_mono h (fun v s' hv => ?_) fun _ _ e => e))
  obtain ⟨b, rfl, hq⟩ := hv
  exact wpAny_pure (wpAny_pure hq)
theorem eqb_any {u : Value} {Q : Bool → Shared → Prop} (hne : (u == .ref x) = false) (hfl : ∀ b t, u ≠ .float b t) (h : wpAny (model prog w) A (richCompare .Eq u (.ref x)) (fun v s' => ∃ b : Bool, v = .bool b ∧ Q b s') E s) : wpAny (model prog w) A (eqBool u (.ref x)) Q E s := by
  unfold eqBool
  refine wpAny_holding ?_
  rw [if_neg (by rw [hne]; exact Bool.false_ne_true)]
  have fin : wpAny (model prog w) A (do let v ← richCompare .Eq u (.ref x); truthOfDropped v) Q E s := wpAny_bind (wpAny_mono h (fun v s' hv => by
    obtain ⟨r, rfl, q⟩ := hv
    exact wpAny_truthy_bool q) fun _ _ e => e)
  cases u <;> first | exact fin | (exact absurd rfl (hfl _ _))
end
end SL
namespace SL
open PySem PySem.Spec PyProof.Rows L2 Evl NF WL
variable [PW]
section
variable {X : Cx} {pins : List (Addr × Obj)} {σ : L2.St} {H : Hp} {s : Shared} {C : Addr} {A : Around} {E : Value → Shared → Prop} {k : Nat} {sp : Sp} {f : Addr} {fd : FuncData}
/-- an own == is called -/
theorem own_call (F : FnOk X.prog X.w X.K X.mg X.base CX0 k f fd ["self", "other"] sp) (hb : Binds X.K fd ["self", "other"] []) (sb : L2.Sub X k A) (I : Inv X pins σ H s) {x y : V} {u v : Value} (rx : RelV x u) (ry : RelV y v) {Kk : Bool → Hp → Prop}
    (hs : sp [x, y] H (fun v H' => ∃ r : Bool, v = .bl r ∧ Kk r H') E0) : wpAny (model X.prog X.w) A (call (.ref f) [u, v]) (fun v s' => ∃ b : Bool, v = .bool b ∧ ∃ H', Inv X pins σ H' s' ∧ Kk b H') E s := by
  have bd := hb s [u, v] I.kIn rfl
  have e0 : Env0 X.prog X.w X.K X.mg X.base A X.stack s H := by
    have e := I.env0
    exact ⟨by rw [sb.fr]; exact e.frames, e.mod, e.bs, e.bsz, e.funs, e.frf, e.hok, e.bare⟩
  refine wpAny_call (codeAny_mono (F.run A X.stack s H ⟨[u, v], []⟩ [u, v] [x, y] _ E0 sb.room e0 bd (.cons rx (.cons ry .nil)) hs) ?_)
  intro rr s2 z
  match rr, z with
  | .error y, z => exact z.elim
  | .ok (.ret u), z =>
    obtain ⟨v, H', I', rv, r, rfl, q⟩ := I.after z
    cases rv
    exact ⟨r, rfl, H', I', q⟩
/-- an instance == anything -/
def rEqA (K : PySem.W.Frag) (C : Addr) (sp : Sp) : R2 := fun x y H Q => ∃ (a dx : Addr) (fs : List (Str × V)) (n : String), x = .ref a ∧ H a = some (.ins C dx fs) ∧ TyN K H y n ∧ sp [.ref a, y] H (fun v H' => ∃ r : Bool, v = .bl r ∧ Q (.bl r) H') E0
theorem op_eqA {j : Nat} (L : EqO X.prog X.w X.K X.mg X.base C k sp) (q : EqC X.K C) (hr : Room j X.A) (hk : k ≤ j) : OpR X (compareOp .Eq) (rEqA X.K C sp) := by
  obtain ⟨f, fd, hl, hf, F, hb⟩ := L.ex
  intro pins s σ H x y u v Q I rx ry h
  obtain ⟨a, dx, fs, n, rfl, ea, ty, hs⟩ := h
  cases (show u = Value.ref a from rx)
  obtain ⟨mA, O, _⟩ := ins_get I.hok ea
  obtain ⟨od, J, _⟩ := O.look
  obtain ⟨m, fr⟩ := I.fr
  have tI := ty.is I ry
  have lk : PySem.W.Looks (model X.prog X.w) s.heap (typeOf v) (.type n) := fun A Q E s' k q => by
    cases ty with
    | non => cases ry; exact wpAny_pure q
    | bl b => cases ry; exact wpAny_pure q
    | int i => obtain ⟨t, rfl⟩ := ry; exact wpAny_pure q
    | str z => obtain ⟨t, rfl⟩ := ry; exact wpAny_pure q
    | lst h =>
      cases ry
      obtain ⟨o, e, hc⟩ := tI
      rw [← hc] at q
      exact wpAny_typeOf_ref (k _ _ e) q
    | tup h =>
      cases ry
      obtain ⟨o, e, hc⟩ := tI
      rw [← hc] at q
      exact wpAny_typeOf_ref (k _ _ e) q
    | dic h =>
      cases ry
      obtain ⟨o, e, hc⟩ := tI
      rw [← hc] at q
      exact wpAny_typeOf_ref (k _ _ e) q
  have un := hr.units
  show wpAny (model X.prog X.w) X.A (richCompare .Eq (.ref a) v) _ _ s
  refine PySem.W.cmp_K (by omega) fr I.ok.mod.kin J lk (by unfold PySem.W.notFirst; rw [q.up n ty.mem]; simp) hl hf (wpAny_mono (own_call (A := X.A) (E := X.xe) F hb ⟨hr.mono hk, rfl⟩ I (x := .ref a) (y := y) rfl ry (Kk := fun r H' => Q (.bl r) H') hs) (fun r s' z => ?_) fun _ _ e => e)
  obtain ⟨b, rfl, H', I', z⟩ := z
  exact ⟨.bl b, H', I', rfl, z⟩
def Stay (K : PySem.W.Frag) (C a p : Addr) (all : List V) (H : Hp) : Prop := SqL K H p all ∧ ∃ dx fs, H a = some (.ins C dx fs)
def InO (K : PySem.W.Frag) (C : Addr) (sp : Sp) (a p : Addr) (all : List V) : List V → Hp → (Bool → Hp → Prop) → Prop
  | [], H, Q => Q false H
  | v :: vs, H, Q =>
    (∃ n, TyN K H v n ∧ sp [.ref a, v] H (fun r H' => ∃ b : Bool, r = .bl b ∧ (b = true → Q true H') ∧ (b = false → Stay K C a p all H' ∧ InO K C sp a p all vs H' Q)) E0) ∨
    ∃ b dy gs, v = .ref b ∧ H b = some (.ins C dy gs) ∧ (b = a → Q true H) ∧ (b ≠ a → sp [v, .ref a] H (fun r H' => ∃ b : Bool, r = .bl b ∧ (b = true → Q true H') ∧ (b = false → Stay K C a p all H' ∧ InO K C sp a p all vs H' Q)) E0)
def rInO (K : PySem.W.Frag) (C : Addr) (sp : Sp) (neg : Bool) : R2 := fun x y H Q => ∃ (a p : Addr) (all : List V), x = .ref a ∧ y = .ref p ∧ Stay K C a p all H ∧ InO K C sp a p all all H fun b H' => Q (.bl (if neg then !b else b)) H'
theorem TyN.notInst {y : V} {n : String} {a : Addr} {u : Value} (ty : TyN X.K H y n) (I : Inv X pins σ H s) (ry : RelV y u) {dx : Addr} (hx : s.heap.get? a = some (PySem.W.instObj C dx)) : (u == Value.ref a) = false ∧ ∀ b t, u ≠ .float b t := by
  have tI := ty.is I ry
  have ref : ∀ {p : Addr}, s.TypeIs (.ref p) n → (Value.ref p == Value.ref a) = false := fun {p} h => by
    obtain ⟨o, e, hc⟩ := h
    by_cases z : p = a
    · subst z
      rw [hx] at e
      cases e
      cases hc
    · exact beq_eq_false_iff_ne.mpr fun q => z (Value.ref.inj q)
  cases ty with
  | non => cases ry; exact ⟨rfl, fun _ _ h => nomatch h⟩
  | bl b => cases ry; exact ⟨rfl, fun _ _ h => nomatch h⟩
  | int i => obtain ⟨t, rfl⟩ := ry; exact ⟨rfl, fun _ _ h => nomatch h⟩
  | str z => obtain ⟨t, rfl⟩ := ry; exact ⟨rfl, fun _ _ h => nomatch h⟩
  | lst h => cases ry; exact ⟨ref tI, fun _ _ h => nomatch h⟩
  | tup h => cases ry; exact ⟨ref tI, fun _ _ h => nomatch h⟩
  | dic h => cases ry; exact ⟨ref tI, fun _ _ h => nomatch h⟩
theorem in_loop (q : EqC X.K C) (hl : PySem.W.findIn X.K (.ref C) "__eq__" = some (some (.ref f))) (hf : PySem.W.isFn X.K (.ref f) = true) (F : FnOk X.prog X.w X.K X.mg X.base CX0 k f fd ["self", "other"] sp) (hb : Binds X.K fd ["self", "other"] []) (sb : L2.Sub X k A.in1) {a p : Addr} {all : List V} {R : Result → Shared → Prop} {Q : Bool → Hp → Prop} (hR : ∀ b H' s', Inv X pins σ H' s' → Q b H' → R (.ok (.ret (.bool b))) s') :
    ∀ (m i : Nat), all.length - i = m → ∀ (H : Hp) (s : Shared), Inv X pins σ H s → Stay X.K C a p all H → InO X.K C sp a p all (all.drop i) H Q →
      wpAny (model X.prog X.w) A.in1 (Builtin.«list.__contains__.loop» ⟨[.ref p, .ref a, rawInt i], []⟩) (GQ.FinOf X.prog X.w A R) (fun e s' => R (.error e) s') s := by
  intro m
  induction m with
  | zero =>
    intro i hm H s I st h
    obtain ⟨its, rv, ⟨o, n, e, hc, hd, hdt⟩, _⟩ := I.list st.1
    have hl2 : its.length = all.length := rv.length.symm
    rw [List.drop_of_length_le (by omega)] at h
    have fin := hR false H s I h
    obtain ⟨hp, g, d, tk, os⟩ := s
    obtain ⟨cls, dct, dat, sl⟩ := o
    simp only at hc hd hdt
    subst hc hd hdt
    wp_walk using AutoSeq1.wpAny_loadPart' e
    have hi : its.toArray[((i : Nat) : Int).toNat]? = none := by simp; omega
    rw [hi]
    wp_walk
    exact fin
  | succ m ih =>
    intro i hm H s I st h
    obtain ⟨its, rv, ⟨o, n, e, hc, hd, hdt⟩, _⟩ := I.list st.1
    have hl2 : its.length = all.length := rv.length.symm
    have hlt : i < all.length := by omega
    rw [List.drop_eq_getElem_cons hlt] at h
    obtain ⟨u, hu, ru⟩ := rv.get (List.getElem?_eq_getElem hlt)
    generalize all[i] = y at h ru
    obtain ⟨dx, fs, ea⟩ := st.2
    obtain ⟨mA, O, _⟩ := ins_get I.hok ea
    obtain ⟨od, J, _⟩ := O.look
    have kin := I.kIn
    have un := sb.room.units
    have go : wpAny (model X.prog X.w) A.in1 (eqBool u (.ref a)) (fun r s' => ∃ H', Inv X pins σ H' s' ∧ (r = true → Q true H') ∧ (r = false → Stay X.K C a p all H' ∧ InO X.K C sp a p all (all.drop (i + 1)) H' Q)) (fun e s' => R (.error e) s') s := by
      rcases h with ⟨n', ty, hs⟩ | ⟨b, dy, gs, ev, eb, h1, h2⟩
      · obtain ⟨ne, nf⟩ := ty.notInst I ru O.obj
        have tI := ty.is I ru
        obtain ⟨id, sl, dec⟩ := declines (A := A.in1) (prog := X.prog) (w := X.w) ty.mem tI (fun z => by
          cases ty with
          | int i => exact let ⟨t, h⟩ := ru; ⟨_, t, h⟩
          | _ => exact absurd z (by decide)) (fun z => by
          cases ty with
          | bl i => exact ⟨_, ru⟩
          | _ => exact absurd z (by decide)) (fun z => by
          cases ty with
          | str i => exact let ⟨t, h⟩ := ru; ⟨_, t, h⟩
          | _ => exact absurd z (by decide)) (fun z => by
          cases ty with
          | non => exact ru
          | _ => exact absurd z (by decide)) (fun z => by
          cases ty with
          | lst _ => exact ⟨_, ru⟩
          | tup _ => exact ⟨_, ru⟩
          | dic _ => exact ⟨_, ru⟩
          | _ => exact absurd z (by decide)) kin J O.obj q
        refine eqb_any ne nf (rc_any (by omega) tI kin J (q.dn _ ty.mem) sl dec hl hf (wpAny_mono (own_call (A := A.in1) (E := fun e s' => R (.error e) s') F hb sb I (x := .ref a) rfl ru hs) (fun r s' z => ?_) fun _ _ e => e))
        obtain ⟨b, rfl, H', I', z1, z2⟩ := z
        exact ⟨b, rfl, b, rfl, H', I', z1, z2⟩
      · rw [ev] at ru
        cases ru
        by_cases z : b = a
        · subst z
          exact SeqAt.EqAt.same (A := A.in1) (s := s) (.ref b) X.prog X.w _ _ ⟨H, I, fun _ => h1 rfl, fun q => by cases q⟩
        · obtain ⟨mB, O2, _⟩ := ins_get I.hok eb
          obtain ⟨od2, J2, _⟩ := O2.look
          obtain ⟨m2, fr⟩ := I.fr
          refine GQ.eqBool_refG z (PySem.W.cmp_K (op := .Eq) (tb := .ref C) (by omega) fr I.ok.mod.kin J2 J.type (by simp [PySem.W.notFirst]) hl hf (wpAny_mono (own_call (A := A.in1) (E := fun e s' => R (.error e) s') F hb sb I (x := .ref b) (y := .ref a) rfl rfl (by rw [← ev]; exact h2 z)) (fun r s' z => ?_) fun _ _ e => e))
          obtain ⟨b, rfl, H', I', z1, z2⟩ := z
          exact ⟨b, rfl, H', I', z1, z2⟩
    obtain ⟨hp, g, d, tk, os⟩ := s
    obtain ⟨cls, dct, dat, sl⟩ := o
    simp only at hc hd hdt
    subst hc hd hdt
    wp_walk using AutoSeq1.wpAny_loadPart' e
    have hi : its.toArray[((i : Nat) : Int).toNat]? = some u := by simpa using hu
    rw [hi]
    refine wpAny_bind (wpAny_mono go (fun r s' z => ?_) fun _ _ e => e)
    obtain ⟨H', I', z1, z2⟩ := z
    cases r with
    | true =>
      have fin := hR true H' s' I' (z1 rfl)
      obtain ⟨hp', g', d', tk', os'⟩ := s'
      wp_walk
      exact fin
    | false =>
      obtain ⟨st', rest⟩ := z2 rfl
      have nx := ih (i + 1) (by omega) H' s' I' st' rest
      have hc : ((i : Int) + 1) = ((i + 1 : Nat) : Int) := by omega
      obtain ⟨hp', g', d', tk', os'⟩ := s'
      wp_walk
      rw [hc]
      exact ⟨plainId_quiet MeetsSeq.plain_contains_loop _, codeAny_builtin MeetsSeq.entry_contains_loop (by
        rw [Around.under_plainId MeetsSeq.plain_contains_loop _]
        exact nx)⟩
theorem in_any (q : EqC X.K C) (L : EqO X.prog X.w X.K X.mg X.base C k sp) (sb : L2.Sub X (k + 1) X.A) {a p : Addr} {all : List V} {Q : Bool → Hp → Prop} {H : Hp} {s : Shared} {R : Result → Shared → Prop} (I : Inv X pins σ H s) (st : Stay X.K C a p all H) (h : InO X.K C sp a p all all H Q)
    (hR : ∀ b H' s', Inv X pins σ H' s' → Q b H' → R (.ok (.ret (.bool b))) s') : wpAny (model X.prog X.w) X.A.in1 (Builtin.«list.__contains__» ⟨[.ref p, .ref a], []⟩) (GQ.FinOf X.prog X.w X.A R) (fun e s' => R (.error e) s') s := by
  obtain ⟨f, fd, hl, hf, F, hb⟩ := L.ex
  obtain ⟨its, rv, ⟨o, n, e, hc, hd, hdt⟩, _⟩ := I.list st.1
  have nx := in_loop (A := X.A) (R := R) q hl hf F hb sb.in1 hR _ 0 rfl H s I st (by simpa using h)
  obtain ⟨hp, g, d, tk, os⟩ := s
  wp_walk
  exact ⟨plainId_quiet MeetsSeq.plain_contains_loop _, codeAny_builtin MeetsSeq.entry_contains_loop (by
    rw [Around.under_plainId MeetsSeq.plain_contains_loop _]
    exact nx)⟩
theorem op_inO {j : Nat} (L : EqO X.prog X.w X.K X.mg X.base C k sp) (q : EqC X.K C) (hr : Room j X.A) (hk : k + 1 ≤ j) : OpR X (compareOp .In) (rInO X.K C sp false) := by
  intro pins s σ H x y u v Q I rx ry h
  obtain ⟨a, p, all, rfl, rfl, st, h⟩ := h
  cases rx
  cases ry
  obtain ⟨its, rv, ⟨o, n, e, hc, _⟩, _⟩ := I.list st.1
  show wpAny _ X.A (do return Value.bool (← contains (.ref p) (.ref a))) _ X.xe s
  have tI : s.TypeIs (.ref p) "list" := ⟨o, e, hc⟩
  refine wpAny_bind (wpAny_contains_slot tI PySem.F.slot_list_contains (wpAny_mono (GQ.call_here (Q := fun v s' => ∃ b H', v = Value.bool b ∧ Inv X pins σ H' s' ∧ Q (.bl (b)) H') PySem.F.slot_list_contains tI PySem.F.entry_list_contains (PySem.F.args_list_contains_2 _ _) (in_any (R := wants (fun v s' => ∃ b H', v = Value.bool b ∧ Inv X pins σ H' s' ∧ Q (.bl (b)) H') X.xe) q L ⟨hr.mono hk, rfl⟩ I st h fun b H' s' I' z => ⟨b, H', rfl, I', z⟩)) (fun v s' hv => ?_) fun _ _ e => e))
  obtain ⟨b, H', rfl, I', z⟩ := hv
  exact wpAny_truthy_bool (wpAny_pure ⟨.bl (b), H', I', rfl, z⟩)
theorem op_notInO {j : Nat} (L : EqO X.prog X.w X.K X.mg X.base C k sp) (q : EqC X.K C) (hr : Room j X.A) (hk : k + 1 ≤ j) : OpR X (compareOp .NotIn) (rInO X.K C sp true) := by
  intro pins s σ H x y u v Q I rx ry h
  obtain ⟨a, p, all, rfl, rfl, st, h⟩ := h
  cases rx
  cases ry
  obtain ⟨its, rv, ⟨o, n, e, hc, _⟩, _⟩ := I.list st.1
  show wpAny _ X.A (do return Value.bool (!(← contains (.ref p) (.ref a)))) _ X.xe s
  have tI : s.TypeIs (.ref p) "list" := ⟨o, e, hc⟩
  refine wpAny_bind (wpAny_contains_slot tI PySem.F.slot_list_contains (wpAny_mono (GQ.call_here (Q := fun v s' => ∃ b H', v = Value.bool b ∧ Inv X pins σ H' s' ∧ Q (.bl (!b)) H') PySem.F.slot_list_contains tI PySem.F.entry_list_contains (PySem.F.args_list_contains_2 _ _) (in_any (R := wants (fun v s' => ∃ b H', v = Value.bool b ∧ Inv X pins σ H' s' ∧ Q (.bl (!b)) H') X.xe) q L ⟨hr.mono hk, rfl⟩ I st h fun b H' s' I' z => ⟨b, H', rfl, I', z⟩)) (fun v s' hv => ?_) fun _ _ e => e))
  obtain ⟨b, H', rfl, I', z⟩ := hv
  exact wpAny_truthy_bool (wpAny_pure ⟨.bl (!b), H', I', rfl, z⟩)
end
end SL
namespace SL
open PySem PySem.Spec PyProof.Rows L2 Evl NF WL
variable [PW]
def kindP : PV → Bool
  | .non => true
  | .bl _ => true
  | .int _ => true
  | .str _ => true
  | .lst _ => true
  | .tup _ => true
  | .dic _ _ => true
  | _ => false
theorem TyN.up {K : PySem.W.Frag} {R H : Hp} {v : V} {n : String} (e : Ex R H) (h : TyN K R v n) : TyN K H v n := by
  cases h with
  | non => exact .non
  | bl b => exact .bl b
  | int i => exact .int i
  | str z => exact .str z
  | lst h => exact .lst (ex_l e h)
  | tup h => exact .tup (ex_t e h)
  | dic h => exact .dic (e _ _ h)
theorem kindP_p {K : PySem.W.Frag} {R : Hp} {a : PV} {v : V} (h : kindP a = true) (p : (mp K a).p R v) : ∃ n, TyN K R v n := by
  cases a <;> try (cases h)
  case non => cases p; exact ⟨_, .non⟩
  case bl b => cases p; exact ⟨_, .bl b⟩
  case int i => cases p; exact ⟨_, .int i⟩
  case str z => cases p; exact ⟨_, .str z⟩
  case lst as => obtain ⟨q, vs, rfl, h, _⟩ := p; exact ⟨_, .lst (SqL.of h)⟩
  case tup as => obtain ⟨q, vs, rfl, h, _⟩ := p; exact ⟨_, .tup h⟩
  case dic ks as => obtain ⟨q, vs, rfl, h, _⟩ := p; exact ⟨_, .dic h⟩
def insOf (c : Addr) : PV → Bool
  | .ins d _ _ => decide (d = c)
  | _ => false
theorem insOf_p {K : PySem.W.Frag} {R : Hp} {c : Addr} {a : PV} {v : V} (h : insOf c a = true) (p : (mp K a).p R v) : ∃ q dx fs, v = .ref q ∧ R q = some (.ins c dx fs) := by
  cases a <;> try (cases h)
  case ins d ns as =>
    have e : d = c := of_decide_eq_true h
    subst e
    obtain ⟨q, dx, vs, rfl, h, _⟩ := p
    exact ⟨q, dx, _, rfl, h⟩
def rEqU2 (K : PySem.W.Frag) (C : Addr) (sp : Sp) : R2 := fun x y H Q => rEqO C sp x y H Q ∨ rEqA K C sp x y H Q
theorem op_eqU2 {X : Cx} {C : Addr} {k j : Nat} {sp : Sp} {K : PySem.W.Frag} (hK : X.K = K) (L : EqO X.prog X.w X.K X.mg X.base C k sp) (q : EqC X.K C) (hr : Room j X.A) (hk : k ≤ j) : OpR X (compareOp .Eq) (rEqU2 K C sp) := hK ▸ op_or (op_eqO L hr hk) (op_eqA L q hr hk)
theorem op_inOK {X : Cx} {C : Addr} {k j : Nat} {sp : Sp} {K : PySem.W.Frag} (hK : X.K = K) (L : EqO X.prog X.w X.K X.mg X.base C k sp) (q : EqC X.K C) (hr : Room j X.A) (hk : k + 1 ≤ j) : OpR X (compareOp .In) (rInO K C sp false) := hK ▸ op_inO L q hr hk
theorem op_notInOK {X : Cx} {C : Addr} {k j : Nat} {sp : Sp} {K : PySem.W.Frag} (hK : X.K = K) (L : EqO X.prog X.w X.K X.mg X.base C k sp) (q : EqC X.K C) (hr : Room j X.A) (hk : k + 1 ≤ j) : OpR X (compareOp .NotIn) (rInO K C sp true) := hK ▸ op_notInO L q hr hk
def guard (b : Bool) : Option Unit := if b = true then some () else none
/-- o == anything -/
def eqAW (c : Addr) (F : List PV → W RV) (ma mb : W PV) : W PV := bind ma fun a => bind mb fun b => bind (look fun S => isObj c "" S a) fun _ => bind (look fun S => if kindP b = true then some () else isObj c "" S b) fun _ => bind (noX (F [a, b])) fun r => lift (eqOf r)
section
variable {K : PySem.W.Frag} {Z : WX} {W0 W1 W2 W3 : Wd} {σ : L2.St} {ρ : List Sl} {ta tb : TE} {ma mb : W PV} {F : List PV → W RV} {c : Addr}
theorem p_eqA (ha : EP K Z ρ ta ma) (hb : EP K Z ρ tb mb) : EP K Z ρ (tOp (rEqU2 K c (spW K F)) ta tb) (eqAW c F ma mb) := fun W0 W σ e Q Ψ Ξ hm k kx =>
  ha W0 W σ e _ _ _ hm (fun a v W1 g1 p z => hb W0 W1 σ (e.go g1) _ _ _ z (fun b v2 W2 g2 p2 z => by
    obtain ⟨_, ho, _, ho2, z⟩ := z
    have p1 := MP.mono _ g2.le.r p
    obtain ⟨q, dx, fs, rfl, h1, h2⟩ := isObj_p g2.ok ho p1
    have fin : spW K F [.ref q, v2] W2.h (fun v H' => ∃ r : Bool, v = .bl r ∧ Q (.bl r) H') E0 := by
      refine ⟨W2, [a, b], _, _, rfl, g2.ok, .cons p1 (Al.one p2), z, fun r v W3 g3 rr zz => ?_, fun _ _ _ _ _ _ z => z.elim⟩
      obtain ⟨b, eb, zz⟩ := zz
      unfold eqOf at eb
      split at eb
      · rename_i n
        cases eb
        cases rr
        exact ⟨n, rfl, k (.bl n) _ W3 ((g1.trans g2).trans g3) rfl zz⟩
      · cases eb
    split at ho2
    · rename_i hk
      obtain ⟨n, ty⟩ := kindP_p hk p2
      exact .inr ⟨q, dx, fs, n, rfl, h1, ty.up g2.ok.sub, fin⟩
    · obtain ⟨q2, dx2, fs2, rfl, k1, k2⟩ := isObj_p g2.ok ho2 p2
      exact .inl ⟨q, q2, dx, dx2, fs, fs2, rfl, rfl, h1, k1, fin⟩) (kx.go g1)) kx
/-- o in a list of anything -/
def inGo (c : Addr) (F : List PV → W RV) (a : PV) : List PV → W Bool
  | [] => ret false
  | b :: bs => fun S Ψ Ξ => (kindP b = true ∧ (bind (noX (F [a, b])) fun r => bind (lift (eqOf r)) fun u => bind (lift (isB u)) fun t => if t = true then ret true else inGo c F a bs) S Ψ Ξ) ∨
    (insOf c b = true ∧ Ψ true S ∧ (bind (noX (F [b, a])) fun r => bind (lift (eqOf r)) fun u => bind (lift (isB u)) fun t => if t = true then ret true else inGo c F a bs) S Ψ Ξ)
def inOW (neg : Bool) (c : Addr) (F : List PV → W RV) (ma mb : W PV) : W PV := bind ma fun a => bind mb fun b => bind (lift (asL b)) fun bs => bind (lift (guard (insOf c a))) fun _ => bind (inGo c F a bs) fun r => ret (.bl (if neg then !r else r))
theorem in_go {Q : Bool → Hp → Prop} {Ξ : XV → Sto → Prop} {Ψ : Bool → Sto → Prop} {a : PV} {q p : Addr} {all : List V} {Wb : Wd} (ka : insOf c a = true) (k : ∀ b W2, Go K Wb W2 → Ψ b W2.s → Q b W2.h) : ∀ {bs : List PV} {vs : List V} {W : Wd}, Go K Wb W → (mp K a).p W.r (.ref q) → W.r p = some (.lst all) → Al W.r vs (mps K bs) → inGo c F a bs W.s Ψ Ξ → InO K c (spW K F) q p all vs W.h Q
  | [], _, W, g, pa, pl, .nil, h => k false W g h
  | b :: bs, v :: vs, W, g, pa, pl, .cons pb al, h => by
    have cont : ∀ {x y : PV} {u w : V}, (mp K x).p W.r u → (mp K y).p W.r w → (bind (noX (F [x, y])) fun r => bind (lift (eqOf r)) fun u => bind (lift (isB u)) fun t => if t = true then ret true else inGo c F a bs) W.s Ψ Ξ → spW K F [u, w] W.h (fun r H' => ∃ b : Bool, r = .bl b ∧ (b = true → Q true H') ∧ (b = false → Stay K c q p all H' ∧ InO K c (spW K F) q p all vs H' Q)) E0 := fun {x y u w} px py z => by
      refine ⟨W, [x, y], _, _, rfl, g.ok, .cons px (Al.one py), z, fun r v W3 g3 rr zz => ?_, fun _ _ _ _ _ _ z => z.elim⟩
      obtain ⟨u', eu, t, et, zz⟩ := zz
      unfold eqOf at eu
      split at eu
      · rename_i n
        cases eu
        cases et
        cases rr
        refine ⟨t, rfl, fun e => ?_, fun e => ?_⟩
        · subst e
          exact k true W3 (g.trans g3) zz
        · subst e
          have pa3 := MP.mono _ g3.le.r pa
          obtain ⟨q', dx, fs, e', hq⟩ := insOf_p ka pa3
          cases e'
          exact ⟨⟨SqL.of (g3.ok.sub _ _ (g3.le.r _ _ pl)), dx, fs, g3.ok.sub _ _ hq⟩, in_go ka k (g.trans g3) pa3 (g3.le.r _ _ pl) (al.mono g3.le.r) zz⟩
      · cases eu
    rcases h with ⟨kb, z⟩ | ⟨kb, y, z⟩
    · obtain ⟨n, ty⟩ := kindP_p kb pb
      exact .inl ⟨n, ty.up g.ok.sub, cont pa pb z⟩
    · obtain ⟨b', dy, gs, rfl, hb⟩ := insOf_p kb pb
      exact .inr ⟨b', dy, gs, rfl, g.ok.sub _ _ hb, fun _ => k true W g y, fun _ => cont pb pa z⟩
theorem p_inO {neg : Bool} (ha : EP K Z ρ ta ma) (hb : EP K Z ρ tb mb) : EP K Z ρ (tOp (rInO K c (spW K F) neg) ta tb) (inOW neg c F ma mb) := fun W0 W σ e Q Ψ Ξ hm k kx =>
  ha W0 W σ e _ _ _ hm (fun a v W1 g1 p z => hb W0 W1 σ (e.go g1) _ _ _ z (fun b v2 W2 g2 p2 z => by
    obtain ⟨bs, eb, _, ea, z⟩ := z
    have ka : insOf c a = true := by
      unfold guard at ea
      split at ea
      · assumption
      · cases ea
    match b, eb with
    | .lst cs, eb =>
      cases eb
      have p1 := MP.mono _ g2.le.r p
      obtain ⟨q, dx, fs, rfl, hq⟩ := insOf_p ka p1
      obtain ⟨l, vs, rfl, hl, al⟩ := p2
      exact ⟨q, l, vs, rfl, rfl, ⟨SqL.of (g2.ok.sub _ _ hl), dx, fs, g2.ok.sub _ _ hq⟩, in_go (Wb := W2) ka (fun b W3 g3 z => k (.bl (if neg then !b else b)) (.bl (if neg then !b else b)) W3 ((g1.trans g2).trans g3) rfl z) ⟨g2.ok, Le.refl g2.ok⟩ p1 hl al z⟩) (kx.go g1)) kx
end
end SL
namespace SL
open PySem PySem.Spec PyProof.Rows L2 Evl NF WL
variable [PW]
section
variable {prog : Program} {w : World} {A : Around} {E : Value → Shared → Prop} {s : Shared} {R : Result → Shared → Prop} {I : Addr} {fp wr : List Addr} {n : Nat} {Pw : Nat → Value → Prop} {St : Nat → Heap → Prop} {bt : Nat → Nat → Bool} {d : Value}
def BestOf (Pw : Nat → Value → Prop) (bt : Nat → Nat → Bool) (j : Nat) (old : List Value) : Prop := match j with
  | 0 => old = []
  | j + 1 => ∃ v, old = [v, v] ∧ Pw (argBest bt j) v
theorem mx_loop (Wk : Walks prog w A.in1 I fp wr n Pw St) (hcmp : CmpOf prog w A.in1 .Gt Pw bt) (S : Addr) (hSf : S ∉ fp) : ∀ (k j : Nat) (s : Shared) (old : List Value) (c : Nat), n - j = k → j ≤ n → St j s.heap → BestOf Pw bt j old →
    s.heap.get? S = some { cls := .type "list", dict := none, data := .seq old.toArray c, slots := #[] } →
    (∀ v h' tk, (n = 0 → v = d) → (0 < n → Pw (argBest bt (n - 1)) v) → (∀ b o, b ∉ wr → b ≠ S → s.heap.get? b = some o → h'.get? b = some o) → R (.ok (.ret v)) { s with heap := h', toks := tk }) →
    codeAny (model prog w) A (.builtin "max.loop" ⟨[.ref I, .none, .ref S], [(Str.ofString "default", d)]⟩) R s := by
  have hSw : S ∉ wr := fun h => hSf (Wk.sub _ h)
  have hname : (toString "max" ++ toString ".loop" : String) = "max.loop" := by decide
  intro k
  induction k with
  | zero =>
    intro j s old c hk hj hst hb hS hR
    have hin : j = n := by omega
    subst hin
    refine codeAny_builtin F.entry_max_loop ?_
    rw [Around.under_plainId F.plain_max_loop _]
    show wpAny _ A.in1 (seqItems? (.ref S) >>= _) _ _ s
    refine wpAny_bind (wpAny_seqItems hS rfl ?_)
    show wpAny _ A.in1 (tryCatch (pyNext (.ref I)) _ >>= _) _ _ s
    refine wpAny_bind (wpAny_tryCatch (Wk.done s _ _ hst fun h' tk hk' => ?_))
    have hS' := hk' S _ hSw hS
    cases j with
    | zero =>
      cases (show old = [] from hb)
      show wpAny _ A.in1 (rule _ >>= _) _ _ _
      exact wpAny_bind (wpAny_rule (wpAny_pure (hR d _ tk (fun _ => rfl) (fun z => absurd z (Nat.lt_irrefl _)) fun b o hbw _ e => hk' b o hbw e)))
    | succ j =>
      obtain ⟨v, rfl, pv⟩ := (show ∃ v, old = [v, v] ∧ Pw (argBest bt j) v from hb)
      show wpAny _ A.in1 (updateSeq S (fun _ => #[]) >>= _) _ _ _
      refine wpAny_bind (wpAny_updateSeq hS' rfl (wpAny_bind (wpAny_letGo (wpAny_pure ?_))))
      exact hR v _ tk (fun z => by omega) (fun _ => pv) fun b o hbw hbS e => (Heap.get?_update_other _ _ (Ne.symm hbS)).trans (hk' b o hbw e)
  | succ k ih =>
    intro j s old c hk hj hst hb hS hR
    have hlt : j < n := by omega
    refine codeAny_builtin F.entry_max_loop ?_
    rw [Around.under_plainId F.plain_max_loop _]
    show wpAny _ A.in1 (seqItems? (.ref S) >>= _) _ _ s
    refine wpAny_bind (wpAny_seqItems hS rfl ?_)
    show wpAny _ A.in1 (tryCatch (pyNext (.ref I)) _ >>= _) _ _ s
    refine wpAny_bind (wpAny_tryCatch (Wk.item j s _ _ hlt hst fun v h' tk hP hst' hk' => ?_))
    have hS' := hk' S _ hSw hS
    have other : ∀ {f : Obj → Obj} {b : Addr} {o : Obj}, b ≠ S → h'.get? b = some o → (h'.update S f).get? b = some o := fun {f b o} hbS e => (Heap.get?_update_other _ _ (Ne.symm hbS)).trans e
    have infp : ∀ b ∈ fp, b ≠ S := fun b hb z => hSf (z ▸ hb)
    cases j with
    | zero =>
      cases (show old = [] from hb)
      show wpAny _ A.in1 (updateSeq S (fun _ => #[v, v]) >>= _) _ _ _
      refine wpAny_bind (wpAny_updateSeq hS' rfl ?_)
      rw [hname]
      exact wpAny_pure ⟨plainId_quiet F.plain_max_loop _, ih 1 _ [v, v] _ (by omega) hlt (Wk.frame _ _ _ hst' fun b hb o e => other (infp b hb) e) ⟨v, rfl, hP⟩ (Heap.get?_update_self _ hS' rfl)
        fun v' h'' tk'' h0 hP' hk'' => hR v' h'' tk'' h0 hP' fun b o hbw hbS e => hk'' b o hbw hbS (other hbS (hk' b o hbw e))⟩
    | succ j =>
      obtain ⟨vb, rfl, pv⟩ := (show ∃ v, old = [v, v] ∧ Pw (argBest bt j) v from hb)
      show wpAny _ A.in1 (tryCatch (holding [v, v] (richCompare .Gt v vb >>= _)) _ >>= _) _ _ _
      refine wpAny_bind (wpAny_tryCatch (wpAny_holding (wpAny_bind (hcmp (j + 1) (argBest bt j) v vb _ _ _ hP pv ?_))))
      refine wpAny_bind (wpAny_holding (wpAny_truthy_bool ?_))
      refine wpAny_bind (wpAny_letGo (wpAny_pure ?_))
      cases hbt : bt (j + 1) (argBest bt j) with
      | true =>
        simp only [if_true]
        refine wpAny_bind (wpAny_updateSeq hS' rfl (wpAny_bind (wpAny_letGo ?_)))
        rw [hname]
        exact wpAny_pure ⟨plainId_quiet F.plain_max_loop _, ih (j + 2) _ [v, v] _ (by omega) hlt (Wk.frame _ _ _ hst' fun b hb o e => other (infp b hb) e) ⟨v, rfl, by simp only [argBest, hbt, if_true]; exact hP⟩ (Heap.get?_update_self _ hS' rfl)
          fun v' h'' tk'' h0 hP' hk'' => hR v' h'' tk'' h0 hP' fun b o hbw hbS e => hk'' b o hbw hbS (other hbS (hk' b o hbw e))⟩
      | false =>
        simp only [Bool.false_eq_true, if_false]
        refine wpAny_bind (wpAny_letGo ?_)
        rw [hname]
        exact wpAny_pure ⟨plainId_quiet F.plain_max_loop _, ih (j + 2) _ [vb, vb] _ (by omega) hlt hst' ⟨vb, rfl, by simp only [argBest, hbt, Bool.false_eq_true, if_false]; exact pv⟩ hS'
          fun v' h'' tk'' h0 hP' hk'' => hR v' h'' tk'' h0 hP' fun b o hbw hbS e => hk'' b o hbw hbS (hk' b o hbw e)⟩
theorem mx_call {l : Addr} {xs : Array (Int × Tok)} {Q : Value → Shared → Prop} (hh : A.handled = none) (hl : s.heap.IsList l (intItems xs))
    (h : ∀ v h' tk, (xs.size = 0 → v = d) → (0 < xs.size → (intItems xs)[argBest (fun i j => decide (numAt xs i > numAt xs j)) (xs.size - 1)]? = some v) → (∀ b o, s.heap.get? b = some o → h'.get? b = some o) → Q v { s with heap := h', toks := tk }) :
    wpAny (model prog w) A (call (.builtin "max") [.ref l] [(Str.ofString "default", d)]) Q E s := by
  have hname : (toString "max" ++ toString ".loop" : String) = "max.loop" := by decide
  refine PyProof.Rows.kmk_tree PySem.F.kind_max PySem.F.plain_max PySem.F.entry_max (by unfold argsOk; kernel_rfl) ?_
  show wpAny _ A.in1 (Builtin.Builtins.bindParams "max" ["key", "default"] 0 ⟨[], [(Str.ofString "default", d)]⟩ >>= _) _ _ s
  refine wpAny_bind (wpAny_of_eq (show Builtin.Builtins.bindParams "max" ["key", "default"] 0 ⟨[], [(Str.ofString "default", d)]⟩ = pure [none, some d] from rfl) ?_)
  refine wpAny_bind (wpAny_pure ?_)
  refine wpAny_bind (iter_intList hl fun s₂ e st hfp hlI => ?_)
  subst e
  refine wpAny_bind (wpAny_newList ?_ (Nat.zero_le _))
  rw [hname]
  have Wk := Walks.list (prog := prog) (w := w) (A := A.in1) hh _ l hlI (intItems xs)
  have old : ∀ {h' : Heap}, (∀ b o, (s.heap.push { cls := .type "list_iterator", data := .fields #[.ref l, .int 0 0] }).get? b = some o → h'.get? b = some o) → ∀ b o, s.heap.get? b = some o → h'.get? b = some o := fun k b o e => k b o (Heap.get?_push_of_some _ e)
  refine wpAny_pure ⟨plainId_quiet PySem.F.plain_max_loop _, mx_loop Wk (CmpOf.ints_gt (numAt xs) (fun _ _ => intItems_at)) _ (fun hm => Nat.lt_irrefl _ (hfp _ hm)) _ 0 _ [] 0 rfl (Nat.zero_le _) (Wk.frame _ _ _ st fun b hb o e => Heap.get?_push_of_some _ e) rfl (Heap.get?_push_size _ rfl) fun v h' tk h0 hP hk => ?_⟩
  have sz : (intItems xs).size = xs.size := by simp [intItems]
  rw [sz] at h0 hP
  refine h v _ _ h0 hP fun b o e => ?_
  have lt : b < s.heap.objs.size := Heap.lt_size e
  refine hk b o (fun hm => ?_) (fun z => ?_) (Heap.get?_push_of_some _ (Heap.get?_push_of_some _ e))
  · cases List.mem_singleton.mp hm
    exact Nat.lt_irrefl _ lt
  · have q : b = s.heap.objs.size + 1 := by rw [z]; exact Heap.size_push ..
    exact absurd lt (by rw [q]; exact Nat.not_lt.mpr (Nat.le_succ _))
end
theorem mx_raw {prog : Program} {w : World} {A : Around} {E : Value → Shared → Prop} {s : Shared} {l : Addr} {its : List Value} {ns : List Int} {d : Int} {td : Tok} {Q : Value → Shared → Prop} (hh : A.handled = none) (hl : s.heap.IsList l its.toArray) (hi : IntsAre its ns)
    (h : ∀ h' tk M t', (∀ b o, s.heap.get? b = some o → h'.get? b = some o) → (ns = [] → M = d) → (ns ≠ [] → M ∈ ns ∧ ∀ a, a ∈ ns → a ≤ M) → Q (.int M t') { s with heap := h', toks := tk }) : wpAny (model prog w) A (call (.builtin "max") [.ref l] [(Str.ofString "default", .int d td)]) Q E s := by
  obtain ⟨xs, e⟩ := hi.allInts.items
  have hn : numsOf (intItems xs).toList = ns := by rw [← e]; exact hi.numsOf
  rw [nums_intItems] at hn
  subst hn
  rw [e] at hl
  refine mx_call hh hl fun v h' tk h0 h1 hk => ?_
  by_cases z : xs.size = 0
  · cases h0 z
    refine h h' tk d td hk (fun _ => rfl) fun ne => absurd ?_ ne
    have : xs.toList = [] := by
      apply List.eq_nil_of_length_eq_zero
      rw [Array.length_toList]
      exact z
    rw [this]
    rfl
  · have hsz : 0 < xs.size := by omega
    obtain ⟨t, rfl⟩ := intItems_at (h1 hsz)
    obtain ⟨g1, g2⟩ := argBest_gt (numAt xs) (xs.size - 1)
    refine h h' tk _ t hk (fun q => ?_) fun _ => ⟨?_, fun a ha => ?_⟩
    · have z2 : xs.toList.length = 0 := by simpa using congrArg List.length q
      rw [Array.length_toList] at z2
      omega
    · rw [numAt_eq]; exact PySem.getD_mem (by rw [List.length_map, Array.length_toList]; omega)
    · obtain ⟨j, hj, rfl⟩ := mem_getD ha
      rw [List.length_map, Array.length_toList] at hj
      rw [← numAt_eq]; exact g2 j (by omega)
def rMaxD (K : PySem.W.Frag) : List V → List V → Hp → VK → Prop := fun vs zs H Q => ∃ (a : Addr) (ns : List Int) (d : Int), vs = [V.ref a] ∧ zs = [.int d] ∧ SqL K H a (ns.map V.int) ∧ ∀ m, (ns = [] → m = d) → (ns ≠ [] → m ∈ ns ∧ ∀ y, y ∈ ns → y ≤ m) → Q (.int m) H
theorem cr_maxD {X : Cx} {K : PySem.W.Frag} (hK : X.K = K) (hc : X.calm = true) : CallRK X (.builtin "max") ["default"] (rMaxD K) := by
  subst hK
  intro pins s σ H vs zs us ws Q I r r2 h
  obtain ⟨a, ns, d, rfl, rfl, hs, q⟩ := h
  obtain ⟨its, rv, hl, _⟩ := I.list hs
  rw [Vals.ref1 r]
  obtain ⟨u, rfl, ru⟩ := r2.one
  obtain ⟨t, rfl⟩ := ru
  exact mx_raw (I.ok.hd hc) hl.isList rv.ints fun h' tk m t' hk h1 h2 => ⟨.int _, H, I.kept hk, ⟨_, rfl⟩, q m h1 h2⟩
def maxI (d : Int) : List Int → Int
  | [] => d
  | i :: is => is.foldl (fun a b => if b > a then b else a) i
theorem fold_max : ∀ (is : List Int) (i : Int), (is.foldl (fun a b => if b > a then b else a) i = i ∨ is.foldl (fun a b => if b > a then b else a) i ∈ is) ∧ i ≤ is.foldl (fun a b => if b > a then b else a) i ∧ ∀ y ∈ is, y ≤ is.foldl (fun a b => if b > a then b else a) i
  | [], i => ⟨.inl rfl, Int.le_refl _, fun _ h => by cases h⟩
  | j :: is, i => by
    obtain ⟨h1, h2, h3⟩ := fold_max is (if j > i then j else i)
    rw [List.foldl_cons]
    have c : i ≤ (if j > i then j else i) ∧ j ≤ (if j > i then j else i) := by split <;> omega
    refine ⟨?_, Int.le_trans c.1 h2, fun y hy => ?_⟩
    · rcases h1 with h1 | h1
      · rw [h1]
        split
        · exact .inr List.mem_cons_self
        · exact .inl rfl
      · exact .inr (List.mem_cons_of_mem _ h1)
    · rcases List.mem_cons.mp hy with rfl | hy
      · exact Int.le_trans c.2 h2
      · exact h3 y hy
theorem maxI_is {d m : Int} {ns : List Int} (h1 : ns = [] → m = d) (h2 : ns ≠ [] → m ∈ ns ∧ ∀ y, y ∈ ns → y ≤ m) : m = maxI d ns := by
  cases ns with
  | nil => exact h1 rfl
  | cons i is =>
    obtain ⟨h3, h4⟩ := h2 (by simp)
    obtain ⟨k1, k2, k3⟩ := fold_max is i
    have a1 : maxI d (i :: is) ∈ i :: is := by
      rcases k1 with k1 | k1
      · have e : maxI d (i :: is) = is.foldl (fun a b => if b > a then b else a) i := rfl
        rw [e, k1]
        exact List.mem_cons_self
      · exact List.mem_cons_of_mem _ k1
    have a2 : ∀ y ∈ i :: is, y ≤ maxI d (i :: is) := fun y hy => by
      rcases List.mem_cons.mp hy with rfl | hy
      · exact k2
      · exact k3 y hy
    exact Int.le_antisymm (a2 m h3) (h4 _ a1)
def maxDF : List PV → List PV → Option PV
  | [.lst as], [.int d] => match asIs as with
    | some is => some (.int (maxI d is))
    | none => none
  | _, _ => none
def cbK (f : List PV → List PV → Option PV) (ms mk : W (List PV)) : W PV := bind ms fun as => bind mk fun bs => lift (f as bs)
theorem p_maxD {K : PySem.W.Frag} {Z : WX} {ρ : List Sl} {tA tk : TA} {ms mk : W (List PV)} (ha : VP K Z ρ tA ms) (hk : VP K Z ρ tk mk) : EP K Z ρ (tCKw (rMaxD K) tA tk) (cbK maxDF ms mk) := fun W0 W σ e Q Ψ Ξ hm k kx =>
  ha W0 W σ e _ _ _ hm (fun as vs W1 g1 al z => hk W0 W1 σ (e.go g1) _ _ _ z (fun bs zs W2 g2 al2 z => by
    obtain ⟨c, ec, z⟩ := z
    match as, bs, ec with
    | [.lst cs], [.int d], ec =>
      simp only [maxDF] at ec
      cases h : asIs cs with
      | none => rw [h] at ec; cases ec
      | some is =>
        rw [h] at ec
        cases ec
        obtain ⟨v, rfl, p, us, rfl, hp, a2⟩ := Al.inv1 (al.mono g2.le.r)
        obtain ⟨y, rfl, py⟩ := Al.inv1 al2
        cases py
        rw [asIs_al h a2] at hp
        refine ⟨p, is, d, rfl, rfl, SqL.of (g2.ok.sub _ _ hp), fun m h1 h2 => ?_⟩
        rw [maxI_is h1 h2]
        exact k (.int (maxI d is)) (.int (maxI d is)) W2 (g1.trans g2) rfl z) (kx.go g1)) kx
end SL
namespace SL
open PySem PySem.Spec PyProof.Rows L2 Evl NF WL
variable [PW]
def shText (n : Nat) : Str := ((Str.empty ++ Str.ofString "Sheet(") ++ (toString (n : Int) : String)) ++ Str.ofString " rows)"
def txS : List PV → Option Str
  | [.lst as] => if as.length ≤ 100000 then some (shText as.length) else none
  | _ => none
def nsS : List Str := ["kept_rows"]
def tRepS (K : PySem.W.Frag) : TE := fun σ H Q => tJs [tC (.str (Str.ofString "Sheet(")), tFmt (tCB (rLenU K) (tCons (tFld K (tVar 0) "kept_rows") tNil)), tC (.str (Str.ofString " rows)"))] Str.empty σ H fun out H1 => Q (.str out) H1
theorem sh_small {n : Nat} (h : n ≤ 100000) : ((n : Int)).natAbs.log2 < 1920 := by
  have h1 : ((n : Int)).natAbs = n := rfl
  rw [h1]
  by_cases z : n = 0
  · subst z; decide
  · rw [Nat.log2_lt z]
    exact Nat.lt_of_le_of_lt h (Nat.lt_of_lt_of_le (show 100000 < 2 ^ 17 by decide) (Nat.pow_le_pow_right (by decide) (by decide)))
theorem sh_len {n : Nat} (h : n ≤ 100000) : (Str.ofString (toString (n : Int) : String)).length ≤ sizeLine := int_text_fits (sh_small h)
theorem sh_fits {n : Nat} (h : n ≤ 100000) : ((Str.empty ++ Str.ofString "Sheet(") ++ (toString (n : Int) : String)).length ≤ 4000000 ∧ (shText n).length ≤ 4000000 := by
  have d : (Str.ofString (toString (n : Int) : String)).length ≤ 1000 := by
    have e := int_text_length_le10 (a := (n : Int)) (k := 6) (by decide) (Nat.lt_of_le_of_lt h (by decide : 100000 < 10 ^ 6))
    rw [PySem.ofString_length]
    omega
  have e0 : (Str.empty ++ Str.ofString "Sheet(").length = 6 := by decide
  have e3 : (Str.ofString " rows)").length = 6 := by decide
  have e1 : ((Str.empty ++ Str.ofString "Sheet(") ++ (toString (n : Int) : String)).length = (Str.empty ++ Str.ofString "Sheet(").length + (Str.ofString (toString (n : Int) : String)).length := strLen_append _ _
  have e2 : (shText n).length = ((Str.empty ++ Str.ofString "Sheet(") ++ (toString (n : Int) : String)).length + (Str.ofString " rows)").length := strLen_append _ _
  omega
theorem txS_runs {K : PySem.W.Frag} {C x dx : Addr} {H : Hp} {vs : List V} {as : List PV} {t : Str} {Q : VK} (cl : Cls K C) (n1 : NoAttr K C "kept_rows") (h1 : H x = some (.ins C dx (nsS.zip vs))) (h2 : vs.length = nsS.length) (al : Al H vs (mps K as)) (ht : txS as = some t) (q : Q (.str t) H) :
    tRepS K (start ["self"] [.ref x]) H Q := by
  unfold txS at ht
  split at ht
  · rename_i as
    split at ht
    · rename_i hl
      cases ht
      obtain ⟨va, rfl, p⟩ := Al.inv1 al
      obtain ⟨z1, z2⟩ := sh_fits hl
      obtain ⟨p, us, rfl, hp, a2⟩ := p
      have ll : us.length = as.length := by rw [a2.length, mps_len]
      refine ⟨_, rfl, le_line (by decide), ⟨_, rfl, x, C, dx, _, .ref p, rfl, h1, cl, n1, rfl, .inl ⟨p, us, rfl, .inl (SqL.of hp), ?_⟩⟩⟩
      rw [ll]
      refine .inr ⟨(as.length : Int), rfl, sh_small hl, _, rfl, le_line z1, _, rfl, le_line z2, q⟩
    · cases ht
  · cases ht
theorem repS_of {P : Program} {w : World} {K : PySem.W.Frag} {mg : Str → Option Value} {base : Heap} {x qual : Str} {st : Stmt} {f C : Addr} {fd : FuncData} (F : L2.Fun K x qual st f fd) (S : FnScope ["self"] ["self"] (defScope st)) (cl : Cls K C) (n1 : NoAttr K C "kept_rows")
    (hl : PySem.W.findIn K (.ref C) "__repr__" = some (some (.ref f))) (hf : PySem.W.isFn K (.ref f) = true) (hb : Binds K fd ["self"] [])
    (d : ∀ (cdv : Value) (A : Around) (out : List Env) (s : Shared) (H : Hp) (E : XK), Room 0 (A.deeper (envOfC qual (defScope st) s.heap.objs.size f cdv)) → PSs (cxOf CX0 P w K mg base ["self"] qual (defScope st) f cdv A out s H E).nox (defBody st) (tRet (tRepS K))) :
    RepC P w K mg base C 1 nsS txS := ⟨⟨f, fd, hl, hf, hb, fun g A out s H args x dx vs as t Q gd G hr he hbd h1 h2 al ht q =>
  Fun.okA (ps := ["self"]) (vs := [.ref x]) F S rfl hr he hbd (.cons rfl .nil) fun cdv r => ⟨_, d cdv A out s H E0 r, txS_runs cl n1 h1 h2 al ht (q H (Ex.refl _))⟩⟩⟩
theorem tyn_all {Pr : String → Prop} (a : Pr "NoneType") (b : Pr "bool") (c : Pr "int") (d : Pr "str") (e : Pr "list") (f : Pr "tuple") (g : Pr "dict") : ∀ n ∈ tyNs, Pr n := by
  intro n hn
  simp only [tyNs, List.mem_cons, List.not_mem_nil, or_false] at hn
  rcases hn with rfl | rfl | rfl | rfl | rfl | rfl | rfl <;> assumption
end SL
namespace SL
open PySem PySem.Spec PyProof.Rows L2 Evl NF WL
end SL
namespace SL
open PySem PySem.Spec PyProof.Rows L2 Evl NF WL
end SL
namespace SL
open PySem PySem.Spec PyProof.Rows L2 Evl NF WL
end SL
namespace SL
open PySem PySem.Spec PyProof.Rows L2 Evl NF WL
end SL
namespace SL
open PySem PySem.Spec PyProof.Rows L2 Evl NF WL
end SL
namespace SL
open PySem PySem.Spec PyProof.Rows L2 Evl NF WL
variable [PW]
def NAt (P : Program) (w : World) (K : PySem.W.Frag) (H : Hp) (a : Addr) (xs : List (NestedKey × Addr × V)) : Prop := (H a = some (dN P w a xs) ∨ (xs = [] ∧ H a = some (.dK []))) ∧ ∀ x ∈ xs, NKey K H x.1 (.ref x.2.1) ∧ x.1.depth ≤ 8
/-- a tuple that is a key -/
def NTup (K : PySem.W.Frag) (H : Hp) (k : NestedKey) (y : V) : Prop := ∃ (ks : List NestedKey) (b : Addr), k = .tup ks ∧ y = .ref b ∧ NKey K H k (.ref b) ∧ k.depth ≤ 8
def putN (xs : List (NestedKey × Addr × V)) (k : NestedKey) (b : Addr) (v : V) : List (NestedKey × Addr × V) := if (atN xs k).isSome = true then xs.map (fun x => if x.1 = k then (x.1, x.2.1, v) else x) else xs ++ [(k, b, v)]
def NPut (P : Program) (w : World) (K : PySem.W.Frag) (H : Hp) (a : Addr) (y v : V) (H' : Hp) : Prop := DPut H a y v H' ∨ ∃ xs k b, NAt P w K H a xs ∧ NTup K H k y ∧ y = .ref b ∧ xs.length < sizeLine ∧ H' = upd H a (dN P w a (putN xs k b v))
end SL
namespace SL
open PySem PySem.Spec PyProof.Rows L2 Evl NF WL
end SL
namespace SL
open PySem PySem.Spec PyProof.Rows L2 Evl NF WL
variable [PW]
inductive DV where
  | flat (ks : List Key) (as : List PV)
  | nest (ks : List NestedKey) (as : List PV)
def DV.pv : DV → PV
  | .flat ks as => .dic ks as
  | .nest ks as => .dit ks as
def DV.cl : DV → Cl
  | .flat ks as => .dic ks as
  | .nest ks as => .dit ks as
def DV.put (b a : PV) : DV → Option Cl
  | .flat ks as => match keyF b with
    | some k => if ks.length < 100000 then some (.dic (dputK ks k) (dputA ks as k a)) else none
    | none => match tupK b with
      | some k => if ks = [] then some (.dit [k] [a]) else none
      | none => none
  | .nest ks as => match tupK b with
    | some k => if ks.length < 100000 then some (.dit (dputK ks k) (dputA ks as k a)) else none
    | none => none
section
variable {K : PySem.W.Frag} {R H : Hp}
/-- a dict that stands at q -/
def DV.at (K : PySem.W.Frag) (R H : Hp) (q : Addr) : DV → Prop
  | .flat ks as => ∃ vs, H q = some (.dK (ks.zip vs)) ∧ vs.length = ks.length ∧ Al R vs (mps K as)
  | .nest ks as => ∃ xs, H q = some (dN PW.P PW.w q xs) ∧ xs.map (·.1) = ks ∧ (∀ x ∈ xs, NKey K R x.1 (.ref x.2.1) ∧ x.1.depth ≤ 8) ∧ Al R (xs.map fun x => x.2.2) (mps K as)
theorem tupK_p {b : PV} {k : NestedKey} {v : V} (h : tupK b = some k) (p : (mp K b).p R v) : ∃ ks a, k = .tup ks ∧ v = .ref a ∧ NKey K R k (.ref a) ∧ k.depth ≤ 8 := by
  cases b <;> simp only [tupK] at h <;> try cases h
  rename_i as
  cases c : keyTs as with
  | none => rw [c] at h; cases h
  | some ks =>
    rw [c] at h
    simp only at h
    split at h
    · rename_i hd
      cases h
      obtain ⟨q, vs, rfl, hs, al⟩ := p
      exact ⟨ks, q, rfl, rfl, .tup hs (keyTs_p c al), hd⟩
    · cases h
theorem atN_val {k : NestedKey} : ∀ xs : List (NestedKey × Addr × V), atN xs k = valV ((xs.map (·.1)).zip (xs.map fun x => x.2.2)) k
  | [] => rfl
  | x :: xs => by
    have ih := atN_val (k := k) xs
    rw [List.map_cons, List.map_cons, List.zip_cons_cons]
    by_cases e : x.1 = k
    · rw [valV_pos (p := (x.1, x.2.2)) e]
      simp only [atN, List.find?_cons, decide_eq_true e, Option.map_some]
    · rw [valV_neg (p := (x.1, x.2.2)) e, ← ih]
      simp only [atN, List.find?_cons, decide_eq_false e]
theorem putN_keys {k : NestedKey} {b : Addr} {v : V} (xs : List (NestedKey × Addr × V)) : (putN xs k b v).map (·.1) = dputK (xs.map (·.1)) k ∧ (putN xs k b v).map (fun x => x.2.2) = dputA (xs.map (·.1)) (xs.map fun x => x.2.2) k v := by
  have ha : (atN xs k).isSome = hasK (xs.map (·.1)) k := by
    rw [atN_val, ← valV_any, zip_any (by rw [List.length_map, List.length_map])]
  have hz : ∀ xs : List (NestedKey × Addr × V), (xs.map (fun x => if x.1 = k then (x.1, x.2.1, v) else x)).map (·.1) = xs.map (·.1) ∧ (xs.map (fun x => if x.1 = k then (x.1, x.2.1, v) else x)).map (fun x => x.2.2) = List.zipWith (fun j x => if j = k then v else x) (xs.map (·.1)) (xs.map fun x => x.2.2) := fun xs => by
    induction xs with
    | nil => exact ⟨rfl, rfl⟩
    | cons x xs ih =>
      simp only [List.map_cons, List.zipWith_cons_cons]
      constructor
      · rw [ih.1]
        congr 1
        split <;> rfl
      · rw [ih.2]
        congr 1
        split <;> rfl
  unfold putN dputK dputA
  rw [ha]
  split
  · exact hz xs
  · exact ⟨by rw [List.map_append]; rfl, by rw [List.map_append]; rfl⟩
theorem putN_mem {k : NestedKey} {b : Addr} {v : V} {F : NestedKey → Addr → Prop} {xs : List (NestedKey × Addr × V)} (h : ∀ x ∈ xs, F x.1 x.2.1) (hk : F k b) : ∀ x ∈ putN xs k b v, F x.1 x.2.1 := by
  unfold putN
  split
  · intro x hx
    obtain ⟨y, hy, rfl⟩ := List.mem_map.mp hx
    split
    · exact h y hy
    · exact h y hy
  · intro x hx
    rcases List.mem_append.mp hx with hx | hx
    · exact h x hx
    · rw [List.mem_singleton] at hx
      subst hx
      exact hk
/-- what is put -/
theorem DV.at.put {d : DV} {q : Addr} {a b : PV} {y v : V} {c : Cl} (s : Ex R H) (h : d.at K R H q) (hb : (mp K b).p R y) (ha : (mp K a).p R v) (f : d.put b a = some c) : ∃ u, NPut PW.P PW.w K H q y v (upd H q u) ∧ c.ok K R (upd H q u) q := by
  have sz : 100000 ≤ sizeLine := by decide
  have nest : ∀ {k : NestedKey} {xs : List (NestedKey × Addr × V)} {as : List PV}, tupK b = some k → (H q = some (dN PW.P PW.w q xs) ∨ (xs = [] ∧ H q = some (.dK []))) → xs.length < 100000 → (∀ x ∈ xs, NKey K R x.1 (.ref x.2.1) ∧ x.1.depth ≤ 8) → Al R (xs.map fun x => x.2.2) (mps K as) →
      ∃ u, NPut PW.P PW.w K H q y v (upd H q u) ∧ (Cl.dit (dputK (xs.map (·.1)) k) (dputA (xs.map (·.1)) as k a)).ok K R (upd H q u) q := fun {k xs as} ek e hl h3 h4 => by
    obtain ⟨ks, b2, rfl, rfl, n1, n2⟩ := tupK_p ek hb
    refine ⟨dN PW.P PW.w q (putN xs (.tup ks) b2 v), .inr ⟨xs, .tup ks, b2, ⟨e, fun x hx => ⟨NKey.up s (h3 x hx).1, (h3 x hx).2⟩⟩, ⟨ks, b2, rfl, rfl, NKey.up s n1, n2⟩, rfl, by omega, rfl⟩, putN xs (.tup ks) b2 v, upd_same, (putN_keys xs).1, ?_, ?_⟩
    · exact putN_mem (F := fun k b => NKey K R k (.ref b) ∧ k.depth ≤ 8) h3 ⟨n1, n2⟩
    · rw [(putN_keys xs).2]
      exact al_dput ha h4
  cases d with
  | flat ks as =>
    obtain ⟨vs, h1, h2, h3⟩ := h
    simp only [DV.put] at f
    split at f
    · rename_i k ek
      split at f
      · rename_i hl
        cases f
        refine ⟨.dK (putK (ks.zip vs) k v), .inl (by rw [keyF_p ek hb]; exact DPut.k h1 (zip_lt hl)), dputA ks vs k v, ?_, dputA_len h2, al_dput ha h3⟩
        rw [upd_same, putK_zip h2]
      · cases f
    · split at f
      · rename_i k ek
        split at f
        · rename_i e0
          subst e0
          cases f
          have := nest (xs := []) (as := []) ek (.inr ⟨rfl, by rw [h1]; rfl⟩) (by decide) (fun x hx => by cases hx) .nil
          exact this
        · cases f
      · cases f
  | nest ks as =>
    obtain ⟨xs, h1, h2, h3, h4⟩ := h
    simp only [DV.put] at f
    split at f
    · rename_i k ek
      split at f
      · rename_i hl
        cases f
        subst h2
        exact nest ek (.inl h1) (by rw [List.length_map] at hl; exact hl) h3 h4
      · cases f
    · cases f
end
end SL
namespace SL
open PySem PySem.Spec PyProof.Rows L2 Evl NF WL
end SL
namespace SL
open PySem PySem.Spec PyProof.Rows L2 Evl NF WL
end SL
namespace SL
open PySem PySem.Spec PyProof.Rows L2 Evl NF WL
variable [PW]
def ezL : List PV → Option (List PV)
  | [.lst as, .lst bs] => some (enumF 0 (zipF as bs))
  | _ => none
def itEZ (ms : W (List PV)) : W (List PV) := bind ms fun as => lift (ezL as)
@[simp] theorem r_itEZ (as bs : List PV) : itEZ (ret [.lst as, .lst bs]) = ret (enumF 0 (zipF as bs)) := by unfold itEZ; simp [ezL]
end SL
namespace SL
open PySem PySem.Spec PyProof.Rows L2 Evl NF WL
end SL
namespace SL
open PySem PySem.Spec PyProof.Rows L2 Evl NF WL
end SL
namespace SL
open PySem PySem.Spec PyProof.Rows L2 Evl NF WL
end SL
namespace SL
open PySem PySem.Spec PyProof.Rows L2 Evl NF WL
end SL
namespace SL
open PySem PySem.Spec PyProof.Rows L2 Evl NF WL
end SL
namespace SL
open PySem PySem.Spec PyProof.Rows L2 Evl NF WL
variable [PW]
variable {K : PySem.W.Frag} {A B C D E : Type} {g g2 g3 g4 g5 : TG} {f : PV → Option A} {bd : A → Bd} {f2 : PV → Option B} {bd2 : B → Bd} {f3 : PV → Option C} {bd3 : C → Bd} {f4 : PV → Option D} {bd4 : D → Bd} {f5 : PV → Option E} {bd5 : E → Bd}
def rngL2 : List PV → Option (List PV)
  | [.int a, .int b] => if -(2 ^ 60) < a ∧ a < 2 ^ 60 ∧ -(2 ^ 60) < b ∧ b < 2 ^ 60 then some ((List.range (b - a).toNat).map fun i : Nat => .int (a + (i : Int))) else none
  | _ => none
def itR2 (ms : W (List PV)) : W (List PV) := bind ms fun as => lift (rngL2 as)
@[simp] theorem r_itR2 (a b : Int) (h1 : -(2 ^ 60) < a) (h2 : a < 2 ^ 60) (h3 : -(2 ^ 60) < b) (h4 : b < 2 ^ 60) : itR2 (ret [.int a, .int b]) = ret ((List.range (b - a).toNat).map fun i : Nat => .int (a + (i : Int))) := by
  show lift (rngL2 [.int a, .int b]) = _
  simp only [rngL2]
  rw [if_pos ⟨h1, h2, h3, h4⟩]
  exact r_lift _
end SL
set_option maxHeartbeats 4000000
namespace NT
open PySem SL
def B_is_whole (ca : Nat → Addr) (v1thing : PV) : W (Fl Unit) :=
  (SL.bind (andV (op1 (isiB "int") (SL.ret v1thing)) (notV (op1 (isiB "bool") (SL.ret v1thing)))) fun v2r => SL.ret (.rt (.v v2r)))
def F_is_whole (ca : Nat → Addr) (v1thing : PV) : W RV := runF (B_is_whole ca v1thing)
def W_greatest_divisor_1 (ca : Nat → Addr)  (v4s : PV × PV) : W (Fl (PV × PV)) :=
  whileW (fun v4s => (tst (op2 neF (SL.ret v4s.2) (SL.ret (.int 0))))) (fun v4s =>
  (SL.bindF (SL.bind (vcons (SL.ret v4s.2) (vcons (op2 modF (SL.ret v4s.1) (SL.ret v4s.2)) vnil)) fun as => SL.bind (SL.lift (two as)) fun x => SL.ret (.nx x)) fun v5s => SL.ret (.nx (v5s.1, v5s.2)))) v4s
def B_greatest_divisor (ca : Nat → Addr) (v1one : PV) (v2other : PV) : W (Fl Unit) :=
  (SL.bindF (W_greatest_divisor_1 ca (v1one, v2other)) fun v3s =>
  (SL.bind (cb absF (vcons (SL.ret v3s.1) vnil)) fun v6r => SL.ret (.rt (.v v6r))))
def F_greatest_divisor (ca : Nat → Addr) (v1one : PV) (v2other : PV) : W RV := runF (B_greatest_divisor ca v1one v2other)
def B_is_fraction (ca : Nat → Addr) (v1thing : PV) : W (Fl Unit) :=
  (SL.bind (orT (notT (tst (op1 (isiB "tuple") (SL.ret v1thing)))) (tst (op2 neF (cb lenF (vcons (SL.ret v1thing) vnil)) (SL.ret (.int 2))))) fun v8b => if v8b = true then SL.bindF (S := Empty) (T := Unit) (SL.bind (SL.ret (.bl false)) fun v2r => SL.ret (.rt (.v v2r))) (fun s => s.elim) else (
  (SL.bind (SL.ret v1thing) fun v7a => SL.bind (SL.lift ((tupF2 some some) v7a)) fun v3x =>
  (SL.bind (orT (notT (tst (callW (ar1 (F_is_whole ca)) [] (vcons (SL.ret v3x.1) vnil)))) (orT (notT (tst (callW (ar1 (F_is_whole ca)) [] (vcons (SL.ret v3x.2) vnil)))) (tst (op2 ltF (SL.ret v3x.2) (SL.ret (.int 1)))))) fun v6b => if v6b = true then SL.bindF (S := Empty) (T := Unit) (SL.bind (SL.ret (.bl false)) fun v4r => SL.ret (.rt (.v v4r))) (fun s => s.elim) else (
  (SL.bind (op2 eqF (callW (ar2 (F_greatest_divisor ca)) [] (vcons (SL.ret v3x.1) (vcons (SL.ret v3x.2) vnil))) (SL.ret (.int 1))) fun v5r => SL.ret (.rt (.v v5r))) : W (Fl (Unit))))) : W (Fl (Unit))))
def F_is_fraction (ca : Nat → Addr) (v1thing : PV) : W RV := runF (B_is_fraction ca v1thing)
def B_is_whole_within (ca : Nat → Addr) (v1thing : PV) (v2least : PV) (v3most : PV) : W (Fl Unit) :=
  (SL.bind (andV (callW (ar1 (F_is_whole ca)) [] (vcons (SL.ret v1thing) vnil)) (chain leU leU (SL.ret v2least) (SL.ret v1thing) (SL.ret v3most))) fun v4r => SL.ret (.rt (.v v4r)))
def F_is_whole_within (ca : Nat → Addr) (v1thing : PV) (v2least : PV) (v3most : PV) : W RV := runF (B_is_whole_within ca v1thing v2least v3most)
def E_is_mark_1 (ca : Nat → Addr)  (v4x : PV) : W PV :=
  (chain leU leU (SL.ret (.str (PySem.Str.ofString "a"))) (SL.ret v4x) (SL.ret (.str (PySem.Str.ofString "z"))))
def B_is_mark (ca : Nat → Addr) (v1thing : PV) : W (Fl Unit) :=
  (SL.bind (orT (notT (tst (op1 (isiB "str") (SL.ret v1thing)))) (notT (tst (chain leU leU (SL.ret (.int 1)) (cb lenF (vcons (SL.ret v1thing) vnil)) (SL.ret (.int 4)))))) fun v5b => if v5b = true then SL.bindF (S := Empty) (T := Unit) (SL.bind (SL.ret (.bl false)) fun v2r => SL.ret (.rt (.v v2r))) (fun s => s.elim) else (
  (SL.bind (cb allF (vcons (setl (lcO some (fun _ => SL.ret true) (E_is_mark_1 ca) (itS (SL.ret v1thing)))) vnil)) fun v3r => SL.ret (.rt (.v v3r))) : W (Fl (Unit))))
def F_is_mark (ca : Nat → Addr) (v1thing : PV) : W RV := runF (B_is_mark ca v1thing)
def B_is_amount (ca : Nat → Addr) (v1thing : PV) : W (Fl Unit) :=
  (SL.bind (andV (callW (ar1 (F_is_fraction ca)) [] (vcons (SL.ret v1thing) vnil)) (op2 geF (op2 ixF (SL.ret v1thing) (SL.ret (.int 0))) (SL.ret (.int 0)))) fun v2r => SL.ret (.rt (.v v2r)))
def F_is_amount (ca : Nat → Addr) (v1thing : PV) : W RV := runF (B_is_amount ca v1thing)
def B_is_gap (ca : Nat → Addr) (v1thing : PV) : W (Fl Unit) :=
  (SL.bind (andV (callW (ar1 (F_is_amount ca)) [] (vcons (SL.ret v1thing) vnil)) (op2 leU (op2 ixF (SL.ret v1thing) (SL.ret (.int 0))) (op2 ixF (SL.ret v1thing) (SL.ret (.int 1))))) fun v2r => SL.ret (.rt (.v v2r)))
def F_is_gap (ca : Nat → Addr) (v1thing : PV) : W RV := runF (B_is_gap ca v1thing)
def B_fits (ca : Nat → Addr) (v1kind : PV) (v2number : PV) (v3thing : PV) : W (Fl Unit) :=
  (SL.bind (tst (op2 eqF (SL.ret v1kind) (SL.ret (.str (PySem.Str.ofString "mark"))))) fun v8b => if v8b = true then SL.bindF (S := Empty) (T := Unit) (SL.bind (callW (ar1 (F_is_mark ca)) [] (vcons (SL.ret v3thing) vnil)) fun v4r => SL.ret (.rt (.v v4r))) (fun s => s.elim) else (
  (SL.bind (tst (op2 eqF (SL.ret v1kind) (SL.ret (.str (PySem.Str.ofString "cut"))))) fun v7b => if v7b = true then SL.bindF (S := Empty) (T := Unit) (SL.bind (callW (ar1 (F_is_gap ca)) [] (vcons (SL.ret v3thing) vnil)) fun v5r => SL.ret (.rt (.v v5r))) (fun s => s.elim) else (
  (SL.bind (callW (ar3 (F_is_whole_within ca)) [] (vcons (SL.ret v3thing) (vcons (SL.ret (.int 0)) (vcons (op2 subF (SL.ret v2number) (SL.ret (.int 1))) vnil)))) fun v6r => SL.ret (.rt (.v v6r))) : W (Fl (Unit)))) : W (Fl (Unit))))
def F_fits (ca : Nat → Addr) (v1kind : PV) (v2number : PV) (v3thing : PV) : W RV := runF (B_fits ca v1kind v2number v3thing)
def E_is_sheet_row_1 (ca : Nat → Addr) (v1number : PV) (v8x : PV × PV) : W PV :=
  (callW (ar3 (F_fits ca)) [] (vcons (SL.ret v8x.1) (vcons (SL.ret v1number) (vcons (SL.ret v8x.2) vnil))))
def B_is_sheet_row (ca : Nat → Addr) (v1number : PV) (v2thing : PV) : W (Fl Unit) :=
  (SL.bind (orT (notT (tst (op1 (isiB "tuple") (SL.ret v2thing)))) (orT (tst (op2 eqF (cb lenF (vcons (SL.ret v2thing) vnil)) (SL.ret (.int 0)))) (notT (tst (op1 (isiB "str") (op2 ixF (SL.ret v2thing) (SL.ret (.int 0)))))))) fun v10b => if v10b = true then SL.bindF (S := Empty) (T := Unit) (SL.bind (SL.ret (.bl false)) fun v3r => SL.ret (.rt (.v v3r))) (fun s => s.elim) else (
  (SL.bind (tst (op1 (inTab true [(PySem.Str.ofString "mark", (.tup [(.str (PySem.Str.ofString "mark"))])), (PySem.Str.ofString "next", (.tup [(.str (PySem.Str.ofString "row"))])), (PySem.Str.ofString "not", (.tup [(.str (PySem.Str.ofString "row"))])), (PySem.Str.ofString "less", (.tup [(.str (PySem.Str.ofString "row")), (.str (PySem.Str.ofString "cut"))])), (PySem.Str.ofString "least", (.tup [(.str (PySem.Str.ofString "row")), (.str (PySem.Str.ofString "row"))])), (PySem.Str.ofString "most", (.tup [(.str (PySem.Str.ofString "row")), (.str (PySem.Str.ofString "row"))]))]) (op2 ixF (SL.ret v2thing) (SL.ret (.int 0))))) fun v9b => if v9b = true then SL.bindF (S := Empty) (T := Unit) (SL.bind (SL.ret (.bl false)) fun v4r => SL.ret (.rt (.v v4r))) (fun s => s.elim) else (
  (SL.bind (op1 (atTab [(PySem.Str.ofString "mark", (.tup [(.str (PySem.Str.ofString "mark"))])), (PySem.Str.ofString "next", (.tup [(.str (PySem.Str.ofString "row"))])), (PySem.Str.ofString "not", (.tup [(.str (PySem.Str.ofString "row"))])), (PySem.Str.ofString "less", (.tup [(.str (PySem.Str.ofString "row")), (.str (PySem.Str.ofString "cut"))])), (PySem.Str.ofString "least", (.tup [(.str (PySem.Str.ofString "row")), (.str (PySem.Str.ofString "row"))])), (PySem.Str.ofString "most", (.tup [(.str (PySem.Str.ofString "row")), (.str (PySem.Str.ofString "row"))]))]) (op2 ixF (SL.ret v2thing) (SL.ret (.int 0)))) fun v5kinds =>
  (SL.bind (cutT (SL.ret v2thing) (partW (SL.ret (.int 1))) noPart) fun v6parts =>
  (SL.bind (andV (op2 eqF (cb lenF (vcons (SL.ret v6parts) vnil)) (cb lenF (vcons (SL.ret v5kinds) vnil))) (cb allF (vcons (setl (lcO (tupF2 some some) (fun _ => SL.ret true) (E_is_sheet_row_1 ca v1number) (itZT (vcons (SL.ret v5kinds) (vcons (SL.ret v6parts) vnil))))) vnil))) fun v7r => SL.ret (.rt (.v v7r))))) : W (Fl (Unit)))) : W (Fl (Unit))))
def F_is_sheet_row (ca : Nat → Addr) (v1number : PV) (v2thing : PV) : W RV := runF (B_is_sheet_row ca v1number v2thing)
def L_check_rows_1 (ca : Nat → Addr)  (v4x : PV × PV) (v3s : Unit) : W (Fl (Unit)) :=
  (SL.bindF (SL.bind (notT (tst (callW (ar2 (F_is_sheet_row ca)) [] (vcons (SL.ret v4x.1) (vcons (SL.ret v4x.2) vnil))))) fun v6b => if v6b = true then (SL.fail : W (Fl (Unit))) else (SL.ret (.nx ()))) fun _ => SL.ret (.nx ()))
def B_check_rows (ca : Nat → Addr) (v1rows : PV) : W (Fl Unit) :=
  (SL.bind (orT (notT (tst (op1 (isiB "list") (SL.ret v1rows)))) (notT (tst (chain leU leU (SL.ret (.int 1)) (cb lenF (vcons (SL.ret v1rows) vnil)) (SL.ret (.int 1500)))))) fun v7b => if v7b = true then SL.bindF (S := Empty) (T := Unit) SL.fail (fun s => s.elim) else (
  (SL.bindF (SL.bind (itE (vcons (SL.ret v1rows) vnil)) fun as => forW (tupF2 some some) (L_check_rows_1 ca) as ()) fun _ => SL.ret (.nx ())) : W (Fl (Unit))))
def F_check_rows (ca : Nat → Addr) (v1rows : PV) : W RV := runF (B_check_rows ca v1rows)
def E_steps_of_1 (ca : Nat → Addr) (v4s : List PV) (v8x : PV × PV) : W PV :=
  (op2 ixF (SL.ret (.lst v4s)) (SL.ret v8x.2))
def T_steps_of_2 (ca : Nat → Addr)  (v8x : PV × PV) : W Bool :=
  (tst (op2 eqF (SL.ret v8x.1) (SL.ret (.str (PySem.Str.ofString "row")))))
def L_steps_of_3 (ca : Nat → Addr)  (v5x : PV) (v4s : List PV) : W (Fl (List PV)) :=
  (SL.bind (op1 (atTab [(PySem.Str.ofString "mark", (.tup [(.str (PySem.Str.ofString "mark"))])), (PySem.Str.ofString "next", (.tup [(.str (PySem.Str.ofString "row"))])), (PySem.Str.ofString "not", (.tup [(.str (PySem.Str.ofString "row"))])), (PySem.Str.ofString "less", (.tup [(.str (PySem.Str.ofString "row")), (.str (PySem.Str.ofString "cut"))])), (PySem.Str.ofString "least", (.tup [(.str (PySem.Str.ofString "row")), (.str (PySem.Str.ofString "row"))])), (PySem.Str.ofString "most", (.tup [(.str (PySem.Str.ofString "row")), (.str (PySem.Str.ofString "row"))]))]) (op2 ixF (SL.ret v5x) (SL.ret (.int 0)))) fun v6kinds =>
  (SL.bind (setl (lendO (lcO (tupF2 some some) (T_steps_of_2 ca) (E_steps_of_1 ca v4s) (itZT (vcons (SL.ret v6kinds) (vcons (cutT (SL.ret v5x) (partW (SL.ret (.int 1))) noPart) vnil)))))) fun v7ahead =>
  (SL.bind (cbK maxDF (vcons (SL.ret v7ahead) vnil) (vcons (SL.ret (.int 0)) vnil)) fun v9deepest =>
  (SL.bindF (SL.bind (ifE (tst (op2 eqF (op2 ixF (SL.ret v5x) (SL.ret (.int 0))) (SL.ret (.str (PySem.Str.ofString "next"))))) (op2 addF (SL.ret v9deepest) (SL.ret (.int 1))) (SL.ret v9deepest)) fun a => SL.bind (SL.lift (if (v4s : List PV).length < 100000 then some (v4s ++ [a]) else none)) fun bs => SL.ret (.nx bs)) fun v10s => SL.ret (.nx v10s)))))
def B_steps_of (ca : Nat → Addr) (v1rows : PV) : W (Fl Unit) :=
  (SL.bind (lstO vnil) fun v2told =>
  (SL.bindF (SL.bind (itL (SL.ret v1rows)) fun as => forW some (L_steps_of_3 ca) as v2told) fun v3s =>
  (SL.ret (.rt (.o v3s)))))
def F_steps_of (ca : Nat → Addr) (v1rows : PV) : W RV := runF (B_steps_of ca v1rows)
def B_Sheet___init__ (ca : Nat → Addr) (v1self : Addr) (v2rows : PV) : W (Fl Unit) :=
  (SL.bind (callW (ar1 (F_check_rows ca)) [] (vcons (SL.ret v2rows) vnil)) fun _ =>
  (SL.bindF (SL.bind (setl (cbO listF (vcons (SL.ret v2rows) vnil))) fun a => SL.bind (newFld v1self (ca 1) "kept_rows" a) fun _ => SL.ret (.nx ())) fun _ => SL.ret (.nx ())))
def F_Sheet___init__ (ca : Nat → Addr) (v1s : PV) (v2rows : PV) : W RV := withP v1s fun v1self => runF (B_Sheet___init__ ca v1self v2rows)
def B_Sheet_rows (ca : Nat → Addr) (v1self : PV) : W (Fl Unit) :=
  (SL.bind (cbO listF (vcons (fldW (ca 1) "kept_rows" (SL.ret v1self)) vnil)) fun v2r => SL.ret (.rt (.o v2r)))
def F_Sheet_rows (ca : Nat → Addr) (v1self : PV) : W RV := runF (B_Sheet_rows ca v1self)
def B_Sheet_steps (ca : Nat → Addr) (v1self : PV) : W (Fl Unit) :=
  (SL.bind (callO (ar1 (F_steps_of ca)) [] (vcons (fldW (ca 1) "kept_rows" (SL.ret v1self)) vnil)) fun v2r => SL.ret (.rt (.o v2r)))
def F_Sheet_steps (ca : Nat → Addr) (v1self : PV) : W RV := runF (B_Sheet_steps ca v1self)
def B_Sheet___eq__ (ca : Nat → Addr) (v1self : PV) (v2other : PV) : W (Fl Unit) :=
  (SL.bind (notT (tst (op1 (isiF (fun _ => none) [(ca 1, true)]) (SL.ret v2other)))) fun v5b => if v5b = true then SL.bindF (S := Empty) (T := Unit) (SL.bind (SL.ret (.bl false)) fun v3r => SL.ret (.rt (.v v3r))) (fun s => s.elim) else (
  (SL.bind (op2 eqF (fldW (ca 1) "kept_rows" (SL.ret v1self)) (fldW (ca 1) "kept_rows" (SL.ret v2other))) fun v4r => SL.ret (.rt (.v v4r))) : W (Fl (Unit))))
def F_Sheet___eq__ (ca : Nat → Addr) (v1self : PV) (v2other : PV) : W RV := runF (B_Sheet___eq__ ca v1self v2other)
def B_Sheet___len__ (ca : Nat → Addr) (v1self : PV) : W (Fl Unit) :=
  (SL.bind (cb lenF (vcons (fldW (ca 1) "kept_rows" (SL.ret v1self)) vnil)) fun v2r => SL.ret (.rt (.v v2r)))
def F_Sheet___len__ (ca : Nat → Addr) (v1self : PV) : W RV := runF (B_Sheet___len__ ca v1self)
def B_Sheet___str__ (ca : Nat → Addr) (v1self : PV) : W (Fl Unit) :=
  (SL.bind (fstrW (jsL (PySem.Str.ofString "Sheet(") (jsF (cb lenF (vcons (fldW (ca 1) "kept_rows" (SL.ret v1self)) vnil)) (jsL (PySem.Str.ofString " rows)") jsN)))) fun v2r => SL.ret (.rt (.v v2r)))
def F_Sheet___str__ (ca : Nat → Addr) (v1self : PV) : W RV := runF (B_Sheet___str__ ca v1self)
end NT
namespace SL
open PySem PySem.Spec PyProof.Rows L2 Evl NF WL
end SL
namespace SL
open PySem PySem.Spec PyProof.Rows L2 Evl NF WL
end SL
namespace SL
open PySem PySem.Spec PyProof.Rows L2 Evl NF WL
end SL
namespace SL
open PySem PySem.Spec PyProof.Rows L2 Evl NF WL
end SL
set_option maxHeartbeats 2000000
namespace SL
open PySem PySem.Spec PyProof.Rows L2 Evl NF WL
end SL
namespace SL
open PySem PySem.Spec PyProof.Rows L2 Evl NF WL
end SL
set_option maxHeartbeats 4000000
namespace LW
open PySem SL
/-- k05 k06 k07 k08 k09 k10 k11 k18 k19 k20 k21 k22 k23 k24 k31 k32 k33 k34 k35 k36 k37 k45 k46 k47 k48 k50 k51 k52 k60 k61 k62 k63 k64 k65 k66 k67 k75 k76 k77 k78 k79 k80 k81 k82 k96 k97 k98 -/
def W__law_low_1 (ca : Nat → Addr)  (v6s : PV × PV) : W (Fl (PV × PV)) :=
  whileW (fun v6s => (tst (op2 neF (SL.ret v6s.2) (SL.ret (.int 0))))) (fun v6s =>
  (SL.bindF (SL.bind (vcons (SL.ret v6s.2) (vcons (op2 modF (SL.ret v6s.1) (SL.ret v6s.2)) vnil)) fun as => SL.bind (SL.lift (two as)) fun x => SL.ret (.nx x)) fun v7s => SL.ret (.nx (v7s.1, v7s.2)))) v6s
def B__law_low (ca : Nat → Addr) (v1top : PV) (v2bottom : PV) : W (Fl Unit) :=
  (SL.bind (cb absF (vcons (SL.ret v1top) vnil)) fun v3one =>
  (SL.bind (SL.ret v2bottom) fun v4other =>
  (SL.bindF (LW.W__law_low_1 ca (v3one, v4other)) fun v5s =>
  (SL.bind (tupW (vcons (op2 fdivF (SL.ret v1top) (SL.ret v5s.1)) (vcons (op2 fdivF (SL.ret v2bottom) (SL.ret v5s.1)) vnil))) fun v8r => SL.ret (.rt (.v v8r))))))
def F__law_low (ca : Nat → Addr) (v1top : PV) (v2bottom : PV) : W RV := runF (B__law_low ca v1top v2bottom)
/-- k05 k06 k07 k08 k09 k10 k11 k31 k32 k33 k34 k35 k36 k37 k45 k46 k47 k48 k50 k51 k52 k60 k61 k62 k63 k64 k65 k66 k67 k75 k76 k77 k78 k79 k80 k81 k82 k96 k97 k98 -/
def E__law_word_1 (ca : Nat → Addr) (v2letters : PV) (v1baghere : PV) (v4x : PV) : W PV :=
  (op2 ixF (SL.ret v2letters) (callW (ar2 SL.outW) [] (vcons (SL.ret v1baghere) (vcons (SL.ret (.int 26)) vnil))))
def B__law_word (ca : Nat → Addr) (v1baghere : PV) : W (Fl Unit) :=
  (SL.bind (SL.ret (.str (PySem.Str.ofString "abcdefghijklmnopqrstuvwxyz"))) fun v2letters =>
  (SL.bind (joinW (SL.ret (.str (PySem.Str.ofString ""))) (setl (lcO some (fun _ => SL.ret true) (LW.E__law_word_1 ca v2letters v1baghere) (itR (vcons (op2 addF (SL.ret (.int 1)) (callW (ar2 SL.outW) [] (vcons (SL.ret v1baghere) (vcons (SL.ret (.int 4)) vnil)))) vnil))))) fun v3r => SL.ret (.rt (.v v3r))))
def F__law_word (ca : Nat → Addr) (v1baghere : PV) : W RV := runF (B__law_word ca v1baghere)
/-- k60 k61 k62 k63 k66 k67 -/
def L__law_tests_1 (ca : Nat → Addr) (v1baghere : PV) (v2words : PV) (v7x : PV) (v6s : List PV) : W (Fl (List PV)) :=
  (SL.bind (callW (ar2 SL.outW) [] (vcons (SL.ret v1baghere) (vcons (cb max2F (vcons (SL.ret (.int 1)) (vcons (SL.ret v7x) vnil))) vnil))) fun v8at =>
  (SL.bind (callW (ar2 SL.outW) [] (vcons (SL.ret v1baghere) (vcons (cb max2F (vcons (SL.ret (.int 1)) (vcons (SL.ret v7x) vnil))) vnil))) fun v9to =>
  (SL.bindF (SL.bind (tst (op2 eqF (callW (ar2 SL.outW) [] (vcons (SL.ret v1baghere) (vcons (SL.ret (.int 2)) vnil))) (SL.ret (.int 0)))) fun v13b => if v13b = true then ((SL.bindF (SL.bind (cb max2F (vcons (SL.ret (.int 0)) (vcons (op2 subF (SL.ret v7x) (SL.ret (.int 1))) vnil))) fun v12a => SL.ret (.nx v12a)) fun v11s => SL.ret (.nx v11s)) : W (Fl (PV))) else (SL.ret (.nx v8at))) fun v10s =>
  (SL.bind (op2 ixF (setl (lstO (vcons (SL.ret (.int 0)) (vcons (callW (ar2 SL.outW) [] (vcons (SL.ret v1baghere) (vcons (SL.ret (.int 6)) vnil))) vnil)))) (cb intF (vcons (op2 gtF (SL.ret v7x) (SL.ret (.int 0))) vnil))) fun v14way =>
  (SL.bind (op2 addF (SL.ret (.int 1)) (callW (ar2 SL.outW) [] (vcons (SL.ret v1baghere) (vcons (SL.ret (.int 9)) vnil)))) fun v15bottom =>
  (SL.bind (callW (ar2 (LW.F__law_low ca)) [] (vcons (callW (ar2 SL.outW) [] (vcons (SL.ret v1baghere) (vcons (op2 addF (SL.ret v15bottom) (SL.ret (.int 1))) vnil))) (vcons (SL.ret v15bottom) vnil))) fun v16cut =>
  (SL.bind (op2 ixF (SL.ret v2words) (callW (ar2 SL.outW) [] (vcons (SL.ret v1baghere) (vcons (cb lenF (vcons (SL.ret v2words) vnil)) vnil)))) fun v17wordhere =>
  (SL.bind (setl (lstO (vcons (tupW (vcons (SL.ret (.str (PySem.Str.ofString "mark"))) (vcons (SL.ret v17wordhere) vnil))) (vcons (tupW (vcons (SL.ret (.str (PySem.Str.ofString "next"))) (vcons (SL.ret v10s) vnil))) (vcons (tupW (vcons (SL.ret (.str (PySem.Str.ofString "not"))) (vcons (SL.ret v10s) vnil))) (vcons (tupW (vcons (SL.ret (.str (PySem.Str.ofString "less"))) (vcons (SL.ret v10s) (vcons (SL.ret v16cut) vnil)))) (vcons (tupW (vcons (SL.ret (.str (PySem.Str.ofString "least"))) (vcons (SL.ret v10s) (vcons (SL.ret v9to) vnil)))) (vcons (tupW (vcons (SL.ret (.str (PySem.Str.ofString "most"))) (vcons (SL.ret v10s) (vcons (SL.ret v9to) vnil)))) vnil)))))))) fun v18some =>
  (SL.bindF (SL.bind (op2 ixF (SL.ret v18some) (SL.ret v14way)) fun a => SL.bind (SL.lift (if (v6s : List PV).length < 100000 then some (v6s ++ [a]) else none)) fun bs => SL.ret (.nx bs)) fun v19s => SL.ret (.nx v19s))))))))))
def B__law_tests (ca : Nat → Addr) (v1baghere : PV) (v2words : PV) (v3many : PV) : W (Fl Unit) :=
  (SL.bind (lstO vnil) fun v4found =>
  (SL.bindF (SL.bind (itR (vcons (SL.ret v3many) vnil)) fun as => forW some (LW.L__law_tests_1 ca v1baghere v2words) as v4found) fun v5s =>
  (SL.ret (.rt (.o v5s)))))
def F__law_tests (ca : Nat → Addr) (v1baghere : PV) (v2words : PV) (v3many : PV) : W RV := runF (B__law_tests ca v1baghere v2words v3many)
end LW
namespace SL
open PySem PySem.Spec PyProof.Rows L2 Evl NF WL
variable [PW]
section
variable {K : PySem.W.Frag} {Z : WX} {W0 Wa W1 W2 W3 : Wd} {σ : L2.St} {ρ : List Sl} {i j : Nat} {te : TE} {me : W PV} {ms : W (List PV)}
theorem un_cell {q : Addr} {us : List V} {as : List PV} (o : Ok K Wa) (hs : Wa.s q = some (.lst as)) (hv : Wa.h q = some (.lst us)) (al : Al Wa.r us (mps K as)) (g : Go K ⟨upd Wa.r q (.lst us), Wa.h, rem Wa.s q⟩ W2) (hl : LightS W2.s) : Go K Wa ⟨cutR W2.r q, W2.h, put W2.s q (.lst as)⟩ := by
  have hr : Wa.r q = none := (o.cell q _ hs).1
  have hp : W2.r q = some (.lst us) := g.le.r _ _ upd_same
  have ex : Ex Wa.r (cutR W2.r q) := fun x o hx => by
    have c : x ≠ q := fun z => by rw [z, hr] at hx; cases hx
    rw [cutR_ne c]
    exact g.le.r _ _ (by show upd Wa.r q _ x = _; rw [upd_ne c]; exact hx)
  refine ⟨⟨fun x o hx => ?_, fun x c hc => ?_⟩, ex, fun x o n hx => g.le.h x o (by show rem Wa.s q x = none; unfold rem; split <;> first | rfl | exact n) hx, fun x o hx t e ns => ?_, fun x c hx => ?_, fun x c hx n => ?_⟩
  · have hx' : cutR W2.r q x = some o := hx
    by_cases c : x = q
    · subst c
      rw [cutR_same] at hx'
      cases hx'
    · rw [cutR_ne c] at hx'
      exact g.ok.sub _ _ hx'
  · have hc' : put W2.s q (.lst as) x = some c := hc
    by_cases e : x = q
    · subst e
      rw [put_same] at hc'
      cases hc'
      exact ⟨cutR_same, us, g.ok.sub _ _ hp, al.mono ex⟩
    · rw [put_ne e] at hc'
      refine ⟨?_, (g.ok.cell x c hc').2.cut (hl x c hc') hp⟩
      show cutR W2.r q x = none
      rw [cutR_ne e]
      exact (g.ok.cell x c hc').1
  · show cutR W2.r q x = none
    by_cases c : x = q
    · rw [c, cutR_same]
    · rw [cutR_ne c]
      exact g.le.w x o hx t (by show upd Wa.r q _ x = none; rw [upd_ne c]; exact e) (by show rem Wa.s q x = none; rw [rem_ne c]; exact ns)
  · by_cases c : x = q
    · rw [c]
      exact ⟨_, g.ok.sub _ _ hp, rfl⟩
    · exact g.le.d x _ (by show rem Wa.s q x = _; rw [rem_ne c]; exact hx)
  · have hx' : put W2.s q (.lst as) x = some c := hx
    by_cases e : x = q
    · rw [e, hs] at n
      cases n
    · rw [put_ne e] at hx'
      exact g.le.n x c hx' (by show rem Wa.s q x = none; rw [rem_ne e]; exact n)
end
def lendW (L : PV → (PV → W PV) → W PV) : List PV → (List PV → W PV) → W PV
  | [], k => k []
  | a :: as, k => L a fun b => lendW L as fun bs => k (b :: bs)
def lendN : Nat → PV → (PV → W PV) → W PV
  | 0, a, k => k a
  | d + 1, a, k => match a with
    | .ptr p => fun S Ψ Ξ => ∃ as, S p = some (.lst as) ∧ lendW (lendN d) as (fun bs S1 Ψ1 _ => S1 p = some (.lst as) ∧ k (.lst bs) (rem S1 p) (fun c S2 => light c = true ∧ LightS S2 ∧ Ψ1 c (put S2 p (.lst as))) fun _ _ => False) S Ψ Ξ
    | .lst as => lendW (lendN d) as fun bs => k (.lst bs)
    | .tup as => lendW (lendN d) as fun bs => k (.tup bs)
    | a => k a
section
variable {K : PySem.W.Frag} {Z : WX} {W0 Wa W1 W2 W3 : Wd} {σ : L2.St} {ρ : List Sl} {i j : Nat} {te : TE} {ms : W (List PV)} {L : PV → (PV → W PV) → W PV}
def LN (K : PySem.W.Frag) (L : PV → (PV → W PV) → W PV) : Prop := ∀ (a : PV) (v : V) (Wa : Wd) (Ψ : PV → Sto → Prop) (k : PV → W PV), Ok K Wa → (mp K a).p Wa.r v → L a k Wa.s Ψ (fun _ _ => False) →
  ∃ b W1 Ψ1, Go K Wa W1 ∧ W1.h = Wa.h ∧ (mp K b).p W1.r v ∧ k b W1.s Ψ1 (fun _ _ => False) ∧ ∀ c u W2, Go K W1 W2 → (mp K c).p W2.r u → Ψ1 c W2.s → ∃ W3, Go K Wa W3 ∧ W3.h = W2.h ∧ (mp K c).p W3.r u ∧ Ψ c W3.s
theorem lendW_go (hL : LN K L) : ∀ (as : List PV) (vs : List V) (Wa : Wd) (Ψ : PV → Sto → Prop) (k : List PV → W PV), Ok K Wa → Al Wa.r vs (mps K as) → lendW L as k Wa.s Ψ (fun _ _ => False) →
    ∃ bs W1 Ψ1, Go K Wa W1 ∧ W1.h = Wa.h ∧ Al W1.r vs (mps K bs) ∧ k bs W1.s Ψ1 (fun _ _ => False) ∧ ∀ c u W2, Go K W1 W2 → (mp K c).p W2.r u → Ψ1 c W2.s → ∃ W3, Go K Wa W3 ∧ W3.h = W2.h ∧ (mp K c).p W3.r u ∧ Ψ c W3.s
  | [], _, Wa, Ψ, k, o, .nil, h => ⟨[], Wa, Ψ, Go.id o, rfl, .nil, h, fun c u W2 g p z => ⟨W2, g, rfl, p, z⟩⟩
  | a :: as, _, Wa, Ψ, k, o, .cons (v := v) (vs := vs) p al, h => by
    obtain ⟨b, W1, Ψ1, g1, h1, p1, z1, un1⟩ := hL a v Wa Ψ _ o p h
    obtain ⟨bs, W2, Ψ2, g2, h2, al2, z2, un2⟩ := lendW_go hL as vs W1 Ψ1 _ g1.ok (al.mono g1.le.r) z1
    refine ⟨b :: bs, W2, Ψ2, g1.trans g2, by rw [h2, h1], .cons (MP.mono _ g2.le.r p1) al2, z2, fun c u W3 g p z => ?_⟩
    obtain ⟨W4, g4, h4, p4, z4⟩ := un2 c u W3 g p z
    obtain ⟨W5, g5, h5, p5, z5⟩ := un1 c u W4 g4 p4 z4
    exact ⟨W5, g5, by rw [h5, h4], p5, z5⟩
theorem lend_id : ∀ (a : PV) (v : V) (Wa : Wd) (Ψ : PV → Sto → Prop) (k : PV → W PV), Ok K Wa → (mp K a).p Wa.r v → k a Wa.s Ψ (fun _ _ => False) →
    ∃ b W1 Ψ1, Go K Wa W1 ∧ W1.h = Wa.h ∧ (mp K b).p W1.r v ∧ k b W1.s Ψ1 (fun _ _ => False) ∧ ∀ c u W2, Go K W1 W2 → (mp K c).p W2.r u → Ψ1 c W2.s → ∃ W3, Go K Wa W3 ∧ W3.h = W2.h ∧ (mp K c).p W3.r u ∧ Ψ c W3.s :=
  fun a v Wa Ψ k o p h => ⟨a, Wa, Ψ, Go.id o, rfl, p, h, fun c u W2 g p z => ⟨W2, g, rfl, p, z⟩⟩
theorem lendN_go : ∀ d : Nat, LN K (lendN d)
  | 0 => lend_id
  | d + 1 => fun a v Wa Ψ k o p h => by
    cases a with
    | ptr q =>
      obtain ⟨as, hs, z⟩ := h
      obtain ⟨rq, us, hv, al⟩ := o.cell q _ hs
      cases p
      obtain ⟨bs, W1, Ψ1, g, eh, al1, ⟨hs1, zk⟩, un⟩ := lendW_go (lendN_go d) as us Wa Ψ _ o al z
      have hv1 : W1.h q = some (.lst us) := by rw [eh]; exact hv
      have g1 := calm_cell g.ok hs1 hv1
      refine ⟨.lst bs, _, _, g.trans g1, eh, ⟨q, us, rfl, upd_same, al1.mono g1.le.r⟩, zk, fun c u W2 g2 pc ⟨lc, ls, z2⟩ => ?_⟩
      have hp : W2.r q = some (.lst us) := g2.le.r _ _ upd_same
      exact un c u ⟨cutR W2.r q, W2.h, put W2.s q (.lst as)⟩ (un_cell g.ok hs1 hv1 (al.mono g.le.r) g2 ls) (light_p (R2 := cutR W2.r q) (fun x o n h => by rw [cutR_ne n]; exact h) hp lc pc) z2
    | lst as =>
      obtain ⟨q, vs, rfl, hq, al⟩ := p
      obtain ⟨bs, W1, Ψ1, g, eh, al1, zk, un⟩ := lendW_go (lendN_go d) as vs Wa Ψ _ o al h
      exact ⟨.lst bs, W1, Ψ1, g, eh, ⟨q, vs, rfl, g.le.r _ _ hq, al1⟩, zk, un⟩
    | tup as =>
      obtain ⟨q, vs, rfl, hq, al⟩ := p
      obtain ⟨bs, W1, Ψ1, g, eh, al1, zk, un⟩ := lendW_go (lendN_go d) as vs Wa Ψ _ o al h
      exact ⟨.tup bs, W1, Ψ1, g, eh, ⟨q, vs, rfl, ex_t g.le.r hq, al1⟩, zk, un⟩
    | _ => exact lend_id _ v Wa Ψ k o p h
theorem En.reval {a b : PV} {v : V} (e : En K W0 Wa σ ρ) (h : σ[i]? = some (some v)) (p : (mp K b).p Wa.r v) (hi : ρ[i]? = some (.val a)) : En K W0 Wa σ (ρ.set i (.val b)) := by
  have il : i < ρ.length := (List.getElem?_eq_some_iff.mp hi).1
  refine ⟨e.ok, e.le, by rw [List.length_set]; exact e.len, fun k s hk => ?_, fun k l as bs q n hk hl h1 => ?_⟩
  · by_cases c : k = i
    · subst c
      rw [List.getElem?_set_self il] at hk
      cases hk
      exact ⟨_, h, v, rfl, p⟩
    · rw [List.getElem?_set_ne (Ne.symm c)] at hk
      exact e.sl k s hk
  · have ck : k ≠ i := fun z => by rw [z, List.getElem?_set_self il] at hk; cases hk
    have cl : l ≠ i := fun z => by rw [z, List.getElem?_set_self il] at hl; cases hl
    rw [List.getElem?_set_ne (Ne.symm ck)] at hk
    rw [List.getElem?_set_ne (Ne.symm cl)] at hl
    exact e.ne k l as bs q n hk hl h1
theorem p_lendN {a : PV} {d : Nat} {me : PV → W PV} (h : ρ[i]? = some (.val a)) (he : ∀ b, EP K Z (ρ.set i (.val b)) te (me b)) : EP K Z ρ te (noX (lendN d a me)) := fun W0 W σ e Q Ψ Ξ hm k kx => by
  obtain ⟨u, h1, v, rfl, pv⟩ := e.sl i _ h
  obtain ⟨b, W1, Ψ1, g, eh, pb, z, un⟩ := lendN_go d a v W Ψ me e.ok pv hm
  rw [← eh]
  refine he b W0 W1 σ ((e.go g).reval h1 pb h) Q Ψ1 _ z (fun c u W2 g2 pc z2 => ?_) kx0
  obtain ⟨W3, g3, e5, p3, z3⟩ := un c u W2 g2 pc z2
  rw [← e5]
  exact k c u W3 g3 p3 z3
end
end SL
set_option maxHeartbeats 3200000
namespace SL
open PySem PySem.Spec PyProof.Rows L2 Evl NF WL
end SL
set_option maxHeartbeats 3200000
namespace SL
open PySem PySem.Spec PyProof.Rows L2 Evl NF WL
end SL
set_option maxHeartbeats 3200000
namespace SL
open PySem PySem.Spec PyProof.Rows L2 Evl NF WL
end SL
set_option maxHeartbeats 3200000
namespace SL
open PySem PySem.Spec PyProof.Rows L2 Evl NF WL
variable [PW]
def kinds0 : List String := ["NoneType", "bool", "int", "str", "list", "tuple", "dict"]
def oddB (n : String) : Option Bool := if n ∈ kinds0 then some false else none
theorem tab_odd {K : PySem.W.Frag} {c : Addr} (h : InsC K c) (k : PySem.W.kitOne K (.ref c) (.ref c) = some true) (o : PySem.W.kitOne K (.type "int") (.ref c) = some false) : TabOk K (.ref c) oddB [(c, true)] := by
  refine ⟨fun n r e => ?_, fun x hx => by
    rw [List.mem_singleton] at hx
    subst hx
    exact ⟨h, k⟩⟩
  unfold oddB at e
  split at e
  · rename_i hn
    cases e
    have ne : ∀ n : String, ((Value.type n) == (Value.ref c)) = false := fun n => rfl
    unfold PySem.W.kitOne at o ⊢
    rw [ne, if_neg (by decide)] at o ⊢
    unfold PySem.W.kitCls at o ⊢
    simp only at o ⊢
    split at o
    · rename_i hc
      rw [if_pos hc]
      unfold PySem.W.subIn
      simp only
      have z : ∀ n ∈ kinds0, (fastBuiltinMro n).map (·.contains (.ref c)) = some false := by
        intro n hn
        simp only [kinds0, List.mem_cons, List.not_mem_nil, or_false] at hn
        rcases hn with rfl | rfl | rfl | rfl | rfl | rfl | rfl <;> rfl
      exact z n hn
    · cases o
  · cases e
end SL
set_option maxHeartbeats 3200000
namespace SL
open PySem PySem.Spec PyProof.Rows L2 Evl NF WL
end SL
set_option maxHeartbeats 3200000
namespace SL
open PySem PySem.Spec PyProof.Rows L2 Evl NF WL
variable [PW]
def lendWO (L : PV → (PV → W (List PV)) → W (List PV)) : List PV → (List PV → W (List PV)) → W (List PV)
  | [], k => k []
  | a :: as, k => L a fun b => lendWO L as fun bs => k (b :: bs)
def lendNO : Nat → PV → (PV → W (List PV)) → W (List PV)
  | 0, a, k => k a
  | d + 1, a, k => match a with
    | .ptr p => fun S Ψ Ξ => ∃ as, S p = some (.lst as) ∧ lendWO (lendNO d) as (fun bs S1 Ψ1 _ => S1 p = some (.lst as) ∧ k (.lst bs) (rem S1 p) (fun cs S2 => S2 p = none → lights cs = true ∧ LightS S2 ∧ Ψ1 cs (put S2 p (.lst as))) fun _ _ => False) S Ψ Ξ
    | .lst as => lendWO (lendNO d) as fun bs => k (.lst bs)
    | .tup as => lendWO (lendNO d) as fun bs => k (.tup bs)
    | a => k a
section
variable {K : PySem.W.Frag} {Z : WX} {W0 Wa W1 W2 W3 : Wd} {σ : L2.St} {ρ : List Sl} {i j : Nat} {te : TE} {ms : W (List PV)} {L : PV → (PV → W (List PV)) → W (List PV)}
theorem rok_cut {H0 : Hp} {q : Addr} {us : List V} {as cs : List PV} {u : V} (hp : W2.r q = some (.lst us)) (lc : lights cs = true) (h : ∃ p, u = .ref p ∧ H0 p = none ∧ OwnOk K W2 p cs) : ∃ p, u = .ref p ∧ H0 p = none ∧ OwnOk K ⟨cutR W2.r q, W2.h, put W2.s q (.lst as)⟩ p cs := by
  obtain ⟨p, rfl, hq, vs, h1, h2, h3, h4⟩ := h
  have ne : p ≠ q := fun z => by rw [z, hp] at h2; cases h2
  refine ⟨p, rfl, hq, vs, h1, ?_, ?_, lights_p (R2 := cutR W2.r q) (fun x o n h => by rw [cutR_ne n]; exact h) hp lc h4⟩
  · show cutR W2.r q p = none
    rw [cutR_ne ne]
    exact h2
  · show put W2.s q _ p = none
    rw [put_ne ne]
    exact h3
def LNO (K : PySem.W.Frag) (L : PV → (PV → W (List PV)) → W (List PV)) : Prop := ∀ (H0 : Hp) (a : PV) (v : V) (Wa : Wd) (Ψ : List PV → Sto → Prop) (k : PV → W (List PV)), Ok K Wa → (mp K a).p Wa.r v → L a k Wa.s Ψ (fun _ _ => False) →
  ∃ b W1 Ψ1, Go K Wa W1 ∧ W1.h = Wa.h ∧ (mp K b).p W1.r v ∧ k b W1.s Ψ1 (fun _ _ => False) ∧ ∀ cs u W2, Go K W1 W2 → (∃ p, u = V.ref p ∧ H0 p = none ∧ OwnOk K W2 p cs) → Ψ1 cs W2.s → ∃ W3, Go K Wa W3 ∧ W3.h = W2.h ∧ (∃ p, u = V.ref p ∧ H0 p = none ∧ OwnOk K W3 p cs) ∧ Ψ cs W3.s
theorem lendWO_go (hL : LNO K L) : ∀ (H0 : Hp) (as : List PV) (vs : List V) (Wa : Wd) (Ψ : List PV → Sto → Prop) (k : List PV → W (List PV)), Ok K Wa → Al Wa.r vs (mps K as) → lendWO L as k Wa.s Ψ (fun _ _ => False) →
    ∃ bs W1 Ψ1, Go K Wa W1 ∧ W1.h = Wa.h ∧ Al W1.r vs (mps K bs) ∧ k bs W1.s Ψ1 (fun _ _ => False) ∧ ∀ cs u W2, Go K W1 W2 → (∃ p, u = V.ref p ∧ H0 p = none ∧ OwnOk K W2 p cs) → Ψ1 cs W2.s → ∃ W3, Go K Wa W3 ∧ W3.h = W2.h ∧ (∃ p, u = V.ref p ∧ H0 p = none ∧ OwnOk K W3 p cs) ∧ Ψ cs W3.s
  | H0, [], _, Wa, Ψ, k, o, .nil, h => ⟨[], Wa, Ψ, Go.id o, rfl, .nil, h, fun c u W2 g p z => ⟨W2, g, rfl, p, z⟩⟩
  | H0, a :: as, _, Wa, Ψ, k, o, .cons (v := v) (vs := vs) p al, h => by
    obtain ⟨b, W1, Ψ1, g1, h1, p1, z1, un1⟩ := hL H0 a v Wa Ψ _ o p h
    obtain ⟨bs, W2, Ψ2, g2, h2, al2, z2, un2⟩ := lendWO_go hL H0 as vs W1 Ψ1 _ g1.ok (al.mono g1.le.r) z1
    refine ⟨b :: bs, W2, Ψ2, g1.trans g2, by rw [h2, h1], .cons (MP.mono _ g2.le.r p1) al2, z2, fun c u W3 g p z => ?_⟩
    obtain ⟨W4, g4, h4, p4, z4⟩ := un2 c u W3 g p z
    obtain ⟨W5, g5, h5, p5, z5⟩ := un1 c u W4 g4 p4 z4
    exact ⟨W5, g5, by rw [h5, h4], p5, z5⟩
theorem lendO_id (H0 : Hp) : ∀ (a : PV) (v : V) (Wa : Wd) (Ψ : List PV → Sto → Prop) (k : PV → W (List PV)), Ok K Wa → (mp K a).p Wa.r v → k a Wa.s Ψ (fun _ _ => False) →
    ∃ b W1 Ψ1, Go K Wa W1 ∧ W1.h = Wa.h ∧ (mp K b).p W1.r v ∧ k b W1.s Ψ1 (fun _ _ => False) ∧ ∀ cs u W2, Go K W1 W2 → (∃ p, u = V.ref p ∧ H0 p = none ∧ OwnOk K W2 p cs) → Ψ1 cs W2.s → ∃ W3, Go K Wa W3 ∧ W3.h = W2.h ∧ (∃ p, u = V.ref p ∧ H0 p = none ∧ OwnOk K W3 p cs) ∧ Ψ cs W3.s :=
  fun a v Wa Ψ k o p h => ⟨a, Wa, Ψ, Go.id o, rfl, p, h, fun c u W2 g p z => ⟨W2, g, rfl, p, z⟩⟩
theorem lendNO_go : ∀ d : Nat, LNO K (lendNO d)
  | 0 => fun H0 => lendO_id H0
  | d + 1 => fun H0 a v Wa Ψ k o p h => by
    cases a with
    | ptr q =>
      obtain ⟨as, hs, z⟩ := h
      obtain ⟨rq, us, hv, al⟩ := o.cell q _ hs
      cases p
      obtain ⟨bs, W1, Ψ1, g, eh, al1, ⟨hs1, zk⟩, un⟩ := lendWO_go (lendNO_go d) H0 as us Wa Ψ _ o al z
      have hv1 : W1.h q = some (.lst us) := by rw [eh]; exact hv
      have g1 := calm_cell g.ok hs1 hv1
      refine ⟨.lst bs, _, _, g.trans g1, eh, ⟨q, us, rfl, upd_same, al1.mono g1.le.r⟩, zk, fun c u W2 g2 pc hz => ?_⟩
      have hp : W2.r q = some (.lst us) := g2.le.r _ _ upd_same
      have hn : W2.s q = none := by
        cases e : W2.s q with
        | none => rfl
        | some c => rw [(g2.ok.cell q c e).1] at hp; cases hp
      obtain ⟨lc, ls, z2⟩ := hz hn
      exact un c u ⟨cutR W2.r q, W2.h, put W2.s q (.lst as)⟩ (un_cell g.ok hs1 hv1 (al.mono g.le.r) g2 ls) (rok_cut hp lc pc) z2
    | lst as =>
      obtain ⟨q, vs, rfl, hq, al⟩ := p
      obtain ⟨bs, W1, Ψ1, g, eh, al1, zk, un⟩ := lendWO_go (lendNO_go d) H0 as vs Wa Ψ _ o al h
      exact ⟨.lst bs, W1, Ψ1, g, eh, ⟨q, vs, rfl, g.le.r _ _ hq, al1⟩, zk, un⟩
    | tup as =>
      obtain ⟨q, vs, rfl, hq, al⟩ := p
      obtain ⟨bs, W1, Ψ1, g, eh, al1, zk, un⟩ := lendWO_go (lendNO_go d) H0 as vs Wa Ψ _ o al h
      exact ⟨.tup bs, W1, Ψ1, g, eh, ⟨q, vs, rfl, ex_t g.le.r hq, al1⟩, zk, un⟩
    | _ => exact lendO_id H0 _ v Wa Ψ k o p h
theorem o_lendN {a : PV} {d : Nat} {me : PV → W (List PV)} (h : ρ[i]? = some (.val a)) (he : ∀ b, EO K Z (ρ.set i (.val b)) te (me b)) : EO K Z ρ te (noX (lendNO d a me)) := fun W0 W σ e Q Ψ Ξ hm k kx => by
  obtain ⟨u, h1, v, rfl, pv⟩ := e.sl i _ h
  obtain ⟨b, W1, Ψ1, g, eh, pb, z, un⟩ := lendNO_go d W.h a v W Ψ me e.ok pv hm
  rw [← eh]
  refine he b W0 W1 σ ((e.go g).reval h1 pb h) Q Ψ1 _ z (fun c u W2 g2 pc z2 => ?_) kx0
  have pc : ∃ p, u = V.ref p ∧ W.h p = none ∧ OwnOk K W2 p c := by
    obtain ⟨p, e1, e2, e3⟩ := pc
    exact ⟨p, e1, by rw [← eh]; exact e2, e3⟩
  obtain ⟨W3, g3, e5, p3, z3⟩ := un c u W2 g2 pc z2
  rw [← e5]
  exact k c u W3 g3 p3 z3
end
end SL
set_option maxHeartbeats 3200000
namespace SL
open PySem PySem.Spec PyProof.Rows L2 Evl NF WL
end SL
namespace SL
open PySem PySem.Spec PyProof.Rows L2 Evl NF WL
variable [PW]
def addOwn (as : List PV) (mb : W PV) : W (List PV) := bind mb fun b => lift (addL (.lst as) b)
@[simp] theorem r_addOwn (as : List PV) (b : PV) : addOwn as (ret b) = lift (addL (.lst as) b) := rfl
end SL
set_option maxHeartbeats 3200000
namespace SL
open PySem PySem.Spec PyProof.Rows L2 Evl NF WL
end SL
set_option maxHeartbeats 4000000
namespace B61
open PySem SL
def B_Sheet___init__ (ca : Nat → Addr) (v1self : Addr) (v2rows : PV) : W (Fl Unit) :=
  (SL.bind (noX (lendN 3 v2rows fun v3rows => (callW (ar1 (NT.F_check_rows ca)) [] (vcons (SL.ret v3rows) vnil)))) fun _ =>
  (SL.bindF (SL.bind (setl (noX (lendNO 3 v2rows fun v5rows => (cbO listF (vcons (SL.ret v5rows) vnil))))) fun a => SL.bind (newFld v1self (ca 1) "kept_rows" a) fun _ => SL.ret (.nx ())) fun _ => SL.ret (.nx ())))
def F_Sheet___init__ (ca : Nat → Addr) (v1s : PV) (v2rows : PV) : W RV := withP v1s fun v1self => runF (B_Sheet___init__ ca v1self v2rows)
def B_Sheet___eq__ (ca : Nat → Addr) (v1self : PV) (v2other : PV) : W (Fl Unit) :=
  (SL.bind (notT (tst (op1 (isiF oddB [(ca 1, true)]) (SL.ret v2other)))) fun v5b => if v5b = true then SL.bindF (S := Empty) (T := Unit) (SL.bind (SL.ret (.bl false)) fun v3r => SL.ret (.rt (.v v3r))) (fun s => s.elim) else (
  (SL.bind (op2 eqF (fldW (ca 1) "kept_rows" (SL.ret v1self)) (fldW (ca 1) "kept_rows" (SL.ret v2other))) fun v4r => SL.ret (.rt (.v v4r))) : W (Fl (Unit))))
def F_Sheet___eq__ (ca : Nat → Addr) (v1self : PV) (v2other : PV) : W RV := runF (B_Sheet___eq__ ca v1self v2other)
def L__law_steps_1 (ca : Nat → Addr)  (v5x : PV) (v4s : List PV) : W (Fl (List PV)) :=
  (SL.bindF (SL.bind (tst (op2 eqF (op2 ixF (SL.ret v5x) (SL.ret (.int 0))) (SL.ret (.str (PySem.Str.ofString "mark"))))) fun v12b => if v12b = true then ((SL.bindF (SL.bind (SL.ret (.int 0)) fun a => SL.bind (SL.lift (if (v4s : List PV).length < 100000 then some (v4s ++ [a]) else none)) fun bs => SL.ret (.nx bs)) fun v7s => SL.ret (.nx v7s)) : W (Fl (List PV))) else (SL.bindF (SL.bind (tst (op2 (inSF false) (op2 ixF (SL.ret v5x) (SL.ret (.int 0))) (setl (lstO (vcons (SL.ret (.str (PySem.Str.ofString "least"))) (vcons (SL.ret (.str (PySem.Str.ofString "most"))) vnil)))))) fun v11b => if v11b = true then ((SL.bindF (SL.bind (lend (cb max2F (vcons (op2 ixF (SL.ret (.lst v4s)) (op2 ixF (SL.ret v5x) (SL.ret (.int 1)))) (vcons (op2 ixF (SL.ret (.lst v4s)) (op2 ixF (SL.ret v5x) (SL.ret (.int 2)))) vnil)))) fun a => SL.bind (SL.lift (if (v4s : List PV).length < 100000 then some (v4s ++ [a]) else none)) fun bs => SL.ret (.nx bs)) fun v9s => SL.ret (.nx v9s)) : W (Fl (List PV))) else (SL.bindF (SL.bind (lend (op2 addF (op2 ixF (SL.ret (.lst v4s)) (op2 ixF (SL.ret v5x) (SL.ret (.int 1)))) (cb intF (vcons (op2 eqF (op2 ixF (SL.ret v5x) (SL.ret (.int 0))) (SL.ret (.str (PySem.Str.ofString "next")))) vnil)))) fun a => SL.bind (SL.lift (if (v4s : List PV).length < 100000 then some (v4s ++ [a]) else none)) fun bs => SL.ret (.nx bs)) fun v10s => SL.ret (.nx v10s))) fun v8s => SL.ret (.nx v8s))) fun v6s => SL.ret (.nx v6s))
def B__law_steps (ca : Nat → Addr) (v1rows : PV) : W (Fl Unit) :=
  (SL.bind (lstO vnil) fun v2found =>
  (SL.bindF (SL.bind (itL (SL.ret v1rows)) fun as => forW some (L__law_steps_1 ca) as v2found) fun v3s =>
  (SL.ret (.rt (.o v3s)))))
def F__law_steps (ca : Nat → Addr) (v1rows : PV) : W RV := runF (B__law_steps ca v1rows)
def B__law_looks_right (ca : Nat → Addr) (v1sheet : PV) (v2rows : PV) : W (Fl Unit) :=
  (SL.bind (orT (tst (op2 neF (cb repF (vcons (setl (methO (ca 1) "rows" (ar1 (NT.F_Sheet_rows ca)) (SL.ret v1sheet) vnil)) vnil)) (cb repF (vcons (SL.ret v2rows) vnil)))) (orT (tst (op2 neF (cb repF (vcons (setl (methO (ca 1) "steps" (ar1 (NT.F_Sheet_steps ca)) (SL.ret v1sheet) vnil)) vnil)) (cb repF (vcons (setl (callO (ar1 (F__law_steps ca)) [] (vcons (SL.ret v2rows) vnil))) vnil)))) (tst (op2 neF (lenOW (ca 1) (ar1 (NT.F_Sheet___len__ ca)) (SL.ret v1sheet)) (cb lenF (vcons (SL.ret v2rows) vnil)))))) fun v5b => if v5b = true then SL.bindF (S := Empty) (T := Unit) (SL.bind (SL.ret (.bl false)) fun v3r => SL.ret (.rt (.v v3r))) (fun s => s.elim) else (
  (SL.bind (andV (op2 eqF (op1 (repOF (ca 1) nsS txS) (SL.ret v1sheet)) (op2 addF (op2 addF (SL.ret (.str (PySem.Str.ofString "Sheet("))) (cb strIF (vcons (cb lenF (vcons (SL.ret v2rows) vnil)) vnil))) (SL.ret (.str (PySem.Str.ofString " rows)"))))) (op2 eqF (strOW (ca 1) (ar1 (NT.F_Sheet___str__ ca)) (SL.ret v1sheet)) (op1 (repOF (ca 1) nsS txS) (SL.ret v1sheet)))) fun v4r => SL.ret (.rt (.v v4r))) : W (Fl (Unit))))
def F__law_looks_right (ca : Nat → Addr) (v1sheet : PV) (v2rows : PV) : W RV := runF (B__law_looks_right ca v1sheet v2rows)
def L_law_1 (ca : Nat → Addr) (v6rows : PV) (v15held : PV) (v18x : PV) (v17s : Unit) : W (Fl (Unit)) :=
  (SL.bindF (SL.bind (orT (notT (tst (callW (ar2 (F__law_looks_right ca)) [] (vcons (SL.ret v18x) (vcons (SL.ret v6rows) vnil))))) (tst (noX (lendN 3 v15held fun v20held => (op2 neF (SL.ret v20held) (setl (lstO (vcons (op2 addF (SL.ret v6rows) (setl (lstO (vcons (SL.ret .non) vnil)))) (vcons (setl (lstO vnil)) vnil))))))))) fun v22b => if v22b = true then ((SL.bind (SL.ret (.bl false)) fun v21r => SL.ret (.rt (.v v21r))) : W (Fl (Unit))) else (SL.ret (.nx ()))) fun _ => SL.ret (.nx ()))
def L_law_2 (ca : Nat → Addr) (v8sheet : PV) (v6rows : PV) (v27x : PV) (v26s : Unit) : W (Fl (Unit)) :=
  (SL.bindF (SL.bind (orT (tst (op2 neF (eqAW (ca 1) (ar2 (F_Sheet___eq__ ca)) (SL.ret v8sheet) (makeW (ca 1) (ar2 (F_Sheet___init__ ca)) [] (vcons (SL.ret v27x) vnil))) (op2 eqF (SL.ret v27x) (SL.ret v6rows)))) (tst (op2 neF (eqAW (ca 1) (ar2 (F_Sheet___eq__ ca)) (makeW (ca 1) (ar2 (F_Sheet___init__ ca)) [] (vcons (SL.ret v27x) vnil)) (SL.ret v8sheet)) (op2 eqF (SL.ret v27x) (SL.ret v6rows))))) fun v30b => if v30b = true then ((SL.bind (SL.ret (.bl false)) fun v29r => SL.ret (.rt (.v v29r))) : W (Fl (Unit))) else (SL.ret (.nx ()))) fun _ => SL.ret (.nx ()))
def L_law_3 (ca : Nat → Addr) (v8sheet : PV) (v33x : PV) (v32s : Unit) : W (Fl (Unit)) :=
  (SL.bindF (SL.bind (orT (tst (op2 (isbF true) (eqAW (ca 1) (ar2 (F_Sheet___eq__ ca)) (SL.ret v8sheet) (SL.ret v33x)) (SL.ret (.bl false)))) (tst (inOW false (ca 1) (ar2 (F_Sheet___eq__ ca)) (SL.ret v8sheet) (setl (lstO (vcons (SL.ret v33x) vnil)))))) fun v36b => if v36b = true then ((SL.bind (SL.ret (.bl false)) fun v35r => SL.ret (.rt (.v v35r))) : W (Fl (Unit))) else (SL.ret (.nx ()))) fun _ => SL.ret (.nx ()))
def L_law_4 (ca : Nat → Addr) (v1script : PV) (v4x : PV) (v3s : Unit) : W (Fl (Unit)) :=
  (SL.bind (bag2W (callO (ar2 SL.bagW) [] (vcons (SL.ret v1script) (vcons (SL.ret v4x) vnil)))) fun v5baghere =>
  (SL.bind (setl (callO (ar3 (LW.F__law_tests ca)) [] (vcons (SL.ret v5baghere) (vcons (setl (lstO (vcons (callW (ar1 (LW.F__law_word ca)) [] (vcons (SL.ret v5baghere) vnil)) (vcons (SL.ret (.str (PySem.Str.ofString "a"))) vnil)))) (vcons (op2 addF (SL.ret (.int 1)) (callW (ar2 SL.outW) [] (vcons (SL.ret v5baghere) (vcons (SL.ret (.int 60)) vnil)))) vnil))))) fun v6rows =>
  (SL.bind (cellW (cbO listF (vcons (SL.ret v6rows) vnil))) fun v7handed =>
  (SL.bind (makeW (ca 1) (ar2 (F_Sheet___init__ ca)) [] (vcons (SL.ret v7handed) vnil)) fun v8sheet =>
  (SL.bind (makeW (ca 1) (ar2 (F_Sheet___init__ ca)) [] (vcons (SL.ret v7handed) vnil)) fun v9twin =>
  (SL.bind (callW (ar2 SL.outW) [] (vcons (SL.ret v5baghere) (vcons (cb lenF (vcons (SL.ret v6rows) vnil)) vnil))) fun v10at =>
  (SL.bind (op2 addF (op2 addF (setl (cutO (SL.ret v6rows) noPart (partW (SL.ret v10at)))) (setl (lstO (vcons (tupW (vcons (SL.ret (.str (PySem.Str.ofString "mark"))) (vcons (SL.ret (.str (PySem.Str.ofString "zzzz"))) vnil))) vnil)))) (setl (cutO (SL.ret v6rows) (partW (op2 addF (SL.ret v10at) (SL.ret (.int 1)))) noPart))) fun v11bent =>
  (SL.bind (makeW (ca 1) (ar2 (F_Sheet___init__ ca)) [] (vcons (SL.ret v11bent) vnil)) fun v12other =>
  (SL.bind (orT (notT (tst (callW (ar2 (F__law_looks_right ca)) [] (vcons (SL.ret v8sheet) (vcons (SL.ret v6rows) vnil))))) (tst (noX (lendN 3 v7handed fun v13handed => (op2 neF (SL.ret v13handed) (SL.ret v6rows)))))) fun v39b => if v39b = true then SL.bindF (S := Empty) (T := Unit) (SL.bind (SL.ret (.bl false)) fun v14r => SL.ret (.rt (.v v14r))) (fun s => s.elim) else (
  (SL.bind (cellW (lstO (vcons (cellW (methO (ca 1) "rows" (ar1 (NT.F_Sheet_rows ca)) (SL.ret v8sheet) vnil)) (vcons (cellW (methO (ca 1) "steps" (ar1 (NT.F_Sheet_steps ca)) (SL.ret v8sheet) vnil)) vnil)))) fun v15held =>
  (SL.bind (ixC (SL.ret v15held) (SL.ret (.int 0))) fun o => SL.bind (look (isLC o)) fun _ => SL.bind (SL.ret .non) fun a => SL.bind (pushC o a) fun _ => 
  (SL.bind (ixC (SL.ret v15held) (SL.ret (.int 1))) fun o => SL.bind (turnC (fun _ => []) o) fun _ => 
  (SL.bind (SL.ret v7handed) fun o => SL.bind (turnC (fun _ => []) o) fun _ => 
  (SL.bindF (SL.bind (itL (setl (lstO (vcons (SL.ret v8sheet) (vcons (SL.ret v9twin) vnil))))) fun as => forW some (L_law_1 ca v6rows v15held) as ()) fun _ =>
  (SL.bind (orT (notT (tst (callW (ar2 (F__law_looks_right ca)) [] (vcons (SL.ret v12other) (vcons (SL.ret v11bent) vnil))))) (orT (tst (op2 (isbF true) (eqAW (ca 1) (ar2 (F_Sheet___eq__ ca)) (SL.ret v8sheet) (SL.ret v9twin)) (SL.ret (.bl true)))) (tst (op2 (isbF true) (eqAW (ca 1) (ar2 (F_Sheet___eq__ ca)) (SL.ret v9twin) (SL.ret v8sheet)) (SL.ret (.bl true)))))) fun v38b => if v38b = true then SL.bindF (S := Empty) (T := Unit) (SL.bind (SL.ret (.bl false)) fun v23r => SL.ret (.rt (.v v23r))) (fun s => s.elim) else (
  (SL.bind (orT (tst (op2 neF (eqAW (ca 1) (ar2 (F_Sheet___eq__ ca)) (SL.ret v8sheet) (SL.ret v12other)) (op2 eqF (SL.ret v11bent) (SL.ret v6rows)))) (orT (tst (op2 neF (eqAW (ca 1) (ar2 (F_Sheet___eq__ ca)) (SL.ret v12other) (SL.ret v8sheet)) (op2 eqF (SL.ret v11bent) (SL.ret v6rows)))) (tst (inOW true (ca 1) (ar2 (F_Sheet___eq__ ca)) (SL.ret v8sheet) (setl (lstO (vcons (SL.ret .non) (vcons (SL.ret v9twin) vnil)))))))) fun v37b => if v37b = true then SL.bindF (S := Empty) (T := Unit) (SL.bind (SL.ret (.bl false)) fun v24r => SL.ret (.rt (.v v24r))) (fun s => s.elim) else (
  (SL.bindF (SL.bind (itL (setl (lstO (vcons (setl (cutO (SL.ret v6rows) noPart (partW (SL.ret (.int 1))))) (vcons (op2 addF (SL.ret v6rows) (setl (lstO (vcons (tupW (vcons (SL.ret (.str (PySem.Str.ofString "not"))) (vcons (SL.ret (.int 0)) vnil))) vnil)))) vnil))))) fun as => forW some (L_law_2 ca v8sheet v6rows) as ()) fun _ =>
  (SL.bindF (SL.bind (itL (setl (lstO (vcons (SL.ret .non) (vcons (SL.ret (.int 0)) (vcons (op1 (repOF (ca 1) nsS txS) (SL.ret v8sheet)) (vcons (SL.ret v6rows) (vcons (tupOf (vcons (SL.ret v6rows) vnil)) (vcons (setl (lstO (vcons (SL.ret v8sheet) vnil))) (vcons (SL.ret (.dic [] [])) (vcons (SL.ret (.bl true)) (vcons (SL.ret (.str (PySem.Str.ofString "mark"))) (vcons (SL.ret v11bent) vnil))))))))))))) fun as => forW some (L_law_3 ca v8sheet) as ()) fun _ => SL.ret (.nx ()))) : W (Fl (Unit)))) : W (Fl (Unit))))))))) : W (Fl (Unit))))))))))))
def B_law (ca : Nat → Addr) (v1script : PV) : W (Fl Unit) :=
  (SL.bindF (SL.bind (itR (vcons (cb max2F (vcons (SL.ret (.int 1)) (vcons (cb min2F (vcons (cb lenF (vcons (SL.ret v1script) vnil)) (vcons (SL.ret (.int 20)) vnil))) vnil))) vnil)) fun as => forW some (L_law_4 ca v1script) as ()) fun _ =>
  (SL.bind (SL.ret (.bl true)) fun v40r => SL.ret (.rt (.v v40r))))
def F0_law (ca : Nat → Addr) (v1script : PV) : W RV := runF (B_law ca v1script)
def F_law (ca : Nat → Addr) (v1script : PV) : W RV := scopeW (F0_law ca v1script)
end B61
namespace B61
open PySem PySem.Spec PyProof.Rows L2 Evl NF
def topS (i : Nat) : Stmt := PySem.Challenge.pw_neartwins_k61_sheets_told.main.body.getD i (.Pass ⟨0, 0, 0, 0⟩)
abbrev s__law_bag : Stmt := topS 24
theorem sc__law_bag : FnScope ["_law_script", "_law_k", "_law_cell", "_law_great"] ["_law_script", "_law_k"] (defScope s__law_bag) := ⟨rfl, rfl, rfl, by decide +kernel, rfl, by decide +kernel, by decide +kernel⟩
abbrev s__law_out : Stmt := topS 25
theorem sc__law_out : FnScope ["_law_bag_here", "_law_many", "_law_found"] ["_law_bag_here", "_law_many"] (defScope s__law_out) := ⟨rfl, rfl, rfl, by decide +kernel, rfl, by decide +kernel, by decide +kernel⟩
section
variable [PW] {P : Program} {w : World} {K : PySem.W.Frag} {mg : Str → Option Value} {base : Heap} {f : Addr} {fd : FuncData}
theorem ok_bag (F : Fun K "_law_bag" "_law_bag" s__law_bag f fd) (n_len : mg "len" = none) : FnOk P w K mg base CX0 1 f fd ["_law_script", "_law_k"] (spBag K) := by
  refine F.ok sc__law_bag (fun vs H Q E h => ?_) (fun cdv A outer s H vs Q E hr h => ?_)
  · obtain ⟨_, _, _, rfl, _⟩ := h
    rfl
  · obtain ⟨a, ns, k, rfl, ha, hl, hk, q⟩ := h
    refine ⟨_, (pss_cons (ps_set (i := 2) sc__law_bag.nd rfl (.inl rfl) pe_int)
      (pss_cons (ps_if (pt_cmpR op_lt (pv 1) (pe_callB call_len_seq (by rfl) n_len PySem.boot_len (pa_cons (pv 0) pa_nil)) (nomark _)) (pss_one (ps_set (i := 2) sc__law_bag.nd rfl (.inl rfl) (pe_ix ix_list (pv 0) (pv 1) (fun _ _ => rfl)))) pss_nil)
      (pss_cons (ps_set (i := 3) sc__law_bag.nd rfl (.inl rfl) pe_int)
      (pss_cons (ps_if (pt_cmpR op_ge (pv 2) (pe_op op_pow pe_int pe_int) (nomark _)) (pss_one (ps_set (i := 3) sc__law_bag.nd rfl (.inl rfl) (pv 2))) pss_nil)
      (pss_one (ps_ret (pe_lst (pa_cons (pv 3) (pa_cons (pe_op op_modN (pe_op op_pow (pe_op op_add (pe_op op_add (pe_op op_modN (pv 2) pe_int) (pe_op op_mul pe_int (pv 1))) pe_int) pe_int) pe_int) pa_nil))))))))), ?_⟩
    refine q_asg ev_c fun H1 e1 => ?_
    refine q_ifAsg (v := .int (ns.getD k 0)) (et_test (ev_op (ev_var rfl) (ev_len (ev_var rfl) (ex_l e1 ha)) rv_I0)) (fun hb => ?_) (fun hb => ?_) fun H2 e2 => ?_
    · have hlt : k < ns.length := by
        have := of_decide_eq_true hb
        rw [List.length_map] at this
        omega
      refine ev_op (ev_var rfl) (ev_var rfl) (rv_ixL (ex_l e1 ha) (atI_nat ?_))
      rw [List.getElem?_map, List.getElem?_eq_getElem hlt, List.getD_eq_getElem?_getD, List.getElem?_eq_getElem hlt]
      rfl
    · have hlt : ¬ k < ns.length := fun z => of_decide_eq_false hb (by rw [List.length_map]; omega)
      rw [List.getD_eq_getElem?_getD, List.getElem?_eq_none (by omega)]
      rfl
    generalize ns.getD k 0 = c
    refine q_asg ev_c fun H3 e3 => ?_
    refine q_ifAsg (v := .int (if 10 ^ 18 ≤ c then c else 0)) (et_test (ev_op (ev_var rfl) (ev_op ev_c ev_c (rv_I ⟨by decide, by decide, by decide⟩)) rv_I0)) (fun hb => ?_) (fun hb => ?_) fun H4 e4 => ?_
    · have hc : (10 : Int) ^ 18 ≤ c := of_decide_eq_true hb
      rw [if_pos hc]
      exact ev_var rfl
    · have hc : ¬ (10 : Int) ^ 18 ≤ c := of_decide_eq_false hb
      rw [if_neg hc]
      rfl
    have m0 : 0 ≤ c.fmod 998244353 := Int.fmod_nonneg_of_pos _ (by decide)
    have m1 : c.fmod 998244353 < 998244353 := Int.fmod_lt_of_pos _ (by decide)
    refine s_retL (el_lst (ea_cons (ev_var rfl) (ea_cons (ev_op (ev_op (ev_op (ev_op (ev_op (ev_var rfl) ev_c (rv_I (by decide))) (ev_op ev_c (ev_var rfl) (rv_I (.inl ⟨by decide, by decide⟩))) rv_I0) ev_c rv_I0) ev_c (rv_I (C := CPow) (g := fun i j => .int (i ^ j.toNat)) ⟨by decide, by decide, by omega⟩)) ev_c (rv_I (by decide))) ea_nil)) (by show 2 ≤ 100000; decide)) fun p H5 np e5 hp => ?_
    have E4 := ((e1.trans e2).trans e3).trans e4
    exact q p H5 (fresh_back E4 np) (E4.trans e5) ⟨_, _, hp⟩
theorem ok_out (F : Fun K "_law_out" "_law_out" s__law_out f fd) : FnOk P w K mg base CX0 1 f fd ["_law_bag_here", "_law_many"] spOut := by
  refine F.ok sc__law_out (fun vs H Q E h => ?_) (fun cdv A outer s H vs Q E hr h => ?_)
  · obtain ⟨_, _, rfl, _⟩ := h
    rfl
  · obtain ⟨st, many, rfl, ⟨g, m, hs⟩, h0, hm, q⟩ := h
    refine ⟨_, (pss_cons (ps_if (pt_cmpR op_gt (pe_ix ix_list (pv 0) pe_int (fun _ _ => rfl)) pe_int (nomark _)) (pss_cons (ps_set (i := 2) sc__law_out.nd rfl (.inl rfl) (pe_op op_modN (pe_ix ix_list (pv 0) pe_int (fun _ _ => rfl)) (pv 1)))
      (pss_cons (ps_asg (pe_op op_fdivX (pe_ix ix_list (pv 0) pe_int (fun _ _ => rfl)) (pv 1)) (pg_sub (pv 0) pe_int set_list))
      (pss_one (ps_ret (pv 2))))) pss_nil)
      (pss_cons (ps_asg (pe_op op_modN (pe_op op_add (pe_op op_mul (pe_ix ix_list (pv 0) pe_int (fun _ _ => rfl)) pe_int) pe_int) pe_int) (pg_sub (pv 0) pe_int set_list))
      (pss_one (ps_ret (pe_op op_modN (pe_op op_fdivX (pe_op op_modN (pe_op op_mul (pe_ix ix_list (pv 0) pe_int (fun _ _ => rfl)) (pe_op op_add (pe_op op_fdivX (pe_ix ix_list (pv 0) pe_int (fun _ _ => rfl)) pe_int) pe_int)) pe_int) pe_int) (pv 1)))))), ?_⟩
    have i0 : ∀ {σ : L2.St} {H : Hp} {a b : V}, σ[0]? = some (some (.ref st)) → H st = some (.lst [a, b]) → Ev (tOp (rIxL K) (tVar 0) (tC (.int 0))) σ H a := fun hσ h => ev_op (ev_var hσ) ev_c (rv_ixL (SqL.of h) (atI_nat (j := 0) rfl))
    have i1 : ∀ {σ : L2.St} {H : Hp} {a b : V}, σ[0]? = some (some (.ref st)) → H st = some (.lst [a, b]) → Ev (tOp (rIxL K) (tVar 0) (tC (.int 1))) σ H b := fun hσ h => ev_op (ev_var hσ) ev_c (rv_ixL (SqL.of h) (atI_nat (j := 1) rfl))
    have mb : many.natAbs < 2 ^ 60 := by omega
    refine q_when (et_test (ev_op (i0 rfl hs) ev_c rv_I0)) (fun hb H1 x1 => ?_) fun hb H1 x1 => ?_
    · refine q_asg (ev_op (i0 rfl (x1 _ _ hs)) (ev_var rfl) (rv_I (Int.ne_of_gt h0))) fun H2 x2 => ?_
      refine q_setL (j := 0) ((x1.trans x2) _ _ hs) (ev_op (i0 rfl ((x1.trans x2) _ _ hs)) (ev_var rfl) (rv_I (divX (Int.ne_of_gt h0) mb (by decide) (by decide)))) (ev_var rfl) ev_c (by show 0 < 2; decide) fun H3 x3 => ?_
      exact s_ret (ev_var rfl) fun H5 x5 => q _ H5 (Int.fmod_nonneg_of_pos g h0) (Int.fmod_lt_of_pos g h0) ⟨_, _, x5 _ _ upd_same⟩ (((ExS.of ((x1.trans x2).trans x3)).trans ExS.upd).trans (ExS.of x5))
    · have p0 : 0 ≤ (m * 40692 + 12345).fmod 2147483399 := Int.fmod_nonneg_of_pos _ (by decide)
      have p1 : (m * 40692 + 12345).fmod 2147483399 < 2147483399 := Int.fmod_lt_of_pos _ (by decide)
      refine q_setL (j := 1) (x1 _ _ hs) (ev_op (ev_op (ev_op (i1 rfl (x1 _ _ hs)) ev_c (rv_I (.inr ⟨by decide, by decide⟩))) ev_c rv_I0) ev_c (rv_I (by decide))) (ev_var rfl) ev_c (by show 1 < 2; decide) fun H3 x3 => ?_
      refine s_ret (ev_op (ev_op (ev_op (ev_op (i1 rfl upd_same) (ev_op (ev_op (i1 rfl upd_same) ev_c (rv_I (divX (b := 11) (by decide) (by decide) (by decide) (by decide)))) ev_c rv_I0) (rv_I (.inl ⟨by omega, by omega⟩))) ev_c (rv_I (by decide))) ev_c (rv_I (divX (b := 6) (by decide) (by decide) (by decide) (by decide)))) (ev_var rfl) (rv_I (Int.ne_of_gt h0))) fun H5 x5 => ?_
      exact q _ H5 (Int.fmod_nonneg_of_pos _ h0) (Int.fmod_lt_of_pos _ h0) ⟨_, _, x5 _ _ upd_same⟩ (((ExS.of (x1.trans x3)).trans ExS.upd).trans (ExS.of x5))
/-- the law's bag by our promises -/
theorem ok__law_bag (F : Fun K "_law_bag" "_law_bag" s__law_bag f fd) (n_len : mg "len" = none) : FnOk P w K mg base CX0 1 f fd ["_law_script", "_law_k"] (SL.spW K (SL.ar2 SL.bagW)) := SL.FnOk.sub (ok_bag F n_len) SL.sub_bag
theorem ok__law_out (F : Fun K "_law_out" "_law_out" s__law_out f fd) : FnOk P w K mg base CX0 1 f fd ["_law_bag_here", "_law_many"] (SL.spW K (SL.ar2 SL.outW)) := SL.FnOk.sub (ok_out F) SL.sub_out
end
end B61
set_option maxHeartbeats 4000000
namespace B61
open PySem PySem.Spec PyProof.Rows L2 Evl NF WL SL
abbrev s_is_whole : Stmt := topS 5
theorem sc_is_whole : FnScope ["thing"] ["thing"] (defScope s_is_whole) := ⟨rfl, rfl, rfl, by decide +kernel, rfl, by decide +kernel, by decide +kernel⟩
theorem ok_is_whole [PW] {K : PySem.W.Frag} {mg : Str → Option Value} {base : Heap} {f : Addr} {fd : FuncData} {ca : Nat → Addr} (Fn : Fun K "is_whole" "is_whole" s_is_whole f fd) (n_bool : mg "bool" = none) (n_int : mg "int" = none) (n_isinstance : mg "isinstance" = none) : FnOk PW.P PW.w K mg base CX0 1 f fd ["thing"] (spW K (ar1 (NT.F_is_whole ca))) := by
  refine foW (k := 0) Fn sc_is_whole (by decide) le_ar1 fun cdv A outer s H E hr => ⟨_, (pss_one (ps_ret (pe_and (pe_callB (call_isP (K := K) rfl) (by rfl) n_isinstance PyProof.Rows.boot_isinstance (pa_cons (pv 0) (pa_cons (c_ty (n := "int") n_int (by rfl) (by decide +kernel) (by decide)) pa_nil))) (pe_one (pe_not (pe_callB (call_isP (K := K) rfl) (by rfl) n_isinstance PyProof.Rows.boot_isinstance (pa_cons (pv 0) (pa_cons (c_ty (n := "bool") n_bool (by rfl) (by decide +kernel) (by decide)) pa_nil)))))))), fun as S Ψ Ξ h => ?_⟩
  obtain ⟨v1thing, rfl, h⟩ := ar1_inv h
  exact ⟨NT.B_is_whole ca v1thing, h,
  (show GP K _ [.val v1thing] _ _ _ from (gp_ret (p_and (p_isi (.ty _) tab_b (ep_var rfl)) (p_not (p_isi (.ty _) tab_b (ep_var rfl))))))⟩
abbrev s_is_whole_within : Stmt := topS 6
theorem sc_is_whole_within : FnScope ["thing", "least", "most"] ["thing", "least", "most"] (defScope s_is_whole_within) := ⟨rfl, rfl, rfl, by decide +kernel, rfl, by decide +kernel, by decide +kernel⟩
theorem ok_is_whole_within [PW] {K : PySem.W.Frag} {mg : Str → Option Value} {base : Heap} {f : Addr} {fd : FuncData} {ca : Nat → Addr} (Fn : Fun K "is_whole_within" "is_whole_within" s_is_whole_within f fd) (C_is_whole : Cal PW.P PW.w K mg base 1 "is_whole" ["thing"] [] (spW K (ar1 (NT.F_is_whole ca)))) : FnOk PW.P PW.w K mg base CX0 2 f fd ["thing", "least", "most"] (spW K (ar3 (NT.F_is_whole_within ca))) := by
  refine foW (k := 1) Fn sc_is_whole_within (by decide) le_ar3 fun cdv A outer s H E hr => ⟨_, (pss_one (ps_ret (pe_and (pe_cal C_is_whole hr (by decide) (by rfl) (pa_cons (pv 0) pa_nil)) (pe_one (pe_chain op_leU op_leU (pv 1) (pv 0) (pv 2)))))), fun as S Ψ Ξ h => ?_⟩
  obtain ⟨v1thing, v2least, v3most, rfl, h⟩ := ar3_inv h
  exact ⟨NT.B_is_whole_within ca v1thing v2least v3most, h,
  (show GP K _ [.val v1thing, .val v2least, .val v3most] _ _ _ from (gp_ret (p_and (p_call (fun _ => .nil) (v_cons (ep_var rfl) v_nil)) (p_chain ow_leU ow_leU (ep_var rfl) (ep_var rfl) (ep_var rfl)))))⟩
abbrev s_greatest_divisor : Stmt := topS 7
theorem sc_greatest_divisor : FnScope ["one", "other"] ["one", "other"] (defScope s_greatest_divisor) := ⟨rfl, rfl, rfl, by decide +kernel, rfl, by decide +kernel, by decide +kernel⟩
theorem ok_greatest_divisor [PW] {K : PySem.W.Frag} {mg : Str → Option Value} {base : Heap} {f : Addr} {fd : FuncData} {ca : Nat → Addr} (Fn : Fun K "greatest_divisor" "greatest_divisor" s_greatest_divisor f fd) (n_abs : mg "abs" = none) : FnOk PW.P PW.w K mg base CX0 1 f fd ["one", "other"] (spW K (ar2 (NT.F_greatest_divisor ca))) := by
  refine foW (k := 0) Fn sc_greatest_divisor (by decide) le_ar2 fun cdv A outer s H E hr => ⟨_, (pss_cons (ps_while PassesOwn.never (pt_cmpR (op_neP (K := K) rfl hr.units) (pv 1) pe_int (nomark _)) (pss_one (ps_par (i := 0) (j := 1) (by rfl) sc_greatest_divisor.nd rfl rfl (by decide) rfl rfl (pa_cons (pv 1) (pa_cons (pe_op op_modN (pv 0) (pv 1)) pa_nil)) (by rfl))))
      (pss_one (ps_ret (pe_callB call_abs (by rfl) n_abs PyProof.Rows.boot_abs (pa_cons (pv 0) pa_nil))))), fun as S Ψ Ξ h => ?_⟩
  obtain ⟨v1one, v2other, rfl, h⟩ := ar2_inv h
  exact ⟨NT.B_greatest_divisor ca v1one v2other, h,
  (show GP K _ [.val v1one, .val v2other] _ _ _ from (gp_seq (gp_while (pat := (fun v3s => [.val v3s.1, .val v3s.2])) (s0 := (v1one, v2other)) (by exact ⟨.inr rfl, ⟨.inr rfl, trivial⟩⟩) (fun v4s => (t_tst (p_op ow_ne (ep_var rfl) ep_int))) (fun v4s =>
  (show GP K _ [.val v4s.1, .val v4s.2] _ _ _ from (g_last (fun (v5s : PV × PV) => (v5s.1, v5s.2)) (fun v5s => (by exact ⟨.inr rfl, ⟨.inr rfl, trivial⟩⟩)) (g_par2L (pat := (fun v5s => [.val v5s.1, .val v5s.2])) (v_cons (ep_var rfl) (v_cons (p_op ow_mod (ep_var rfl) (ep_var rfl)) v_nil)) fun _ => rfl))))) fun v3s =>
  (show GP K _ [.val v3s.1, .val v3s.2] _ _ _ from (gp_ret (p_cb cw_abs (v_cons (ep_var rfl) v_nil))))))⟩
abbrev s_is_fraction : Stmt := topS 8
theorem sc_is_fraction : FnScope ["thing", "top", "bottom"] ["thing"] (defScope s_is_fraction) := ⟨rfl, rfl, rfl, by decide +kernel, rfl, by decide +kernel, by decide +kernel⟩
theorem ok_is_fraction [PW] {K : PySem.W.Frag} {mg : Str → Option Value} {base : Heap} {f : Addr} {fd : FuncData} {ca : Nat → Addr} (Fn : Fun K "is_fraction" "is_fraction" s_is_fraction f fd) (n_isinstance : mg "isinstance" = none) (n_len : mg "len" = none) (n_tuple : mg "tuple" = none) (C_greatest_divisor : Cal PW.P PW.w K mg base 1 "greatest_divisor" ["one", "other"] [] (spW K (ar2 (NT.F_greatest_divisor ca)))) (C_is_whole : Cal PW.P PW.w K mg base 1 "is_whole" ["thing"] [] (spW K (ar1 (NT.F_is_whole ca)))) : FnOk PW.P PW.w K mg base CX0 2 f fd ["thing"] (spW K (ar1 (NT.F_is_fraction ca))) := by
  refine foW (k := 1) Fn sc_is_fraction (by decide) le_ar1 fun cdv A outer s H E hr => ⟨_, (pss_cons (ps_if (PW.pt (pw_or (pt_not (pt_val (pe_callB (call_isP (K := K) rfl) (by rfl) n_isinstance PyProof.Rows.boot_isinstance (pa_cons (pv 0) (pa_cons (c_ty (n := "tuple") n_tuple (by rfl) (by decide +kernel) (by decide)) pa_nil))))) (pw_or1 (pt_cmpR (op_neP (K := K) rfl hr.units) (pe_callB (call_lenU (K := K) rfl) (by rfl) n_len PySem.boot_len (pa_cons (pv 0) pa_nil)) pe_int (nomark _))))) (pss_one (ps_ret pe_bl)) pss_nil)
      (pss_cons (ps_asg (pv 0) (pg_tupK (K := K) (n := 2) rfl rfl (pgs_cons (pg_name (i := 1) sc_is_fraction.nd rfl (.inl rfl)) (pgs_cons (pg_name (i := 2) sc_is_fraction.nd rfl (.inl rfl)) pgs_nil))))
      (pss_cons (ps_if (PW.pt (pw_or (pt_not (pt_val (pe_cal C_is_whole hr (by decide) (by rfl) (pa_cons (pv 1) pa_nil)))) (pw_or (pt_not (pt_val (pe_cal C_is_whole hr (by decide) (by rfl) (pa_cons (pv 2) pa_nil)))) (pw_or1 (pt_cmpR op_lt (pv 2) pe_int (nomark _)))))) (pss_one (ps_ret pe_bl)) pss_nil)
      (pss_one (ps_ret (pe_cmpR (op_eqP (K := K) rfl hr.units) (pe_cal C_greatest_divisor hr (by decide) (by rfl) (pa_cons (pv 1) (pa_cons (pv 2) pa_nil))) pe_int (nomark _))))))), fun as S Ψ Ξ h => ?_⟩
  obtain ⟨v1thing, rfl, h⟩ := ar1_inv h
  exact ⟨NT.B_is_fraction ca v1thing, h,
  (show GP K _ [.val v1thing, .un, .un] _ _ _ from (gp_when (pe := fun s => s.elim) (t_orT (t_notT (t_tB (p_isi (.ty _) tab_b (ep_var rfl)))) (t_tst (p_op ow_ne (p_cb cw_len (v_cons (ep_var rfl) v_nil)) ep_int))) (show GP K _ [.val v1thing, .un, .un] _ _ _ from (gp_ret ep_bl))
  (show GP K _ [.val v1thing, .un, .un] _ _ _ from (gp_unpack (ep_var rfl) (tg_tup2 tg_name tg_name) fun v3x => ⟨rfl,
  (show GP K _ [.val v1thing, .val v3x.1, .val v3x.2] _ _ _ from (gp_when (pe := fun s => s.elim) (t_orT (t_notT (t_tB (p_call (fun _ => .nil) (v_cons (ep_var rfl) v_nil)))) (t_orT (t_notT (t_tB (p_call (fun _ => .nil) (v_cons (ep_var rfl) v_nil)))) (t_tst (p_op ow_lt (ep_var rfl) ep_int)))) (show GP K _ [.val v1thing, .val v3x.1, .val v3x.2] _ _ _ from (gp_ret ep_bl))
  (show GP K _ [.val v1thing, .val v3x.1, .val v3x.2] _ _ _ from (gp_ret (p_op ow_eq (p_call (fun _ => .nil) (v_cons (ep_var rfl) (v_cons (ep_var rfl) v_nil))) ep_int)))))⟩))))⟩
abbrev s_is_amount : Stmt := topS 10
theorem sc_is_amount : FnScope ["thing"] ["thing"] (defScope s_is_amount) := ⟨rfl, rfl, rfl, by decide +kernel, rfl, by decide +kernel, by decide +kernel⟩
theorem ok_is_amount [PW] {K : PySem.W.Frag} {mg : Str → Option Value} {base : Heap} {f : Addr} {fd : FuncData} {ca : Nat → Addr} (Fn : Fun K "is_amount" "is_amount" s_is_amount f fd) (C_is_fraction : Cal PW.P PW.w K mg base 2 "is_fraction" ["thing"] [] (spW K (ar1 (NT.F_is_fraction ca)))) : FnOk PW.P PW.w K mg base CX0 3 f fd ["thing"] (spW K (ar1 (NT.F_is_amount ca))) := by
  refine foW (k := 2) Fn sc_is_amount (by decide) le_ar1 fun cdv A outer s H E hr => ⟨_, (pss_one (ps_ret (pe_and (pe_cal C_is_fraction hr (by decide) (by rfl) (pa_cons (pv 0) pa_nil)) (pe_one (pe_cmpR op_ge (pe_ix (ix_U (K := K) rfl) (pv 0) pe_int (fun _ _ => rfl)) pe_int (nomark _)))))), fun as S Ψ Ξ h => ?_⟩
  obtain ⟨v1thing, rfl, h⟩ := ar1_inv h
  exact ⟨NT.B_is_amount ca v1thing, h,
  (show GP K _ [.val v1thing] _ _ _ from (gp_ret (p_and (p_call (fun _ => .nil) (v_cons (ep_var rfl) v_nil)) (p_op ow_ge (p_op ow_ix (ep_var rfl) ep_int) ep_int))))⟩
abbrev s_is_gap : Stmt := topS 11
theorem sc_is_gap : FnScope ["thing"] ["thing"] (defScope s_is_gap) := ⟨rfl, rfl, rfl, by decide +kernel, rfl, by decide +kernel, by decide +kernel⟩
theorem ok_is_gap [PW] {K : PySem.W.Frag} {mg : Str → Option Value} {base : Heap} {f : Addr} {fd : FuncData} {ca : Nat → Addr} (Fn : Fun K "is_gap" "is_gap" s_is_gap f fd) (C_is_amount : Cal PW.P PW.w K mg base 3 "is_amount" ["thing"] [] (spW K (ar1 (NT.F_is_amount ca)))) : FnOk PW.P PW.w K mg base CX0 4 f fd ["thing"] (spW K (ar1 (NT.F_is_gap ca))) := by
  refine foW (k := 3) Fn sc_is_gap (by decide) le_ar1 fun cdv A outer s H E hr => ⟨_, (pss_one (ps_ret (pe_and (pe_cal C_is_amount hr (by decide) (by rfl) (pa_cons (pv 0) pa_nil)) (pe_one (pe_cmpR op_leU (pe_ix (ix_U (K := K) rfl) (pv 0) pe_int (fun _ _ => rfl)) (pe_ix (ix_U (K := K) rfl) (pv 0) pe_int (fun _ _ => rfl)) (nomark _)))))), fun as S Ψ Ξ h => ?_⟩
  obtain ⟨v1thing, rfl, h⟩ := ar1_inv h
  exact ⟨NT.B_is_gap ca v1thing, h,
  (show GP K _ [.val v1thing] _ _ _ from (gp_ret (p_and (p_call (fun _ => .nil) (v_cons (ep_var rfl) v_nil)) (p_op ow_leU (p_op ow_ix (ep_var rfl) ep_int) (p_op ow_ix (ep_var rfl) ep_int)))))⟩
abbrev s_is_mark : Stmt := topS 14
theorem sc_is_mark : FnScope ["thing", "sign"] ["thing"] (defScope s_is_mark) := ⟨rfl, rfl, rfl, by decide +kernel, rfl, by decide +kernel, by decide +kernel⟩
theorem ok_is_mark [PW] {K : PySem.W.Frag} {mg : Str → Option Value} {base : Heap} {f : Addr} {fd : FuncData} {ca : Nat → Addr} (Fn : Fun K "is_mark" "is_mark" s_is_mark f fd) (n_all : mg "all" = none) (n_isinstance : mg "isinstance" = none) (n_len : mg "len" = none) (n_str : mg "str" = none) {tk_LONGEST_MARK : Tok} (g_LONGEST_MARK : mg "LONGEST_MARK" = some (.int 4 tk_LONGEST_MARK)) : FnOk PW.P PW.w K mg base CX0 1 f fd ["thing"] (spW K (ar1 (NT.F_is_mark ca))) := by
  refine foW (k := 0) Fn sc_is_mark (by decide) le_ar1 fun cdv A outer s H E hr => ⟨_, (pss_cons (ps_if (PW.pt (pw_or (pt_not (pt_val (pe_callB (call_isP (K := K) rfl) (by rfl) n_isinstance PyProof.Rows.boot_isinstance (pa_cons (pv 0) (pa_cons (c_ty (n := "str") n_str (by rfl) (by decide +kernel) (by decide)) pa_nil))))) (pw_or1 (pt_not (pt_chain op_leU op_leU pe_int (pe_callB (call_lenU (K := K) rfl) (by rfl) n_len PySem.boot_len (pa_cons (pv 0) pa_nil)) (pe_glob (v := .int 4) (by rfl) g_LONGEST_MARK ⟨_, rfl⟩)))))) (pss_one (ps_ret pe_bl)) pss_nil)
      (pss_one (ps_ret (pe_callB (cr_allP (K := K) rfl rfl) (by rfl) n_all PyProof.Rows.boot_all (pa_cons (pe_lc (own := [("sign", 1)]) (by rfl) sc_is_mark.nd (pi_str (pv 0)) (blkOk_by (own := [("sign", 1)]) (N := ["thing", "sign"]) (sc := defScope s_is_mark) (by decide +kernel)) (fun _ _ _ _ _ => (pg_name (i := 1) sc_is_mark.nd rfl (.inl rfl))) (fun _ _ _ _ _ => pts_nil) (fun _ _ _ _ _ => (pe_chain op_leU op_leU pe_str (pv 1) pe_str))) pa_nil))))), fun as S Ψ Ξ h => ?_⟩
  obtain ⟨v1thing, rfl, h⟩ := ar1_inv h
  exact ⟨NT.B_is_mark ca v1thing, h,
  (show GP K _ [.val v1thing, .un] _ _ _ from (gp_when (pe := fun s => s.elim) (t_orT (t_notT (t_tB (p_isi (.ty _) tab_b (ep_var rfl)))) (t_notT (t_tst (p_chain ow_leU ow_leU ep_int (p_cb cw_len (v_cons (ep_var rfl) v_nil)) ep_int)))) (show GP K _ [.val v1thing, .un] _ _ _ from (gp_ret ep_bl))
  (show GP K _ [.val v1thing, .un] _ _ _ from (gp_ret (p_cb cw_all (v_cons (p_set (o_lc (Z' := fun _ _ _ _ => False) (w_str (ep_var rfl)) tg_name (fun v4x => ⟨rfl, SL.t_yes, (p_chain ow_leU ow_leU ep_str (ep_var rfl) ep_str)⟩))) v_nil))))))⟩
abbrev s_fits : Stmt := topS 18
theorem sc_fits : FnScope ["kind", "number", "thing"] ["kind", "number", "thing"] (defScope s_fits) := ⟨rfl, rfl, rfl, by decide +kernel, rfl, by decide +kernel, by decide +kernel⟩
theorem ok_fits [PW] {K : PySem.W.Frag} {mg : Str → Option Value} {base : Heap} {f : Addr} {fd : FuncData} {ca : Nat → Addr} (Fn : Fun K "fits" "fits" s_fits f fd) (C_is_gap : Cal PW.P PW.w K mg base 4 "is_gap" ["thing"] [] (spW K (ar1 (NT.F_is_gap ca)))) (C_is_mark : Cal PW.P PW.w K mg base 1 "is_mark" ["thing"] [] (spW K (ar1 (NT.F_is_mark ca)))) (C_is_whole_within : Cal PW.P PW.w K mg base 2 "is_whole_within" ["thing", "least", "most"] [] (spW K (ar3 (NT.F_is_whole_within ca)))) : FnOk PW.P PW.w K mg base CX0 5 f fd ["kind", "number", "thing"] (spW K (ar3 (NT.F_fits ca))) := by
  refine foW (k := 4) Fn sc_fits (by decide) le_ar3 fun cdv A outer s H E hr => ⟨_, (pss_cons (ps_if (pt_cmpR (op_eqP (K := K) rfl hr.units) (pv 0) pe_str (nomark _)) (pss_one (ps_ret (pe_cal C_is_mark hr (by decide) (by rfl) (pa_cons (pv 2) pa_nil)))) pss_nil)
      (pss_cons (ps_if (pt_cmpR (op_eqP (K := K) rfl hr.units) (pv 0) pe_str (nomark _)) (pss_one (ps_ret (pe_cal C_is_gap hr (by decide) (by rfl) (pa_cons (pv 2) pa_nil)))) pss_nil)
      (pss_one (ps_ret (pe_cal C_is_whole_within hr (by decide) (by rfl) (pa_cons (pv 2) (pa_cons pe_int (pa_cons (pe_op op_sub (pv 1) pe_int) pa_nil)))))))), fun as S Ψ Ξ h => ?_⟩
  obtain ⟨v1kind, v2number, v3thing, rfl, h⟩ := ar3_inv h
  exact ⟨NT.B_fits ca v1kind v2number v3thing, h,
  (show GP K _ [.val v1kind, .val v2number, .val v3thing] _ _ _ from (gp_when (pe := fun s => s.elim) (t_tst (p_op ow_eq (ep_var rfl) ep_str)) (show GP K _ [.val v1kind, .val v2number, .val v3thing] _ _ _ from (gp_ret (p_call (fun _ => .nil) (v_cons (ep_var rfl) v_nil))))
  (show GP K _ [.val v1kind, .val v2number, .val v3thing] _ _ _ from (gp_when (pe := fun s => s.elim) (t_tst (p_op ow_eq (ep_var rfl) ep_str)) (show GP K _ [.val v1kind, .val v2number, .val v3thing] _ _ _ from (gp_ret (p_call (fun _ => .nil) (v_cons (ep_var rfl) v_nil))))
  (show GP K _ [.val v1kind, .val v2number, .val v3thing] _ _ _ from (gp_ret (p_call (fun _ => .nil) (v_cons (ep_var rfl) (v_cons ep_int (v_cons (p_op ow_sub (ep_var rfl) ep_int) v_nil))))))))))⟩
abbrev s_is_sheet_row : Stmt := topS 19
theorem sc_is_sheet_row : FnScope ["number", "thing", "kinds", "parts", "kind", "part"] ["number", "thing"] (defScope s_is_sheet_row) := ⟨rfl, rfl, rfl, by decide +kernel, rfl, by decide +kernel, by decide +kernel⟩
theorem ok_is_sheet_row [PW] {K : PySem.W.Frag} {mg : Str → Option Value} {base : Heap} {f : Addr} {fd : FuncData} {ca : Nat → Addr} (Fn : Fun K "is_sheet_row" "is_sheet_row" s_is_sheet_row f fd) (n_all : mg "all" = none) (n_isinstance : mg "isinstance" = none) (n_len : mg "len" = none) (n_str : mg "str" = none) (n_tuple : mg "tuple" = none) (n_zip : mg "zip" = none) (C_fits : Cal PW.P PW.w K mg base 5 "fits" ["kind", "number", "thing"] [] (spW K (ar3 (NT.F_fits ca)))) {A_FORMS : Addr} (g_FORMS : mg "FORMS" = some (.ref A_FORMS)) (D_FORMS : KTab K PW.w A_FORMS [(PySem.Str.ofString "mark", (.tup [(.str (PySem.Str.ofString "mark"))])), (PySem.Str.ofString "next", (.tup [(.str (PySem.Str.ofString "row"))])), (PySem.Str.ofString "not", (.tup [(.str (PySem.Str.ofString "row"))])), (PySem.Str.ofString "less", (.tup [(.str (PySem.Str.ofString "row")), (.str (PySem.Str.ofString "cut"))])), (PySem.Str.ofString "least", (.tup [(.str (PySem.Str.ofString "row")), (.str (PySem.Str.ofString "row"))])), (PySem.Str.ofString "most", (.tup [(.str (PySem.Str.ofString "row")), (.str (PySem.Str.ofString "row"))]))]) : FnOk PW.P PW.w K mg base CX0 6 f fd ["number", "thing"] (spW K (ar2 (NT.F_is_sheet_row ca))) := by
  refine foW (k := 5) Fn sc_is_sheet_row (by decide) le_ar2 fun cdv A outer s H E hr => ⟨_, (pss_cons (ps_if (PW.pt (pw_or (pt_not (pt_val (pe_callB (call_isP (K := K) rfl) (by rfl) n_isinstance PyProof.Rows.boot_isinstance (pa_cons (pv 1) (pa_cons (c_ty (n := "tuple") n_tuple (by rfl) (by decide +kernel) (by decide)) pa_nil))))) (pw_or (pt_cmpR (op_eqP (K := K) rfl hr.units) (pe_callB (call_lenU (K := K) rfl) (by rfl) n_len PySem.boot_len (pa_cons (pv 1) pa_nil)) pe_int (nomark _)) (pw_or1 (pt_not (pt_val (pe_callB (call_isP (K := K) rfl) (by rfl) n_isinstance PyProof.Rows.boot_isinstance (pa_cons (pe_ix (ix_U (K := K) rfl) (pv 1) pe_int (fun _ _ => rfl)) (pa_cons (c_ty (n := "str") n_str (by rfl) (by decide +kernel) (by decide)) pa_nil))))))))) (pss_one (ps_ret pe_bl)) pss_nil)
      (pss_cons (ps_if (pt_cmpR (op_notInKT D_FORMS rfl rfl) (pe_ix (ix_U (K := K) rfl) (pv 1) pe_int (fun _ _ => rfl)) (pe_glob (v := .ref A_FORMS) (by rfl) g_FORMS rfl) (by rfl)) (pss_one (ps_ret pe_bl)) pss_nil)
      (pss_cons (ps_set (i := 2) sc_is_sheet_row.nd rfl (.inl rfl) (pe_ix (ix_KT D_FORMS rfl rfl) (pe_glob (v := .ref A_FORMS) (by rfl) g_FORMS rfl) (pe_ix (ix_U (K := K) rfl) (pv 1) pe_int (fun _ _ => rfl)) (fun _ _ => rfl)))
      (pss_cons (ps_set (i := 3) sc_is_sheet_row.nd rfl (.inl rfl) (pe_sliceT (K := K) rfl (pv 1) (po_some pe_int) po_none))
      (pss_one (ps_ret (pe_and (pe_cmpR (op_eqP (K := K) rfl hr.units) (pe_callB (call_lenU (K := K) rfl) (by rfl) n_len PySem.boot_len (pa_cons (pv 3) pa_nil)) (pe_callB (call_lenU (K := K) rfl) (by rfl) n_len PySem.boot_len (pa_cons (pv 2) pa_nil)) (nomark _)) (pe_one (pe_callB (cr_allP (K := K) rfl rfl) (by rfl) n_all PyProof.Rows.boot_all (pa_cons (pe_lc (own := [("kind", 4), ("part", 5)]) (by rfl) sc_is_sheet_row.nd (pi_zipAK (K := K) rfl (RZ.pi_zipA (by rfl) n_zip (pa_cons (pv 2) (pa_cons (pv 3) pa_nil)))) (blkOk_by (own := [("kind", 4), ("part", 5)]) (N := ["number", "thing", "kinds", "parts", "kind", "part"]) (sc := defScope s_is_sheet_row) (by decide +kernel)) (fun _ _ _ _ _ => (pg_tupK (K := K) (n := 2) rfl rfl (pgs_cons (pg_name (i := 4) sc_is_sheet_row.nd rfl (.inl rfl)) (pgs_cons (pg_name (i := 5) sc_is_sheet_row.nd rfl (.inl rfl)) pgs_nil)))) (fun _ _ _ _ _ => pts_nil) (fun _ _ _ _ _ => (pe_cal C_fits hr (by decide) (by rfl) (pa_cons (pv 4) (pa_cons (pv 0) (pa_cons (pv 5) pa_nil)))))) pa_nil)))))))))), fun as S Ψ Ξ h => ?_⟩
  obtain ⟨v1number, v2thing, rfl, h⟩ := ar2_inv h
  exact ⟨NT.B_is_sheet_row ca v1number v2thing, h,
  (show GP K _ [.val v1number, .val v2thing, .un, .un, .un, .un] _ _ _ from (gp_when (pe := fun s => s.elim) (t_orT (t_notT (t_tB (p_isi (.ty _) tab_b (ep_var rfl)))) (t_orT (t_tst (p_op ow_eq (p_cb cw_len (v_cons (ep_var rfl) v_nil)) ep_int)) (t_notT (t_tB (p_isi (.ty _) tab_b (p_op ow_ix (ep_var rfl) ep_int)))))) (show GP K _ [.val v1number, .val v2thing, .un, .un, .un, .un] _ _ _ from (gp_ret ep_bl))
  (show GP K _ [.val v1number, .val v2thing, .un, .un, .un, .un] _ _ _ from (gp_when (pe := fun s => s.elim) (t_tst (p_inKT (p_op ow_ix (ep_var rfl) ep_int))) (show GP K _ [.val v1number, .val v2thing, .un, .un, .un, .un] _ _ _ from (gp_ret ep_bl))
  (show GP K _ [.val v1number, .val v2thing, .un, .un, .un, .un] _ _ _ from (gp_asg (p_ixKT (p_op ow_ix (ep_var rfl) ep_int)) fun v5kinds =>
  (show GP K _ [.val v1number, .val v2thing, .val v5kinds, .un, .un, .un] _ _ _ from (gp_asg (p_cutT (ep_var rfl) (op_part ep_int) op_none) fun v6parts =>
  (show GP K _ [.val v1number, .val v2thing, .val v5kinds, .val v6parts, .un, .un] _ _ _ from (gp_ret (p_and (p_op ow_eq (p_cb cw_len (v_cons (ep_var rfl) v_nil)) (p_cb cw_len (v_cons (ep_var rfl) v_nil))) (p_cb cw_all (v_cons (p_set (o_lc (Z' := fun _ _ _ _ => False) (w_zipT (v_cons (ep_var rfl) (v_cons (ep_var rfl) v_nil))) (tg_tup2 tg_name tg_name) (fun v8x => ⟨rfl, SL.t_yes, (p_call (fun _ => .nil) (v_cons (ep_var rfl) (v_cons (ep_var rfl) (v_cons (ep_var rfl) v_nil))))⟩))) v_nil)))))))))))))⟩
abbrev s_check_rows : Stmt := topS 20
theorem sc_check_rows : FnScope ["rows", "number", "row"] ["rows"] (defScope s_check_rows) := ⟨rfl, rfl, rfl, by decide +kernel, rfl, by decide +kernel, by decide +kernel⟩
theorem ok_check_rows [PW] {K : PySem.W.Frag} {mg : Str → Option Value} {base : Heap} {f : Addr} {fd : FuncData} {ca : Nat → Addr} (Fn : Fun K "check_rows" "check_rows" s_check_rows f fd) (n_enumerate : mg "enumerate" = none) (n_isinstance : mg "isinstance" = none) (n_len : mg "len" = none) (n_list : mg "list" = none) {tk_MOST_ROWS : Tok} (g_MOST_ROWS : mg "MOST_ROWS" = some (.int 1500 tk_MOST_ROWS)) (C_is_sheet_row : Cal PW.P PW.w K mg base 6 "is_sheet_row" ["number", "thing"] [] (spW K (ar2 (NT.F_is_sheet_row ca)))) : FnOk PW.P PW.w K mg base CX0 7 f fd ["rows"] (spW K (ar1 (NT.F_check_rows ca))) := by
  refine foW (k := 6) Fn sc_check_rows (by decide) le_ar1 fun cdv A outer s H E hr => ⟨_, (pss_cons (ps_if (PW.pt (pw_or (pt_not (pt_val (pe_callB (call_isP (K := K) rfl) (by rfl) n_isinstance PyProof.Rows.boot_isinstance (pa_cons (pv 0) (pa_cons (c_ty (n := "list") n_list (by rfl) (by decide +kernel) (by decide)) pa_nil))))) (pw_or1 (pt_not (pt_chain op_leU op_leU pe_int (pe_callB (call_lenU (K := K) rfl) (by rfl) n_len PySem.boot_len (pa_cons (pv 0) pa_nil)) (pe_glob (v := .int 1500) (by rfl) g_MOST_ROWS ⟨_, rfl⟩)))))) (pss_one ps_any) pss_nil)
      (pss_one (ps_for PassesOwn.never rfl (pi_enumK (K := K) rfl (pi_enum (by rfl) n_enumerate (pa_cons (pv 0) pa_nil))) (pg_tupK (K := K) (n := 2) rfl rfl (pgs_cons (pg_name (i := 1) sc_check_rows.nd rfl (.inl rfl)) (pgs_cons (pg_name (i := 2) sc_check_rows.nd rfl (.inl rfl)) pgs_nil))) (pss_one (ps_if (pt_not (pt_val (pe_cal C_is_sheet_row hr (by decide) (by rfl) (pa_cons (pv 1) (pa_cons (pv 2) pa_nil))))) (pss_one ps_any) pss_nil))))), fun as S Ψ Ξ h => ?_⟩
  obtain ⟨v1rows, rfl, h⟩ := ar1_inv h
  exact ⟨NT.B_check_rows ca v1rows, h,
  (show GP K _ [.val v1rows, .un, .un] _ _ _ from (gp_when (pe := fun s => s.elim) (t_orT (t_notT (t_tB (p_isi (.ty _) tab_b (ep_var rfl)))) (t_notT (t_tst (p_chain ow_leU ow_leU ep_int (p_cb cw_len (v_cons (ep_var rfl) v_nil)) ep_int)))) (show GP K _ [.val v1rows, .un, .un] _ _ _ from gp_no)
  (show GP K _ [.val v1rows, .un, .un] _ _ _ from (g_last (fun _ => ()) (fun _ => (by exact ⟨.inl rfl, ⟨.inl rfl, ⟨.inl rfl, trivial⟩⟩⟩)) (gp_for (pat := (fun (_ : Unit) => [.val v1rows, .un, .un])) (s0 := ()) (w_enum (v_cons (ep_var rfl) v_nil)) (tg_tup2 tg_name tg_name) (by exact ⟨.inr rfl, ⟨.inl rfl, ⟨.inl rfl, trivial⟩⟩⟩) (fun v4x v3s => ⟨rfl,
  (show GP K _ [.val v1rows, .val v4x.1, .val v4x.2] _ _ _ from (g_last (fun _ => ()) (fun _ => (by exact ⟨.inr rfl, ⟨.inl rfl, ⟨.inl rfl, trivial⟩⟩⟩)) (gp_if (pat := (fun (_ : Unit) => [.val v1rows, .val v4x.1, .val v4x.2])) (t_notT (t_tB (p_call (fun _ => .nil) (v_cons (ep_var rfl) (v_cons (ep_var rfl) v_nil))))) (show GP K _ [.val v1rows, .val v4x.1, .val v4x.2] _ _ _ from gp_no) (gp_less (by exact ⟨.inr rfl, ⟨.inr rfl, ⟨.inr rfl, trivial⟩⟩⟩) (gp_next (s := ()) rfl)))))⟩))))))⟩
abbrev s_steps_of : Stmt := topS 21
theorem sc_steps_of : FnScope ["rows", "told", "row", "kinds", "ahead", "kind", "part", "deepest"] ["rows"] (defScope s_steps_of) := ⟨rfl, rfl, rfl, by decide +kernel, rfl, by decide +kernel, by decide +kernel⟩
theorem ok_steps_of [PW] {K : PySem.W.Frag} {mg : Str → Option Value} {base : Heap} {f : Addr} {fd : FuncData} {ca : Nat → Addr} (Fn : Fun K "steps_of" "steps_of" s_steps_of f fd) (n_max : mg "max" = none) (n_zip : mg "zip" = none) {A_FORMS : Addr} (g_FORMS : mg "FORMS" = some (.ref A_FORMS)) (D_FORMS : KTab K PW.w A_FORMS [(PySem.Str.ofString "mark", (.tup [(.str (PySem.Str.ofString "mark"))])), (PySem.Str.ofString "next", (.tup [(.str (PySem.Str.ofString "row"))])), (PySem.Str.ofString "not", (.tup [(.str (PySem.Str.ofString "row"))])), (PySem.Str.ofString "less", (.tup [(.str (PySem.Str.ofString "row")), (.str (PySem.Str.ofString "cut"))])), (PySem.Str.ofString "least", (.tup [(.str (PySem.Str.ofString "row")), (.str (PySem.Str.ofString "row"))])), (PySem.Str.ofString "most", (.tup [(.str (PySem.Str.ofString "row")), (.str (PySem.Str.ofString "row"))]))]) : FnOk PW.P PW.w K mg base CX0 1 f fd ["rows"] (spW K (ar1 (NT.F_steps_of ca))) := by
  refine foW (k := 0) Fn sc_steps_of (by decide) le_ar1 fun cdv A outer s H E hr => ⟨_, (pss_cons (ps_set (i := 1) sc_steps_of.nd rfl (.inr rfl) (pe_lst pa_nil))
      (pss_cons (ps_for PassesOwn.never rfl (pi_listK (K := K) rfl (pv 0)) (pg_name (i := 2) sc_steps_of.nd rfl (.inl rfl)) (pss_cons (ps_set (i := 3) sc_steps_of.nd rfl (.inl rfl) (pe_ix (ix_KT D_FORMS rfl rfl) (pe_glob (v := .ref A_FORMS) (by rfl) g_FORMS rfl) (pe_ix (ix_U (K := K) rfl) (pv 2) pe_int (fun _ _ => rfl)) (fun _ _ => rfl)))
      (pss_cons (ps_setLc (i := 4) (own := [("kind", 5), ("part", 6)]) (by rfl) sc_steps_of.nd rfl rfl (sw_true rfl rfl rfl (by decide +kernel)) (pi_zipAK (K := K) rfl (RZ.pi_zipA (by rfl) n_zip (pa_cons (pv 3) (pa_cons (pe_sliceT (K := K) rfl (pv 2) (po_some pe_int) po_none) pa_nil)))) (blkOk_by (own := [("kind", 5), ("part", 6)]) (N := ["rows", "told", "row", "kinds", "ahead", "kind", "part", "deepest"]) (sc := defScope s_steps_of) (by decide +kernel)) (fun _ _ _ _ _ => (pg_tupK (K := K) (n := 2) rfl rfl (pgs_cons (pg_name (i := 5) sc_steps_of.nd rfl (.inl rfl)) (pgs_cons (pg_name (i := 6) sc_steps_of.nd rfl (.inl rfl)) pgs_nil)))) (fun _ _ _ _ _ => (pts_one (pt_cmpR (op_eqP (K := K) rfl hr.units) (pv 5) pe_str (nomark _)))) (fun _ _ _ _ _ => (pe_ix (ix_U (K := K) rfl) (pv 1) (pv 6) (fun _ _ => rfl))))
      (pss_cons (ps_set (i := 7) sc_steps_of.nd rfl (.inl rfl) (pe_callBK (cr_maxD (K := K) rfl rfl) (by rfl) n_max PyProof.Rows.boot_max (pa_cons (pv 4) pa_nil) (pk_cons pe_int pk_nil)))
      (pss_one (ps_expr (pe_bm PySem.F.plainAttrs_list PySem.F.slot_list_append PySem.F.type_list_append mt_append (pv 1) (pa_cons (pe_ifExp (pt_cmpR (op_eqP (K := K) rfl hr.units) (pe_ix (ix_U (K := K) rfl) (pv 2) pe_int (fun _ _ => rfl)) pe_str (nomark _)) (pe_op op_addU (pv 7) pe_int) (pv 7)) pa_nil))))))))
      (pss_one (ps_ret (pv 1))))), fun as S Ψ Ξ h => ?_⟩
  obtain ⟨v1rows, rfl, h⟩ := ar1_inv h
  exact ⟨NT.B_steps_of ca v1rows, h,
  (show GP K _ [.val v1rows, .un, .un, .un, .un, .un, .un, .un] _ _ _ from (gp_own (o_lst v_nil) fun v2told =>
  (show GP K _ [.val v1rows, .own v2told, .un, .un, .un, .un, .un, .un] _ _ _ from (gp_seq (gp_for (pat := (fun v3s => [.val v1rows, .own v3s, .un, .un, .un, .un, .un, .un])) (s0 := v2told) (w_list (ep_var rfl)) tg_name (by exact ⟨.inr rfl, ⟨.inr rfl, ⟨.inl rfl, ⟨.inl rfl, ⟨.inl rfl, ⟨.inl rfl, ⟨.inl rfl, ⟨.inl rfl, trivial⟩⟩⟩⟩⟩⟩⟩⟩) (fun v5x v4s => ⟨rfl,
  (show GP K _ [.val v1rows, .own v4s, .val v5x, .un, .un, .un, .un, .un] _ _ _ from (gp_asg (p_ixKT (p_op ow_ix (ep_var rfl) ep_int)) fun v6kinds =>
  (show GP K _ [.val v1rows, .own v4s, .val v5x, .val v6kinds, .un, .un, .un, .un] _ _ _ from (gp_asg (p_set (o_lend (i := 1) rfl (o_lc (Z' := fun _ _ _ _ => False) (w_zipT (v_cons (ep_var rfl) (v_cons (p_cutT (ep_var rfl) (op_part ep_int) op_none) v_nil))) (tg_tup2 tg_name tg_name) (fun v8x => ⟨rfl, (t_tst (p_op ow_eq (ep_var rfl) ep_str)), (p_op ow_ix (ep_var rfl) (ep_var rfl))⟩)))) fun v7ahead =>
  (show GP K _ [.val v1rows, .own v4s, .val v5x, .val v6kinds, .val v7ahead, .un, .un, .un] _ _ _ from (gp_asg (p_maxD (v_cons (ep_var rfl) v_nil) (v_cons ep_int v_nil)) fun v9deepest =>
  (show GP K _ [.val v1rows, .own v4s, .val v5x, .val v6kinds, .val v7ahead, .un, .un, .val v9deepest] _ _ _ from (g_last (fun (v10s : List PV) => v10s) (fun v10s => (by exact ⟨.inr rfl, ⟨.inr rfl, ⟨.inl rfl, ⟨.inl rfl, ⟨.inl rfl, ⟨.inl rfl, ⟨.inl rfl, ⟨.inl rfl, trivial⟩⟩⟩⟩⟩⟩⟩⟩)) (gp_app1 (pat := (fun v10s => [.val v1rows, .own v10s, .val v5x, .val v6kinds, .val v7ahead, .un, .un, .val v9deepest])) (f := fun a => a) rfl (p_if (t_tst (p_op ow_eq (p_op ow_ix (ep_var rfl) ep_int) ep_str)) (p_add (ep_var rfl) ep_int) (ep_var rfl)) fun _ => rfl)))))))))⟩)) fun v3s =>
  (show GP K _ [.val v1rows, .own v3s, .un, .un, .un, .un, .un, .un] _ _ _ from (gp_retV rfl))))))⟩
abbrev s_Sheet___init__ : Stmt := inClass (topS 22) 0
theorem sc_Sheet___init__ : FnScope ["self", "rows"] ["self", "rows"] (defScope s_Sheet___init__) := ⟨rfl, rfl, rfl, by decide +kernel, rfl, by decide +kernel, by decide +kernel⟩
theorem ok_Sheet___init__ [PW] {K : PySem.W.Frag} {mg : Str → Option Value} {base : Heap} {f : Addr} {fd : FuncData} {ca : Nat → Addr} (Fn : Fun K "__init__" "Sheet.__init__" s_Sheet___init__ f fd) (n_list : mg "list" = none) (cl_Sheet : Cls K (ca 1)) (na_Sheet_kept_rows : NoAttr K (ca 1) "kept_rows") (C_check_rows : Cal PW.P PW.w K mg base 7 "check_rows" ["rows"] [] (spW K (ar1 (NT.F_check_rows ca)))) : FnOk PW.P PW.w K mg base CX0 8 f fd ["self", "rows"] (spW K (ar2 (F_Sheet___init__ ca))) := by
  refine foW (k := 7) Fn sc_Sheet___init__ (by decide) le_ar2 fun cdv A outer s H E hr => ⟨_, (pss_cons (ps_expr (pe_cal C_check_rows hr (by decide) (by rfl) (pa_cons (pv 1) pa_nil)))
      (pss_one (ps_fld (pv 0) (pe_callTy (call_listK (K := K) rfl) (by rfl) n_list PyProof.Rows.boot_list (pa_cons (pv 1) pa_nil)) rfl))), fun as S Ψ Ξ h => ?_⟩
  obtain ⟨v1s, v2rows, rfl, h⟩ := ar2_inv h
  obtain ⟨v1self, rfl, h⟩ := withP_inv h
  exact ⟨B_Sheet___init__ ca v1self v2rows, h,
  (show GP K _ [.val (.ptr v1self), .val v2rows] _ _ _ from (gp_drop (p_lendN (i := 1) rfl fun v3rows => (p_call (fun _ => .nil) (v_cons (ep_var rfl) v_nil)))
  (show GP K _ [.val (.ptr v1self), .val v2rows] _ _ _ from (g_last (fun _ => ()) (fun _ => (by exact ⟨.inl rfl, ⟨.inl rfl, trivial⟩⟩)) (gp_fld1 (pat := (fun _ => [.val (.ptr v1self), .val v2rows])) (s := ()) cl_Sheet na_Sheet_kept_rows rfl (p_set (o_lendN (i := 1) rfl fun v5rows => (o_cb cm_list (v_cons (ep_var rfl) v_nil)))) rfl)))))⟩
abbrev s_Sheet_rows : Stmt := inClass (topS 22) 1
theorem sc_Sheet_rows : FnScope ["self"] ["self"] (defScope s_Sheet_rows) := ⟨rfl, rfl, rfl, by decide +kernel, rfl, by decide +kernel, by decide +kernel⟩
theorem ok_Sheet_rows [PW] {K : PySem.W.Frag} {mg : Str → Option Value} {base : Heap} {f : Addr} {fd : FuncData} {ca : Nat → Addr} (Fn : Fun K "rows" "Sheet.rows" s_Sheet_rows f fd) (n_list : mg "list" = none) (cl_Sheet : Cls K (ca 1)) (na_Sheet_kept_rows : NoAttr K (ca 1) "kept_rows") : FnOk PW.P PW.w K mg base CX0 1 f fd ["self"] (spW K (ar1 (NT.F_Sheet_rows ca))) := by
  refine foW (k := 0) Fn sc_Sheet_rows (by decide) le_ar1 fun cdv A outer s H E hr => ⟨_, (pss_one (ps_ret (pe_callTy (call_listK (K := K) rfl) (by rfl) n_list PyProof.Rows.boot_list (pa_cons (pe_fld (pv 0) rfl) pa_nil)))), fun as S Ψ Ξ h => ?_⟩
  obtain ⟨v1self, rfl, h⟩ := ar1_inv h
  exact ⟨NT.B_Sheet_rows ca v1self, h,
  (show GP K _ [.val v1self] _ _ _ from (gp_retO (o_cb cm_list (v_cons (p_fld cl_Sheet na_Sheet_kept_rows (ep_var rfl)) v_nil))))⟩
abbrev s_Sheet_steps : Stmt := inClass (topS 22) 3
theorem sc_Sheet_steps : FnScope ["self"] ["self"] (defScope s_Sheet_steps) := ⟨rfl, rfl, rfl, by decide +kernel, rfl, by decide +kernel, by decide +kernel⟩
theorem ok_Sheet_steps [PW] {K : PySem.W.Frag} {mg : Str → Option Value} {base : Heap} {f : Addr} {fd : FuncData} {ca : Nat → Addr} (Fn : Fun K "steps" "Sheet.steps" s_Sheet_steps f fd) (cl_Sheet : Cls K (ca 1)) (na_Sheet_kept_rows : NoAttr K (ca 1) "kept_rows") (C_steps_of : Cal PW.P PW.w K mg base 1 "steps_of" ["rows"] [] (spW K (ar1 (NT.F_steps_of ca)))) : FnOk PW.P PW.w K mg base CX0 2 f fd ["self"] (spW K (ar1 (NT.F_Sheet_steps ca))) := by
  refine foW (k := 1) Fn sc_Sheet_steps (by decide) le_ar1 fun cdv A outer s H E hr => ⟨_, (pss_one (ps_ret (pe_cal C_steps_of hr (by decide) (by rfl) (pa_cons (pe_fld (pv 0) rfl) pa_nil)))), fun as S Ψ Ξ h => ?_⟩
  obtain ⟨v1self, rfl, h⟩ := ar1_inv h
  exact ⟨NT.B_Sheet_steps ca v1self, h,
  (show GP K _ [.val v1self] _ _ _ from (gp_retO (o_call (fun _ => .nil) (v_cons (p_fld cl_Sheet na_Sheet_kept_rows (ep_var rfl)) v_nil))))⟩
abbrev s_Sheet___eq__ : Stmt := inClass (topS 22) 4
theorem sc_Sheet___eq__ : FnScope ["self", "other"] ["self", "other"] (defScope s_Sheet___eq__) := ⟨rfl, rfl, rfl, by decide +kernel, rfl, by decide +kernel, by decide +kernel⟩
theorem ok_Sheet___eq__ [PW] {K : PySem.W.Frag} {mg : Str → Option Value} {base : Heap} {f : Addr} {fd : FuncData} {ca : Nat → Addr} (Fn : Fun K "__eq__" "Sheet.__eq__" s_Sheet___eq__ f fd) (n_isinstance : mg "isinstance" = none) (g_Sheet : mg "Sheet" = some (.ref (ca 1))) (cl_Sheet : Cls K (ca 1)) (na_Sheet_kept_rows : NoAttr K (ca 1) "kept_rows") (tbo_Sheet : TabOk K (.ref (ca 1)) oddB [(ca 1, true)]) : FnOk PW.P PW.w K mg base CX0 1 f fd ["self", "other"] (spW K (ar2 (F_Sheet___eq__ ca))) := by
  refine foW (k := 0) Fn sc_Sheet___eq__ (by decide) le_ar2 fun cdv A outer s H E hr => ⟨_, (pss_cons (ps_if (pt_not (pt_val (pe_callB (call_isP (K := K) rfl) (by rfl) n_isinstance PyProof.Rows.boot_isinstance (pa_cons (pv 1) (pa_cons (pe_glob (v := .ref (ca 1)) (by rfl) g_Sheet rfl) pa_nil))))) (pss_one (ps_ret pe_bl)) pss_nil)
      (pss_one (ps_ret (pe_cmpR (op_eqP (K := K) rfl hr.units) (pe_fld (pv 0) rfl) (pe_fld (pv 1) rfl) (nomark _))))), fun as S Ψ Ξ h => ?_⟩
  obtain ⟨v1self, v2other, rfl, h⟩ := ar2_inv h
  exact ⟨B_Sheet___eq__ ca v1self v2other, h,
  (show GP K _ [.val v1self, .val v2other] _ _ _ from (gp_when (pe := fun s => s.elim) (t_notT (t_tB (p_isi (.own _) tbo_Sheet (ep_var rfl)))) (show GP K _ [.val v1self, .val v2other] _ _ _ from (gp_ret ep_bl))
  (show GP K _ [.val v1self, .val v2other] _ _ _ from (gp_ret (p_op ow_eq (p_fld cl_Sheet na_Sheet_kept_rows (ep_var rfl)) (p_fld cl_Sheet na_Sheet_kept_rows (ep_var rfl)))))))⟩
abbrev s_Sheet___len__ : Stmt := inClass (topS 22) 5
theorem sc_Sheet___len__ : FnScope ["self"] ["self"] (defScope s_Sheet___len__) := ⟨rfl, rfl, rfl, by decide +kernel, rfl, by decide +kernel, by decide +kernel⟩
theorem ok_Sheet___len__ [PW] {K : PySem.W.Frag} {mg : Str → Option Value} {base : Heap} {f : Addr} {fd : FuncData} {ca : Nat → Addr} (Fn : Fun K "__len__" "Sheet.__len__" s_Sheet___len__ f fd) (n_len : mg "len" = none) (cl_Sheet : Cls K (ca 1)) (na_Sheet_kept_rows : NoAttr K (ca 1) "kept_rows") : FnOk PW.P PW.w K mg base CX0 1 f fd ["self"] (spW K (ar1 (NT.F_Sheet___len__ ca))) := by
  refine foW (k := 0) Fn sc_Sheet___len__ (by decide) le_ar1 fun cdv A outer s H E hr => ⟨_, (pss_one (ps_ret (pe_callB (call_lenU (K := K) rfl) (by rfl) n_len PySem.boot_len (pa_cons (pe_fld (pv 0) rfl) pa_nil)))), fun as S Ψ Ξ h => ?_⟩
  obtain ⟨v1self, rfl, h⟩ := ar1_inv h
  exact ⟨NT.B_Sheet___len__ ca v1self, h,
  (show GP K _ [.val v1self] _ _ _ from (gp_ret (p_cb cw_len (v_cons (p_fld cl_Sheet na_Sheet_kept_rows (ep_var rfl)) v_nil))))⟩
abbrev s_Sheet___repr__ : Stmt := inClass (topS 22) 6
theorem sc_Sheet___repr__ : FnScope ["self"] ["self"] (defScope s_Sheet___repr__) := ⟨rfl, rfl, rfl, by decide +kernel, rfl, by decide +kernel, by decide +kernel⟩
theorem ok_Sheet___repr__ [PW] {K : PySem.W.Frag} {mg : Str → Option Value} {base : Heap} {f : Addr} {fd : FuncData} {ca : Nat → Addr} (Fn : Fun K "__repr__" "Sheet.__repr__" s_Sheet___repr__ f fd) (cl : Cls K (ca 1)) (n1 : NoAttr K (ca 1) "kept_rows") (n_len : mg "len" = none) (hl : PySem.W.findIn K (.ref (ca 1)) "__repr__" = some (some (.ref f))) (hf : PySem.W.isFn K (.ref f) = true) (hb : Binds K fd ["self"] []) : RepC PW.P PW.w K mg base (ca 1) 1 nsS txS :=
  repS_of Fn sc_Sheet___repr__ cl n1 hl hf hb fun cdv A out s H E hr => pss_one (ps_ret (pe_joined (PJ.cons pe_str (PJ.cons (pe_fmt (pe_callB (call_lenU (K := K) rfl) (by rfl) n_len PySem.boot_len (pa_cons (pe_fld (pv 0) rfl) pa_nil))) (PJ.cons pe_str PJ.nil)))))
abbrev s_Sheet___str__ : Stmt := inClass (topS 22) 7
theorem sc_Sheet___str__ : FnScope ["self"] ["self"] (defScope s_Sheet___str__) := ⟨rfl, rfl, rfl, by decide +kernel, rfl, by decide +kernel, by decide +kernel⟩
theorem ok_Sheet___str__ [PW] {K : PySem.W.Frag} {mg : Str → Option Value} {base : Heap} {f : Addr} {fd : FuncData} {ca : Nat → Addr} (Fn : Fun K "__str__" "Sheet.__str__" s_Sheet___str__ f fd) (n_len : mg "len" = none) (cl_Sheet : Cls K (ca 1)) (na_Sheet_kept_rows : NoAttr K (ca 1) "kept_rows") : FnOk PW.P PW.w K mg base CX0 1 f fd ["self"] (spW K (ar1 (NT.F_Sheet___str__ ca))) := by
  refine foW (k := 0) Fn sc_Sheet___str__ (by decide) le_ar1 fun cdv A outer s H E hr => ⟨_, (pss_one (ps_ret (pe_joined (PJ.cons pe_str (PJ.cons (pe_fmt (pe_callB (call_lenU (K := K) rfl) (by rfl) n_len PySem.boot_len (pa_cons (pe_fld (pv 0) rfl) pa_nil))) (PJ.cons pe_str PJ.nil)))))), fun as S Ψ Ξ h => ?_⟩
  obtain ⟨v1self, rfl, h⟩ := ar1_inv h
  exact ⟨NT.B_Sheet___str__ ca v1self, h,
  (show GP K _ [.val v1self] _ _ _ from (gp_ret (p_fstr (j_lit (j_fmt (p_cb cw_len (v_cons (p_fld cl_Sheet na_Sheet_kept_rows (ep_var rfl)) v_nil)) (j_lit j_nil))))))⟩
abbrev s__law_low : Stmt := topS 26
theorem sc__law_low : FnScope ["_law_top", "_law_bottom", "_law_one", "_law_other"] ["_law_top", "_law_bottom"] (defScope s__law_low) := ⟨rfl, rfl, rfl, by decide +kernel, rfl, by decide +kernel, by decide +kernel⟩
theorem ok__law_low [PW] {K : PySem.W.Frag} {mg : Str → Option Value} {base : Heap} {f : Addr} {fd : FuncData} {ca : Nat → Addr} (Fn : Fun K "_law_low" "_law_low" s__law_low f fd) (n_abs : mg "abs" = none) : FnOk PW.P PW.w K mg base CX0 1 f fd ["_law_top", "_law_bottom"] (spW K (ar2 (LW.F__law_low ca))) := by
  refine foW (k := 0) Fn sc__law_low (by decide) le_ar2 fun cdv A outer s H E hr => ⟨_, (pss_cons (ps_set (i := 2) sc__law_low.nd rfl (.inl rfl) (pe_callB call_abs (by rfl) n_abs PyProof.Rows.boot_abs (pa_cons (pv 0) pa_nil)))
      (pss_cons (ps_set (i := 3) sc__law_low.nd rfl (.inl rfl) (pv 1))
      (pss_cons (ps_while PassesOwn.never (pt_cmpR (op_neP (K := K) rfl hr.units) (pv 3) pe_int (nomark _)) (pss_one (ps_par (i := 2) (j := 3) (by rfl) sc__law_low.nd rfl rfl (by decide) rfl rfl (pa_cons (pv 3) (pa_cons (pe_op op_modN (pv 2) (pv 3)) pa_nil)) (by rfl))))
      (pss_one (ps_ret (pe_tup (pa_cons (pe_op op_fdivX (pv 0) (pv 2)) (pa_cons (pe_op op_fdivX (pv 1) (pv 2)) pa_nil)))))))), fun as S Ψ Ξ h => ?_⟩
  obtain ⟨v1top, v2bottom, rfl, h⟩ := ar2_inv h
  exact ⟨LW.B__law_low ca v1top v2bottom, h,
  (show GP K _ [.val v1top, .val v2bottom, .un, .un] _ _ _ from (gp_asg (p_cb cw_abs (v_cons (ep_var rfl) v_nil)) fun v3one =>
  (show GP K _ [.val v1top, .val v2bottom, .val v3one, .un] _ _ _ from (gp_asg (ep_var rfl) fun v4other =>
  (show GP K _ [.val v1top, .val v2bottom, .val v3one, .val v4other] _ _ _ from (gp_seq (gp_while (pat := (fun v5s => [.val v1top, .val v2bottom, .val v5s.1, .val v5s.2])) (s0 := (v3one, v4other)) (by exact ⟨.inr rfl, ⟨.inr rfl, ⟨.inr rfl, ⟨.inr rfl, trivial⟩⟩⟩⟩) (fun v6s => (t_tst (p_op ow_ne (ep_var rfl) ep_int))) (fun v6s =>
  (show GP K _ [.val v1top, .val v2bottom, .val v6s.1, .val v6s.2] _ _ _ from (g_last (fun (v7s : PV × PV) => (v7s.1, v7s.2)) (fun v7s => (by exact ⟨.inr rfl, ⟨.inr rfl, ⟨.inr rfl, ⟨.inr rfl, trivial⟩⟩⟩⟩)) (g_par2L (pat := (fun v7s => [.val v1top, .val v2bottom, .val v7s.1, .val v7s.2])) (v_cons (ep_var rfl) (v_cons (p_op ow_mod (ep_var rfl) (ep_var rfl)) v_nil)) fun _ => rfl))))) fun v5s =>
  (show GP K _ [.val v1top, .val v2bottom, .val v5s.1, .val v5s.2] _ _ _ from (gp_ret (p_tup (v_cons (p_op ow_fdiv (ep_var rfl) (ep_var rfl)) (v_cons (p_op ow_fdiv (ep_var rfl) (ep_var rfl)) v_nil)))))))))))⟩
abbrev s__law_word : Stmt := topS 27
theorem sc__law_word : FnScope ["_law_bag_here", "_law_letters", "_law_k"] ["_law_bag_here"] (defScope s__law_word) := ⟨rfl, rfl, rfl, by decide +kernel, rfl, by decide +kernel, by decide +kernel⟩
theorem ok__law_word [PW] {K : PySem.W.Frag} {mg : Str → Option Value} {base : Heap} {f : Addr} {fd : FuncData} {ca : Nat → Addr} (Fn : Fun K "_law_word" "_law_word" s__law_word f fd) (n_range : mg "range" = none) (C__law_out : Cal PW.P PW.w K mg base 1 "_law_out" ["_law_bag_here", "_law_many"] [] (spW K (ar2 SL.outW))) : FnOk PW.P PW.w K mg base CX0 2 f fd ["_law_bag_here"] (spW K (ar1 (LW.F__law_word ca))) := by
  refine foW (k := 1) Fn sc__law_word (by decide) le_ar1 fun cdv A outer s H E hr => ⟨_, (pss_cons (ps_set (i := 1) sc__law_word.nd rfl (.inr rfl) pe_str)
      (pss_one (ps_ret (pe_joinK (K := K) rfl pe_str (pe_lc (own := [("_law_k", 2)]) (by rfl) sc__law_word.nd (pi_range1 (by rfl) n_range (pa_cons (pe_op op_addU pe_int (pe_cal C__law_out hr (by decide) (by rfl) (pa_cons (pv 0) (pa_cons pe_int pa_nil)))) pa_nil)) (blkOk_by (own := [("_law_k", 2)]) (N := ["_law_bag_here", "_law_letters", "_law_k"]) (sc := defScope s__law_word) (by decide +kernel)) (fun _ _ _ _ _ => (pg_name (i := 2) sc__law_word.nd rfl (.inl rfl))) (fun _ _ _ _ _ => pts_nil) (fun _ _ _ _ _ => (pe_ix (ix_U (K := K) rfl) (pv 1) (pe_cal C__law_out hr (by decide) (by rfl) (pa_cons (pv 0) (pa_cons pe_int pa_nil))) (fun _ _ => rfl)))))))), fun as S Ψ Ξ h => ?_⟩
  obtain ⟨v1baghere, rfl, h⟩ := ar1_inv h
  exact ⟨LW.B__law_word ca v1baghere, h,
  (show GP K _ [.val v1baghere, .un, .un] _ _ _ from (gp_asg ep_str fun v2letters =>
  (show GP K _ [.val v1baghere, .val v2letters, .un] _ _ _ from (gp_ret (p_join ep_str (p_set (o_lc (Z' := fun _ _ _ _ => False) (w_range (v_cons (p_add ep_int (p_call (fun _ => .nil) (v_cons (ep_var rfl) (v_cons ep_int v_nil)))) v_nil)) tg_name (fun v4x => ⟨rfl, SL.t_yes, (p_op ow_ix (ep_var rfl) (p_call (fun _ => .nil) (v_cons (ep_var rfl) (v_cons ep_int v_nil))))⟩))))))))⟩
abbrev s__law_tests : Stmt := topS 28
theorem sc__law_tests : FnScope ["_law_bag_here", "_law_words", "_law_many", "_law_found", "_law_number", "_law_at", "_law_to", "_law_way", "_law_bottom", "_law_cut", "_law_word_here", "_law_some"] ["_law_bag_here", "_law_words", "_law_many"] (defScope s__law_tests) := ⟨rfl, rfl, rfl, by decide +kernel, rfl, by decide +kernel, by decide +kernel⟩
theorem ok__law_tests [PW] {K : PySem.W.Frag} {mg : Str → Option Value} {base : Heap} {f : Addr} {fd : FuncData} {ca : Nat → Addr} (Fn : Fun K "_law_tests" "_law_tests" s__law_tests f fd) (n_int : mg "int" = none) (n_len : mg "len" = none) (n_max : mg "max" = none) (n_range : mg "range" = none) (C__law_low : Cal PW.P PW.w K mg base 1 "_law_low" ["_law_top", "_law_bottom"] [] (spW K (ar2 (LW.F__law_low ca)))) (C__law_out : Cal PW.P PW.w K mg base 1 "_law_out" ["_law_bag_here", "_law_many"] [] (spW K (ar2 SL.outW))) : FnOk PW.P PW.w K mg base CX0 2 f fd ["_law_bag_here", "_law_words", "_law_many"] (spW K (ar3 (LW.F__law_tests ca))) := by
  refine foW (k := 1) Fn sc__law_tests (by decide) le_ar3 fun cdv A outer s H E hr => ⟨_, (pss_cons (ps_set (i := 3) sc__law_tests.nd rfl (.inl rfl) (pe_lst pa_nil))
      (pss_cons (ps_for PassesOwn.never rfl (pi_range1 (by rfl) n_range (pa_cons (pv 2) pa_nil)) (pg_name (i := 4) sc__law_tests.nd rfl (.inl rfl)) (pss_cons (ps_set (i := 5) sc__law_tests.nd rfl (.inl rfl) (pe_cal C__law_out hr (by decide) (by rfl) (pa_cons (pv 0) (pa_cons (pe_callB (call_max2 rfl) (by rfl) n_max PyProof.Rows.boot_max (pa_cons pe_int (pa_cons (pv 4) pa_nil))) pa_nil))))
      (pss_cons (ps_set (i := 6) sc__law_tests.nd rfl (.inl rfl) (pe_cal C__law_out hr (by decide) (by rfl) (pa_cons (pv 0) (pa_cons (pe_callB (call_max2 rfl) (by rfl) n_max PyProof.Rows.boot_max (pa_cons pe_int (pa_cons (pv 4) pa_nil))) pa_nil))))
      (pss_cons (ps_if (pt_cmpR (op_eqP (K := K) rfl hr.units) (pe_cal C__law_out hr (by decide) (by rfl) (pa_cons (pv 0) (pa_cons pe_int pa_nil))) pe_int (nomark _)) (pss_one (ps_set (i := 5) sc__law_tests.nd rfl (.inl rfl) (pe_callB (call_max2 rfl) (by rfl) n_max PyProof.Rows.boot_max (pa_cons pe_int (pa_cons (pe_op op_sub (pv 4) pe_int) pa_nil))))) pss_nil)
      (pss_cons (ps_set (i := 7) sc__law_tests.nd rfl (.inl rfl) (pe_ix (ix_U (K := K) rfl) (pe_lst (pa_cons pe_int (pa_cons (pe_cal C__law_out hr (by decide) (by rfl) (pa_cons (pv 0) (pa_cons pe_int pa_nil))) pa_nil))) (pe_callTy call_int1 (by rfl) n_int PyProof.Rows.boot_int (pa_cons (pe_cmpR op_gt (pv 4) pe_int (nomark _)) pa_nil)) (fun _ _ => rfl)))
      (pss_cons (ps_set (i := 8) sc__law_tests.nd rfl (.inl rfl) (pe_op op_addU pe_int (pe_cal C__law_out hr (by decide) (by rfl) (pa_cons (pv 0) (pa_cons pe_int pa_nil)))))
      (pss_cons (ps_set (i := 9) sc__law_tests.nd rfl (.inl rfl) (pe_cal C__law_low hr (by decide) (by rfl) (pa_cons (pe_cal C__law_out hr (by decide) (by rfl) (pa_cons (pv 0) (pa_cons (pe_op op_addU (pv 8) pe_int) pa_nil))) (pa_cons (pv 8) pa_nil))))
      (pss_cons (ps_set (i := 10) sc__law_tests.nd rfl (.inl rfl) (pe_ix (ix_U (K := K) rfl) (pv 1) (pe_cal C__law_out hr (by decide) (by rfl) (pa_cons (pv 0) (pa_cons (pe_callB (call_lenU (K := K) rfl) (by rfl) n_len PySem.boot_len (pa_cons (pv 1) pa_nil)) pa_nil))) (fun _ _ => rfl)))
      (pss_cons (ps_set (i := 11) sc__law_tests.nd rfl (.inl rfl) (pe_lst (pa_cons (pe_tup (pa_cons pe_str (pa_cons (pv 10) pa_nil))) (pa_cons (pe_tup (pa_cons pe_str (pa_cons (pv 5) pa_nil))) (pa_cons (pe_tup (pa_cons pe_str (pa_cons (pv 5) pa_nil))) (pa_cons (pe_tup (pa_cons pe_str (pa_cons (pv 5) (pa_cons (pv 9) pa_nil)))) (pa_cons (pe_tup (pa_cons pe_str (pa_cons (pv 5) (pa_cons (pv 6) pa_nil)))) (pa_cons (pe_tup (pa_cons pe_str (pa_cons (pv 5) (pa_cons (pv 6) pa_nil)))) pa_nil))))))))
      (pss_one (ps_expr (pe_bm PySem.F.plainAttrs_list PySem.F.slot_list_append PySem.F.type_list_append mt_append (pv 3) (pa_cons (pe_ix (ix_U (K := K) rfl) (pv 11) (pv 7) (fun _ _ => rfl)) pa_nil)))))))))))))
      (pss_one (ps_ret (pv 3))))), fun as S Ψ Ξ h => ?_⟩
  obtain ⟨v1baghere, v2words, v3many, rfl, h⟩ := ar3_inv h
  exact ⟨LW.B__law_tests ca v1baghere v2words v3many, h,
  (show GP K _ [.val v1baghere, .val v2words, .val v3many, .un, .un, .un, .un, .un, .un, .un, .un, .un] _ _ _ from (gp_own (o_lst v_nil) fun v4found =>
  (show GP K _ [.val v1baghere, .val v2words, .val v3many, .own v4found, .un, .un, .un, .un, .un, .un, .un, .un] _ _ _ from (gp_seq (gp_for (pat := (fun v5s => [.val v1baghere, .val v2words, .val v3many, .own v5s, .un, .un, .un, .un, .un, .un, .un, .un])) (s0 := v4found) (w_range (v_cons (ep_var rfl) v_nil)) tg_name (by exact ⟨.inr rfl, ⟨.inr rfl, ⟨.inr rfl, ⟨.inr rfl, ⟨.inl rfl, ⟨.inl rfl, ⟨.inl rfl, ⟨.inl rfl, ⟨.inl rfl, ⟨.inl rfl, ⟨.inl rfl, ⟨.inl rfl, trivial⟩⟩⟩⟩⟩⟩⟩⟩⟩⟩⟩⟩) (fun v7x v6s => ⟨rfl,
  (show GP K _ [.val v1baghere, .val v2words, .val v3many, .own v6s, .val v7x, .un, .un, .un, .un, .un, .un, .un] _ _ _ from (gp_asg (p_call (fun _ => .nil) (v_cons (ep_var rfl) (v_cons (p_cb cw_max2 (v_cons ep_int (v_cons (ep_var rfl) v_nil))) v_nil))) fun v8at =>
  (show GP K _ [.val v1baghere, .val v2words, .val v3many, .own v6s, .val v7x, .val v8at, .un, .un, .un, .un, .un, .un] _ _ _ from (gp_asg (p_call (fun _ => .nil) (v_cons (ep_var rfl) (v_cons (p_cb cw_max2 (v_cons ep_int (v_cons (ep_var rfl) v_nil))) v_nil))) fun v9to =>
  (show GP K _ [.val v1baghere, .val v2words, .val v3many, .own v6s, .val v7x, .val v8at, .val v9to, .un, .un, .un, .un, .un] _ _ _ from (gp_seq (gp_if (pat := (fun v10s => [.val v1baghere, .val v2words, .val v3many, .own v6s, .val v7x, .val v10s, .val v9to, .un, .un, .un, .un, .un])) (t_tst (p_op ow_eq (p_call (fun _ => .nil) (v_cons (ep_var rfl) (v_cons ep_int v_nil))) ep_int)) (show GP K _ [.val v1baghere, .val v2words, .val v3many, .own v6s, .val v7x, .val v8at, .val v9to, .un, .un, .un, .un, .un] _ _ _ from (g_last (fun (v11s : PV) => v11s) (fun v11s => (by exact ⟨.inr rfl, ⟨.inr rfl, ⟨.inr rfl, ⟨.inr rfl, ⟨.inr rfl, ⟨.inr rfl, ⟨.inr rfl, ⟨.inl rfl, ⟨.inl rfl, ⟨.inl rfl, ⟨.inl rfl, ⟨.inl rfl, trivial⟩⟩⟩⟩⟩⟩⟩⟩⟩⟩⟩⟩)) (gp_asg1 (pat := (fun v11s => [.val v1baghere, .val v2words, .val v3many, .own v6s, .val v7x, .val v11s, .val v9to, .un, .un, .un, .un, .un])) (f := fun a => a) (p_cb cw_max2 (v_cons ep_int (v_cons (p_op ow_sub (ep_var rfl) ep_int) v_nil))) fun _ => rfl))) (gp_less (by exact ⟨.inr rfl, ⟨.inr rfl, ⟨.inr rfl, ⟨.inr rfl, ⟨.inr rfl, ⟨.inr rfl, ⟨.inr rfl, ⟨.inl rfl, ⟨.inl rfl, ⟨.inl rfl, ⟨.inl rfl, ⟨.inl rfl, trivial⟩⟩⟩⟩⟩⟩⟩⟩⟩⟩⟩⟩) (gp_next (s := v8at) rfl))) fun v10s =>
  (show GP K _ [.val v1baghere, .val v2words, .val v3many, .own v6s, .val v7x, .val v10s, .val v9to, .un, .un, .un, .un, .un] _ _ _ from (gp_asg (p_op ow_ix (p_set (o_lst (v_cons ep_int (v_cons (p_call (fun _ => .nil) (v_cons (ep_var rfl) (v_cons ep_int v_nil))) v_nil)))) (p_cb cw_int (v_cons (p_op ow_gt (ep_var rfl) ep_int) v_nil))) fun v14way =>
  (show GP K _ [.val v1baghere, .val v2words, .val v3many, .own v6s, .val v7x, .val v10s, .val v9to, .val v14way, .un, .un, .un, .un] _ _ _ from (gp_asg (p_add ep_int (p_call (fun _ => .nil) (v_cons (ep_var rfl) (v_cons ep_int v_nil)))) fun v15bottom =>
  (show GP K _ [.val v1baghere, .val v2words, .val v3many, .own v6s, .val v7x, .val v10s, .val v9to, .val v14way, .val v15bottom, .un, .un, .un] _ _ _ from (gp_asg (p_call (fun _ => .nil) (v_cons (p_call (fun _ => .nil) (v_cons (ep_var rfl) (v_cons (p_add (ep_var rfl) ep_int) v_nil))) (v_cons (ep_var rfl) v_nil))) fun v16cut =>
  (show GP K _ [.val v1baghere, .val v2words, .val v3many, .own v6s, .val v7x, .val v10s, .val v9to, .val v14way, .val v15bottom, .val v16cut, .un, .un] _ _ _ from (gp_asg (p_op ow_ix (ep_var rfl) (p_call (fun _ => .nil) (v_cons (ep_var rfl) (v_cons (p_cb cw_len (v_cons (ep_var rfl) v_nil)) v_nil)))) fun v17wordhere =>
  (show GP K _ [.val v1baghere, .val v2words, .val v3many, .own v6s, .val v7x, .val v10s, .val v9to, .val v14way, .val v15bottom, .val v16cut, .val v17wordhere, .un] _ _ _ from (gp_asg (p_set (o_lst (v_cons (p_tup (v_cons ep_str (v_cons (ep_var rfl) v_nil))) (v_cons (p_tup (v_cons ep_str (v_cons (ep_var rfl) v_nil))) (v_cons (p_tup (v_cons ep_str (v_cons (ep_var rfl) v_nil))) (v_cons (p_tup (v_cons ep_str (v_cons (ep_var rfl) (v_cons (ep_var rfl) v_nil)))) (v_cons (p_tup (v_cons ep_str (v_cons (ep_var rfl) (v_cons (ep_var rfl) v_nil)))) (v_cons (p_tup (v_cons ep_str (v_cons (ep_var rfl) (v_cons (ep_var rfl) v_nil)))) v_nil)))))))) fun v18some =>
  (show GP K _ [.val v1baghere, .val v2words, .val v3many, .own v6s, .val v7x, .val v10s, .val v9to, .val v14way, .val v15bottom, .val v16cut, .val v17wordhere, .val v18some] _ _ _ from (g_last (fun (v19s : List PV) => v19s) (fun v19s => (by exact ⟨.inr rfl, ⟨.inr rfl, ⟨.inr rfl, ⟨.inr rfl, ⟨.inl rfl, ⟨.inl rfl, ⟨.inl rfl, ⟨.inl rfl, ⟨.inl rfl, ⟨.inl rfl, ⟨.inl rfl, ⟨.inl rfl, trivial⟩⟩⟩⟩⟩⟩⟩⟩⟩⟩⟩⟩)) (gp_app1 (pat := (fun v19s => [.val v1baghere, .val v2words, .val v3many, .own v19s, .val v7x, .val v10s, .val v9to, .val v14way, .val v15bottom, .val v16cut, .val v17wordhere, .val v18some])) (f := fun a => a) rfl (p_op ow_ix (ep_var rfl) (ep_var rfl)) fun _ => rfl)))))))))))))))))))⟩)) fun v5s =>
  (show GP K _ [.val v1baghere, .val v2words, .val v3many, .own v5s, .un, .un, .un, .un, .un, .un, .un, .un] _ _ _ from (gp_retV rfl))))))⟩
abbrev s__law_steps : Stmt := topS 29
theorem sc__law_steps : FnScope ["_law_rows", "_law_found", "_law_row"] ["_law_rows"] (defScope s__law_steps) := ⟨rfl, rfl, rfl, by decide +kernel, rfl, by decide +kernel, by decide +kernel⟩
theorem ok__law_steps [PW] {K : PySem.W.Frag} {mg : Str → Option Value} {base : Heap} {f : Addr} {fd : FuncData} {ca : Nat → Addr} (Fn : Fun K "_law_steps" "_law_steps" s__law_steps f fd) (n_int : mg "int" = none) (n_max : mg "max" = none) : FnOk PW.P PW.w K mg base CX0 1 f fd ["_law_rows"] (spW K (ar1 (F__law_steps ca))) := by
  refine foW (k := 0) Fn sc__law_steps (by decide) le_ar1 fun cdv A outer s H E hr => ⟨_, (pss_cons (ps_set (i := 1) sc__law_steps.nd rfl (.inl rfl) (pe_lst pa_nil))
      (pss_cons (ps_for PassesOwn.never rfl (pi_listK (K := K) rfl (pv 0)) (pg_name (i := 2) sc__law_steps.nd rfl (.inl rfl)) (pss_one (ps_if (pt_cmpR (op_eqP (K := K) rfl hr.units) (pe_ix (ix_U (K := K) rfl) (pv 2) pe_int (fun _ _ => rfl)) pe_str (nomark _)) (pss_one (ps_expr (pe_bm PySem.F.plainAttrs_list PySem.F.slot_list_append PySem.F.type_list_append mt_append (pv 1) (pa_cons pe_int pa_nil)))) (pss_one (ps_if (pt_cmpR (op_inW (K := K) rfl) (pe_ix (ix_U (K := K) rfl) (pv 2) pe_int (fun _ _ => rfl)) (pe_lst (pa_cons pe_str (pa_cons pe_str pa_nil))) (by rfl)) (pss_one (ps_expr (pe_bm PySem.F.plainAttrs_list PySem.F.slot_list_append PySem.F.type_list_append mt_append (pv 1) (pa_cons (pe_callB (call_max2 rfl) (by rfl) n_max PyProof.Rows.boot_max (pa_cons (pe_ix (ix_U (K := K) rfl) (pv 1) (pe_ix (ix_U (K := K) rfl) (pv 2) pe_int (fun _ _ => rfl)) (fun _ _ => rfl)) (pa_cons (pe_ix (ix_U (K := K) rfl) (pv 1) (pe_ix (ix_U (K := K) rfl) (pv 2) pe_int (fun _ _ => rfl)) (fun _ _ => rfl)) pa_nil))) pa_nil)))) (pss_one (ps_expr (pe_bm PySem.F.plainAttrs_list PySem.F.slot_list_append PySem.F.type_list_append mt_append (pv 1) (pa_cons (pe_op op_addU (pe_ix (ix_U (K := K) rfl) (pv 1) (pe_ix (ix_U (K := K) rfl) (pv 2) pe_int (fun _ _ => rfl)) (fun _ _ => rfl)) (pe_callTy call_int1 (by rfl) n_int PyProof.Rows.boot_int (pa_cons (pe_cmpR (op_eqP (K := K) rfl hr.units) (pe_ix (ix_U (K := K) rfl) (pv 2) pe_int (fun _ _ => rfl)) pe_str (nomark _)) pa_nil))) pa_nil)))))))))
      (pss_one (ps_ret (pv 1))))), fun as S Ψ Ξ h => ?_⟩
  obtain ⟨v1rows, rfl, h⟩ := ar1_inv h
  exact ⟨B__law_steps ca v1rows, h,
  (show GP K _ [.val v1rows, .un, .un] _ _ _ from (gp_own (o_lst v_nil) fun v2found =>
  (show GP K _ [.val v1rows, .own v2found, .un] _ _ _ from (gp_seq (gp_for (pat := (fun v3s => [.val v1rows, .own v3s, .un])) (s0 := v2found) (w_list (ep_var rfl)) tg_name (by exact ⟨.inr rfl, ⟨.inr rfl, ⟨.inl rfl, trivial⟩⟩⟩) (fun v5x v4s => ⟨rfl,
  (show GP K _ [.val v1rows, .own v4s, .val v5x] _ _ _ from (g_last (fun (v6s : List PV) => v6s) (fun v6s => (by exact ⟨.inr rfl, ⟨.inr rfl, ⟨.inl rfl, trivial⟩⟩⟩)) (gp_if (pat := (fun v6s => [.val v1rows, .own v6s, .val v5x])) (t_tst (p_op ow_eq (p_op ow_ix (ep_var rfl) ep_int) ep_str)) (show GP K _ [.val v1rows, .own v4s, .val v5x] _ _ _ from (g_last (fun (v7s : List PV) => v7s) (fun v7s => (by exact ⟨.inr rfl, ⟨.inr rfl, ⟨.inr rfl, trivial⟩⟩⟩)) (gp_app1 (pat := (fun v7s => [.val v1rows, .own v7s, .val v5x])) (f := fun a => a) rfl ep_int fun _ => rfl))) (show GP K _ [.val v1rows, .own v4s, .val v5x] _ _ _ from (g_last (fun (v8s : List PV) => v8s) (fun v8s => (by exact ⟨.inr rfl, ⟨.inr rfl, ⟨.inr rfl, trivial⟩⟩⟩)) (gp_if (pat := (fun v8s => [.val v1rows, .own v8s, .val v5x])) (t_tst (p_op ow_inS (p_op ow_ix (ep_var rfl) ep_int) (p_set (o_lst (v_cons ep_str (v_cons ep_str v_nil)))))) (show GP K _ [.val v1rows, .own v4s, .val v5x] _ _ _ from (g_last (fun (v9s : List PV) => v9s) (fun v9s => (by exact ⟨.inr rfl, ⟨.inr rfl, ⟨.inr rfl, trivial⟩⟩⟩)) (gp_app1 (pat := (fun v9s => [.val v1rows, .own v9s, .val v5x])) (f := fun a => a) rfl (p_lend (i := 1) rfl (p_cb cw_max2 (v_cons (p_op ow_ix (ep_var rfl) (p_op ow_ix (ep_var rfl) ep_int)) (v_cons (p_op ow_ix (ep_var rfl) (p_op ow_ix (ep_var rfl) ep_int)) v_nil)))) fun _ => rfl))) (show GP K _ [.val v1rows, .own v4s, .val v5x] _ _ _ from (g_last (fun (v10s : List PV) => v10s) (fun v10s => (by exact ⟨.inr rfl, ⟨.inr rfl, ⟨.inr rfl, trivial⟩⟩⟩)) (gp_app1 (pat := (fun v10s => [.val v1rows, .own v10s, .val v5x])) (f := fun a => a) rfl (p_lend (i := 1) rfl (p_add (p_op ow_ix (ep_var rfl) (p_op ow_ix (ep_var rfl) ep_int)) (p_cb cw_int (v_cons (p_op ow_eq (p_op ow_ix (ep_var rfl) ep_int) ep_str) v_nil)))) fun _ => rfl)))))))))⟩)) fun v3s =>
  (show GP K _ [.val v1rows, .own v3s, .un] _ _ _ from (gp_retV rfl))))))⟩
abbrev s__law_looks_right : Stmt := topS 30
theorem sc__law_looks_right : FnScope ["_law_sheet", "_law_rows"] ["_law_sheet", "_law_rows"] (defScope s__law_looks_right) := ⟨rfl, rfl, rfl, by decide +kernel, rfl, by decide +kernel, by decide +kernel⟩
theorem ok__law_looks_right [PW] {K : PySem.W.Frag} {mg : Str → Option Value} {base : Heap} {f : Addr} {fd : FuncData} {ca : Nat → Addr} (Fn : Fun K "_law_looks_right" "_law_looks_right" s__law_looks_right f fd) (n_len : mg "len" = none) (n_repr : mg "repr" = none) (n_str : mg "str" = none) (L_Sheet : LenO PW.P PW.w K mg base (ca 1) 1 (spW K (ar1 (NT.F_Sheet___len__ ca)))) (SO_Sheet : StrO PW.P PW.w K mg base (ca 1) 1 (spW K (ar1 (NT.F_Sheet___str__ ca)))) (RC_Sheet : RepC PW.P PW.w K mg base (ca 1) 1 nsS txS) (M_Sheet_rows : CalM PW.P PW.w K mg base (ca 1) 1 "rows" ["self"] (spW K (ar1 (NT.F_Sheet_rows ca)))) (M_Sheet_steps : CalM PW.P PW.w K mg base (ca 1) 2 "steps" ["self"] (spW K (ar1 (NT.F_Sheet_steps ca)))) (C__law_steps : Cal PW.P PW.w K mg base 1 "_law_steps" ["_law_rows"] [] (spW K (ar1 (F__law_steps ca)))) (y_sys : ∃ o, K.lookup sysModules = some o) : FnG PW.P PW.w K mg base CX0 4 f fd ["_law_sheet", "_law_rows"] (spW K (ar2 (F__law_looks_right ca))) := by
  refine fnW (k := 3) Fn sc__law_looks_right (by decide) le_ar2 fun cdv A outer s H E gd hr => ⟨_, (pss_cons (ps_if (PW.pt (pw_or (pt_cmpR (op_neP (K := K) rfl hr.units) (pe_callB (call_repP (K := K) rfl y_sys gd hr.units) (by rfl) n_repr (by decide +kernel) (pa_cons (pe_cm0 M_Sheet_rows hr (by decide) (pv 0)) pa_nil)) (pe_callB (call_repP (K := K) rfl y_sys gd hr.units) (by rfl) n_repr (by decide +kernel) (pa_cons (pv 1) pa_nil)) (nomark _)) (pw_or (pt_cmpR (op_neP (K := K) rfl hr.units) (pe_callB (call_repP (K := K) rfl y_sys gd hr.units) (by rfl) n_repr (by decide +kernel) (pa_cons (pe_cm0 M_Sheet_steps hr (by decide) (pv 0)) pa_nil)) (pe_callB (call_repP (K := K) rfl y_sys gd hr.units) (by rfl) n_repr (by decide +kernel) (pa_cons (pe_cal C__law_steps hr (by decide) (by rfl) (pa_cons (pv 1) pa_nil)) pa_nil)) (nomark _)) (pw_or1 (pt_cmpR (op_neP (K := K) rfl hr.units) (pe_callB (call_lenO L_Sheet hr (by decide)) (by rfl) n_len PySem.boot_len (pa_cons (pv 0) pa_nil)) (pe_callB (call_lenU (K := K) rfl) (by rfl) n_len PySem.boot_len (pa_cons (pv 1) pa_nil)) (nomark _)))))) (pss_one (ps_ret pe_bl)) pss_nil)
      (pss_one (ps_ret (pe_and (pe_cmpR (op_eqP (K := K) rfl hr.units) (pe_callB (call_repO RC_Sheet gd hr (by decide)) (by rfl) n_repr (by decide +kernel) (pa_cons (pv 0) pa_nil)) (pe_op op_addU (pe_op op_addU pe_str (pe_callTy call_strI (by rfl) n_str (by decide +kernel) (pa_cons (pe_callB (call_lenU (K := K) rfl) (by rfl) n_len PySem.boot_len (pa_cons (pv 1) pa_nil)) pa_nil))) pe_str) (nomark _)) (pe_one (pe_cmpR (op_eqP (K := K) rfl hr.units) (pe_callTy (call_strO SO_Sheet hr (by decide)) (by rfl) n_str (by decide +kernel) (pa_cons (pv 0) pa_nil)) (pe_callB (call_repO RC_Sheet gd hr (by decide)) (by rfl) n_repr (by decide +kernel) (pa_cons (pv 0) pa_nil)) (nomark _))))))), fun as S Ψ Ξ h => ?_⟩
  obtain ⟨v1sheet, v2rows, rfl, h⟩ := ar2_inv h
  exact ⟨B__law_looks_right ca v1sheet v2rows, h,
  (show GP K _ [.val v1sheet, .val v2rows] _ _ _ from (gp_when (pe := fun s => s.elim) (t_orT (t_tst (p_op ow_ne (p_cb cw_rep (v_cons (p_set (o_meth (ep_var rfl) v_nil)) v_nil)) (p_cb cw_rep (v_cons (ep_var rfl) v_nil)))) (t_orT (t_tst (p_op ow_ne (p_cb cw_rep (v_cons (p_set (o_meth (ep_var rfl) v_nil)) v_nil)) (p_cb cw_rep (v_cons (p_set (o_call (fun _ => .nil) (v_cons (ep_var rfl) v_nil))) v_nil)))) (t_tst (p_op ow_ne (p_lenO (ep_var rfl)) (p_cb cw_len (v_cons (ep_var rfl) v_nil)))))) (show GP K _ [.val v1sheet, .val v2rows] _ _ _ from (gp_ret ep_bl))
  (show GP K _ [.val v1sheet, .val v2rows] _ _ _ from (gp_ret (p_and (p_op ow_eq (p_repO (ep_var rfl)) (p_add (p_add ep_str (p_cb cw_strI (v_cons (p_cb cw_len (v_cons (ep_var rfl) v_nil)) v_nil))) ep_str)) (p_op ow_eq (p_strO (ep_var rfl)) (p_repO (ep_var rfl))))))))⟩
abbrev s_law : Stmt := topS 31
theorem sc_law : FnScope ["_law_script", "_law_k", "_law_bag_here", "_law_rows", "_law_handed", "_law_sheet", "_law_twin", "_law_at", "_law_bent", "_law_other", "_law_held", "_law_one", "_law_some", "_law_thing"] ["_law_script"] (defScope s_law) := ⟨rfl, rfl, rfl, by decide +kernel, rfl, by decide +kernel, by decide +kernel⟩
theorem ok0_law [PW] {K : PySem.W.Frag} {mg : Str → Option Value} {base : Heap} {f : Addr} {fd : FuncData} {ca : Nat → Addr} (Fn : Fun K "law" "law" s_law f fd) (n_len : mg "len" = none) (n_list : mg "list" = none) (n_max : mg "max" = none) (n_min : mg "min" = none) (n_range : mg "range" = none) (n_repr : mg "repr" = none) (n_tuple : mg "tuple" = none) (E_Sheet : EqO PW.P PW.w K mg base (ca 1) 1 (spW K (ar2 (F_Sheet___eq__ ca)))) (EQ_Sheet : EqC K (ca 1)) (RC_Sheet : RepC PW.P PW.w K mg base (ca 1) 1 nsS txS) (K_Sheet : CalK PW.P PW.w K mg base 8 "Sheet" (ca 1) ["self", "rows"] (spW K (ar2 (F_Sheet___init__ ca)))) (M_Sheet_rows : CalM PW.P PW.w K mg base (ca 1) 1 "rows" ["self"] (spW K (ar1 (NT.F_Sheet_rows ca)))) (M_Sheet_steps : CalM PW.P PW.w K mg base (ca 1) 2 "steps" ["self"] (spW K (ar1 (NT.F_Sheet_steps ca)))) (C__law_bag : Cal PW.P PW.w K mg base 1 "_law_bag" ["_law_script", "_law_k"] [] (spW K (ar2 SL.bagW))) (C__law_looks_right : CaG PW.P PW.w K mg base CX0 4 "_law_looks_right" ["_law_sheet", "_law_rows"] [] (spW K (ar2 (F__law_looks_right ca)))) (C__law_out : Cal PW.P PW.w K mg base 1 "_law_out" ["_law_bag_here", "_law_many"] [] (spW K (ar2 SL.outW))) (C__law_tests : Cal PW.P PW.w K mg base 2 "_law_tests" ["_law_bag_here", "_law_words", "_law_many"] [] (spW K (ar3 (LW.F__law_tests ca)))) (C__law_word : Cal PW.P PW.w K mg base 2 "_law_word" ["_law_bag_here"] [] (spW K (ar1 (LW.F__law_word ca)))) : FnG PW.P PW.w K mg base CX0 10 f fd ["_law_script"] (spW K (ar1 (F0_law ca))) := by
  refine fnW (k := 9) Fn sc_law (by decide) le_ar1 fun cdv A outer s H E gd hr => ⟨_, (pss_cons (ps_for PassesOwn.never rfl (pi_range1 (by rfl) n_range (pa_cons (pe_callB (call_max2 rfl) (by rfl) n_max PyProof.Rows.boot_max (pa_cons pe_int (pa_cons (pe_callB (call_min2 rfl) (by rfl) n_min PyProof.Rows.boot_min (pa_cons (pe_callB (call_lenU (K := K) rfl) (by rfl) n_len PySem.boot_len (pa_cons (pv 0) pa_nil)) (pa_cons pe_int pa_nil))) pa_nil))) pa_nil)) (pg_name (i := 1) sc_law.nd rfl (.inl rfl)) (pss_cons (ps_set (i := 2) sc_law.nd rfl (.inl rfl) (pe_cal C__law_bag hr (by decide) (by rfl) (pa_cons (pv 0) (pa_cons (pv 1) pa_nil))))
      (pss_cons (ps_set (i := 3) sc_law.nd rfl (.inl rfl) (pe_cal C__law_tests hr (by decide) (by rfl) (pa_cons (pv 2) (pa_cons (pe_lst (pa_cons (pe_cal C__law_word hr (by decide) (by rfl) (pa_cons (pv 2) pa_nil)) (pa_cons pe_str pa_nil))) (pa_cons (pe_op op_addU pe_int (pe_cal C__law_out hr (by decide) (by rfl) (pa_cons (pv 2) (pa_cons pe_int pa_nil)))) pa_nil)))))
      (pss_cons (ps_set (i := 4) sc_law.nd rfl (.inl rfl) (pe_callTy (call_listK (K := K) rfl) (by rfl) n_list PyProof.Rows.boot_list (pa_cons (pv 3) pa_nil)))
      (pss_cons (ps_set (i := 5) sc_law.nd rfl (.inl rfl) (pe_calK K_Sheet hr (by decide) (by rfl) (pa_cons (pv 4) pa_nil)))
      (pss_cons (ps_set (i := 6) sc_law.nd rfl (.inl rfl) (pe_calK K_Sheet hr (by decide) (by rfl) (pa_cons (pv 4) pa_nil)))
      (pss_cons (ps_set (i := 7) sc_law.nd rfl (.inl rfl) (pe_cal C__law_out hr (by decide) (by rfl) (pa_cons (pv 2) (pa_cons (pe_callB (call_lenU (K := K) rfl) (by rfl) n_len PySem.boot_len (pa_cons (pv 3) pa_nil)) pa_nil))))
      (pss_cons (ps_set (i := 8) sc_law.nd rfl (.inl rfl) (pe_op op_addU (pe_op op_addU (pe_sliceK (K := K) rfl (pv 3) po_none (po_some (pv 7))) (pe_lst (pa_cons (pe_tup (pa_cons pe_str (pa_cons pe_str pa_nil))) pa_nil))) (pe_sliceK (K := K) rfl (pv 3) (po_some (pe_op op_addU (pv 7) pe_int)) po_none)))
      (pss_cons (ps_set (i := 9) sc_law.nd rfl (.inl rfl) (pe_calK K_Sheet hr (by decide) (by rfl) (pa_cons (pv 8) pa_nil)))
      (pss_cons (ps_if (PW.pt (pw_or (pt_not (pt_val (pe_caG C__law_looks_right gd hr (by decide) (by rfl) (pa_cons (pv 5) (pa_cons (pv 3) pa_nil))))) (pw_or1 (pt_cmpR (op_neP (K := K) rfl hr.units) (pv 4) (pv 3) (nomark _))))) (pss_one (ps_ret pe_bl)) pss_nil)
      (pss_cons (ps_set (i := 10) sc_law.nd rfl (.inl rfl) (pe_lst (pa_cons (pe_cm0 M_Sheet_rows hr (by decide) (pv 5)) (pa_cons (pe_cm0 M_Sheet_steps hr (by decide) (pv 5)) pa_nil))))
      (pss_cons (ps_expr (pe_bmH (K := K) rfl (pe_bm PySem.F.plainAttrs_list PySem.F.slot_list_append PySem.F.type_list_append mt_append (pe_ix (ix_U (K := K) rfl) (pv 10) pe_int (fun _ _ => rfl)) (pa_cons pe_non pa_nil))))
      (pss_cons (ps_expr (pe_bm0 PySem.F.plainAttrs_list PySem.F.slot_list_clear PySem.F.type_list_clear mt_clear (pe_ix (ix_U (K := K) rfl) (pv 10) pe_int (fun _ _ => rfl))))
      (pss_cons (ps_expr (pe_bm0 PySem.F.plainAttrs_list PySem.F.slot_list_clear PySem.F.type_list_clear mt_clear (pv 4)))
      (pss_cons (ps_for PassesOwn.never rfl (pi_listK (K := K) rfl (pe_lst (pa_cons (pv 5) (pa_cons (pv 6) pa_nil)))) (pg_name (i := 11) sc_law.nd rfl (.inl rfl)) (pss_one (ps_if (PW.pt (pw_or (pt_not (pt_val (pe_caG C__law_looks_right gd hr (by decide) (by rfl) (pa_cons (pv 11) (pa_cons (pv 3) pa_nil))))) (pw_or1 (pt_cmpR (op_neP (K := K) rfl hr.units) (pv 10) (pe_lst (pa_cons (pe_op op_addU (pv 3) (pe_lst (pa_cons pe_non pa_nil))) (pa_cons (pe_lst pa_nil) pa_nil))) (nomark _))))) (pss_one (ps_ret pe_bl)) pss_nil)))
      (pss_cons (ps_if (PW.pt (pw_or (pt_not (pt_val (pe_caG C__law_looks_right gd hr (by decide) (by rfl) (pa_cons (pv 9) (pa_cons (pv 8) pa_nil))))) (pw_or (pt_cmpR op_notBl (pe_cmpR (op_eqU2 (K := K) rfl E_Sheet EQ_Sheet hr (by decide)) (pv 5) (pv 6) (nomark _)) pe_bl (nomark _)) (pw_or1 (pt_cmpR op_notBl (pe_cmpR (op_eqU2 (K := K) rfl E_Sheet EQ_Sheet hr (by decide)) (pv 6) (pv 5) (nomark _)) pe_bl (nomark _)))))) (pss_one (ps_ret pe_bl)) pss_nil)
      (pss_cons (ps_if (PW.pt (pw_or (pt_cmpR (op_neP (K := K) rfl hr.units) (pe_cmpR (op_eqU2 (K := K) rfl E_Sheet EQ_Sheet hr (by decide)) (pv 5) (pv 9) (nomark _)) (pe_cmpR (op_eqP (K := K) rfl hr.units) (pv 8) (pv 3) (nomark _)) (nomark _)) (pw_or (pt_cmpR (op_neP (K := K) rfl hr.units) (pe_cmpR (op_eqU2 (K := K) rfl E_Sheet EQ_Sheet hr (by decide)) (pv 9) (pv 5) (nomark _)) (pe_cmpR (op_eqP (K := K) rfl hr.units) (pv 8) (pv 3) (nomark _)) (nomark _)) (pw_or1 (pt_cmpR (op_notInOK (K := K) rfl E_Sheet EQ_Sheet hr (by decide)) (pv 5) (pe_lst (pa_cons pe_non (pa_cons (pv 6) pa_nil))) (by rfl)))))) (pss_one (ps_ret pe_bl)) pss_nil)
      (pss_cons (ps_for PassesOwn.never rfl (pi_listK (K := K) rfl (pe_lst (pa_cons (pe_sliceK (K := K) rfl (pv 3) po_none (po_some pe_int)) (pa_cons (pe_op op_addU (pv 3) (pe_lst (pa_cons (pe_tup (pa_cons pe_str (pa_cons pe_int pa_nil))) pa_nil))) pa_nil)))) (pg_name (i := 12) sc_law.nd rfl (.inl rfl)) (pss_one (ps_if (PW.pt (pw_or (pt_cmpR (op_neP (K := K) rfl hr.units) (pe_cmpR (op_eqU2 (K := K) rfl E_Sheet EQ_Sheet hr (by decide)) (pv 5) (pe_calK K_Sheet hr (by decide) (by rfl) (pa_cons (pv 12) pa_nil)) (nomark _)) (pe_cmpR (op_eqP (K := K) rfl hr.units) (pv 12) (pv 3) (nomark _)) (nomark _)) (pw_or1 (pt_cmpR (op_neP (K := K) rfl hr.units) (pe_cmpR (op_eqU2 (K := K) rfl E_Sheet EQ_Sheet hr (by decide)) (pe_calK K_Sheet hr (by decide) (by rfl) (pa_cons (pv 12) pa_nil)) (pv 5) (nomark _)) (pe_cmpR (op_eqP (K := K) rfl hr.units) (pv 12) (pv 3) (nomark _)) (nomark _))))) (pss_one (ps_ret pe_bl)) pss_nil)))
      (pss_one (ps_for PassesOwn.never rfl (pi_listK (K := K) rfl (pe_lst (pa_cons pe_non (pa_cons pe_int (pa_cons (pe_callB (call_repO RC_Sheet gd hr (by decide)) (by rfl) n_repr (by decide +kernel) (pa_cons (pv 5) pa_nil)) (pa_cons (pv 3) (pa_cons (pe_callTy (call_tupK (K := K) rfl) (by rfl) n_tuple (by decide +kernel) (pa_cons (pv 3) pa_nil)) (pa_cons (pe_lst (pa_cons (pv 5) pa_nil)) (pa_cons pe_dnewK (pa_cons pe_bl (pa_cons pe_str (pa_cons (pv 8) pa_nil)))))))))))) (pg_name (i := 13) sc_law.nd rfl (.inl rfl)) (pss_one (ps_if (PW.pt (pw_or (pt_cmpR op_notBl (pe_cmpR (op_eqU2 (K := K) rfl E_Sheet EQ_Sheet hr (by decide)) (pv 5) (pv 13) (nomark _)) pe_bl (nomark _)) (pw_or1 (pt_cmpR (op_inOK (K := K) rfl E_Sheet EQ_Sheet hr (by decide)) (pv 5) (pe_lst (pa_cons (pv 13) pa_nil)) (by rfl))))) (pss_one (ps_ret pe_bl)) pss_nil))))))))))))))))))))))
      (pss_one (ps_ret pe_bl))), fun as S Ψ Ξ h => ?_⟩
  obtain ⟨v1script, rfl, h⟩ := ar1_inv h
  exact ⟨B_law ca v1script, h,
  (show GP K _ [.val v1script, .un, .un, .un, .un, .un, .un, .un, .un, .un, .un, .un, .un, .un] _ _ _ from (gp_seq (gp_for (pat := (fun (_ : Unit) => [.val v1script, .un, .un, .un, .un, .un, .un, .un, .un, .un, .un, .un, .un, .un])) (s0 := ()) (w_range (v_cons (p_cb cw_max2 (v_cons ep_int (v_cons (p_cb cw_min2 (v_cons (p_cb cw_len (v_cons (ep_var rfl) v_nil)) (v_cons ep_int v_nil))) v_nil))) v_nil)) tg_name (by exact ⟨.inr rfl, ⟨.inl rfl, ⟨.inl rfl, ⟨.inl rfl, ⟨.inl rfl, ⟨.inl rfl, ⟨.inl rfl, ⟨.inl rfl, ⟨.inl rfl, ⟨.inl rfl, ⟨.inl rfl, ⟨.inl rfl, ⟨.inl rfl, ⟨.inl rfl, trivial⟩⟩⟩⟩⟩⟩⟩⟩⟩⟩⟩⟩⟩⟩) (fun v4x v3s => ⟨rfl,
  (show GP K _ [.val v1script, .val v4x, .un, .un, .un, .un, .un, .un, .un, .un, .un, .un, .un, .un] _ _ _ from (gp_asg (p_bag2 (o_call (fun _ => .nil) (v_cons (ep_var rfl) (v_cons (ep_var rfl) v_nil)))) fun v5baghere =>
  (show GP K _ [.val v1script, .val v4x, .val v5baghere, .un, .un, .un, .un, .un, .un, .un, .un, .un, .un, .un] _ _ _ from (gp_asg (p_set (o_call (fun _ => .nil) (v_cons (ep_var rfl) (v_cons (p_set (o_lst (v_cons (p_call (fun _ => .nil) (v_cons (ep_var rfl) v_nil)) (v_cons ep_str v_nil)))) (v_cons (p_add ep_int (p_call (fun _ => .nil) (v_cons (ep_var rfl) (v_cons ep_int v_nil)))) v_nil))))) fun v6rows =>
  (show GP K _ [.val v1script, .val v4x, .val v5baghere, .val v6rows, .un, .un, .un, .un, .un, .un, .un, .un, .un, .un] _ _ _ from (gp_asg (p_cell (o_cb cm_list (v_cons (ep_var rfl) v_nil))) fun v7handed =>
  (show GP K _ [.val v1script, .val v4x, .val v5baghere, .val v6rows, .val v7handed, .un, .un, .un, .un, .un, .un, .un, .un, .un] _ _ _ from (gp_asg (p_make (fun _ => .nil) (v_cons (ep_var rfl) v_nil)) fun v8sheet =>
  (show GP K _ [.val v1script, .val v4x, .val v5baghere, .val v6rows, .val v7handed, .val v8sheet, .un, .un, .un, .un, .un, .un, .un, .un] _ _ _ from (gp_asg (p_make (fun _ => .nil) (v_cons (ep_var rfl) v_nil)) fun v9twin =>
  (show GP K _ [.val v1script, .val v4x, .val v5baghere, .val v6rows, .val v7handed, .val v8sheet, .val v9twin, .un, .un, .un, .un, .un, .un, .un] _ _ _ from (gp_asg (p_call (fun _ => .nil) (v_cons (ep_var rfl) (v_cons (p_cb cw_len (v_cons (ep_var rfl) v_nil)) v_nil))) fun v10at =>
  (show GP K _ [.val v1script, .val v4x, .val v5baghere, .val v6rows, .val v7handed, .val v8sheet, .val v9twin, .val v10at, .un, .un, .un, .un, .un, .un] _ _ _ from (gp_asg (p_add (p_add (p_set (o_cut (ep_var rfl) op_none (op_part (ep_var rfl)))) (p_set (o_lst (v_cons (p_tup (v_cons ep_str (v_cons ep_str v_nil))) v_nil)))) (p_set (o_cut (ep_var rfl) (op_part (p_add (ep_var rfl) ep_int)) op_none))) fun v11bent =>
  (show GP K _ [.val v1script, .val v4x, .val v5baghere, .val v6rows, .val v7handed, .val v8sheet, .val v9twin, .val v10at, .val v11bent, .un, .un, .un, .un, .un] _ _ _ from (gp_asg (p_make (fun _ => .nil) (v_cons (ep_var rfl) v_nil)) fun v12other =>
  (show GP K _ [.val v1script, .val v4x, .val v5baghere, .val v6rows, .val v7handed, .val v8sheet, .val v9twin, .val v10at, .val v11bent, .val v12other, .un, .un, .un, .un] _ _ _ from (gp_when (pe := fun s => s.elim) (t_orT (t_notT (t_tB (p_call (fun _ => .nil) (v_cons (ep_var rfl) (v_cons (ep_var rfl) v_nil))))) (t_tst (p_lendN (i := 4) rfl fun v13handed => (p_op ow_ne (ep_var rfl) (ep_var rfl))))) (show GP K _ [.val v1script, .val v4x, .val v5baghere, .val v6rows, .val v7handed, .val v8sheet, .val v9twin, .val v10at, .val v11bent, .val v12other, .un, .un, .un, .un] _ _ _ from (gp_ret ep_bl))
  (show GP K _ [.val v1script, .val v4x, .val v5baghere, .val v6rows, .val v7handed, .val v8sheet, .val v9twin, .val v10at, .val v11bent, .val v12other, .un, .un, .un, .un] _ _ _ from (gp_asg (p_cell (o_lst (v_cons (p_cell (o_meth (ep_var rfl) v_nil)) (v_cons (p_cell (o_meth (ep_var rfl) v_nil)) v_nil)))) fun v15held =>
  (show GP K _ [.val v1script, .val v4x, .val v5baghere, .val v6rows, .val v7handed, .val v8sheet, .val v9twin, .val v10at, .val v11bent, .val v12other, .val v15held, .un, .un, .un] _ _ _ from (gp_pushC (p_ixC (ep_var rfl) ep_int) ep_non
  (show GP K _ [.val v1script, .val v4x, .val v5baghere, .val v6rows, .val v7handed, .val v8sheet, .val v9twin, .val v10at, .val v11bent, .val v12other, .val v15held, .un, .un, .un] _ _ _ from (gp_clrC (p_ixC (ep_var rfl) ep_int)
  (show GP K _ [.val v1script, .val v4x, .val v5baghere, .val v6rows, .val v7handed, .val v8sheet, .val v9twin, .val v10at, .val v11bent, .val v12other, .val v15held, .un, .un, .un] _ _ _ from (gp_clrC (ep_var rfl)
  (show GP K _ [.val v1script, .val v4x, .val v5baghere, .val v6rows, .val v7handed, .val v8sheet, .val v9twin, .val v10at, .val v11bent, .val v12other, .val v15held, .un, .un, .un] _ _ _ from (gp_seq (gp_for (pat := (fun (_ : Unit) => [.val v1script, .val v4x, .val v5baghere, .val v6rows, .val v7handed, .val v8sheet, .val v9twin, .val v10at, .val v11bent, .val v12other, .val v15held, .un, .un, .un])) (s0 := ()) (w_list (p_set (o_lst (v_cons (ep_var rfl) (v_cons (ep_var rfl) v_nil))))) tg_name (by exact ⟨.inr rfl, ⟨.inr rfl, ⟨.inr rfl, ⟨.inr rfl, ⟨.inr rfl, ⟨.inr rfl, ⟨.inr rfl, ⟨.inr rfl, ⟨.inr rfl, ⟨.inr rfl, ⟨.inr rfl, ⟨.inl rfl, ⟨.inl rfl, ⟨.inl rfl, trivial⟩⟩⟩⟩⟩⟩⟩⟩⟩⟩⟩⟩⟩⟩) (fun v18x v17s => ⟨rfl,
  (show GP K _ [.val v1script, .val v4x, .val v5baghere, .val v6rows, .val v7handed, .val v8sheet, .val v9twin, .val v10at, .val v11bent, .val v12other, .val v15held, .val v18x, .un, .un] _ _ _ from (g_last (fun _ => ()) (fun _ => (by exact ⟨.inr rfl, ⟨.inr rfl, ⟨.inr rfl, ⟨.inr rfl, ⟨.inr rfl, ⟨.inr rfl, ⟨.inr rfl, ⟨.inr rfl, ⟨.inr rfl, ⟨.inr rfl, ⟨.inr rfl, ⟨.inl rfl, ⟨.inl rfl, ⟨.inl rfl, trivial⟩⟩⟩⟩⟩⟩⟩⟩⟩⟩⟩⟩⟩⟩)) (gp_if (pat := (fun (_ : Unit) => [.val v1script, .val v4x, .val v5baghere, .val v6rows, .val v7handed, .val v8sheet, .val v9twin, .val v10at, .val v11bent, .val v12other, .val v15held, .val v18x, .un, .un])) (t_orT (t_notT (t_tB (p_call (fun _ => .nil) (v_cons (ep_var rfl) (v_cons (ep_var rfl) v_nil))))) (t_tst (p_lendN (i := 10) rfl fun v20held => (p_op ow_ne (ep_var rfl) (p_set (o_lst (v_cons (p_add (ep_var rfl) (p_set (o_lst (v_cons ep_non v_nil)))) (v_cons (p_set (o_lst v_nil)) v_nil)))))))) (show GP K _ [.val v1script, .val v4x, .val v5baghere, .val v6rows, .val v7handed, .val v8sheet, .val v9twin, .val v10at, .val v11bent, .val v12other, .val v15held, .val v18x, .un, .un] _ _ _ from (gp_ret ep_bl)) (gp_less (by exact ⟨.inr rfl, ⟨.inr rfl, ⟨.inr rfl, ⟨.inr rfl, ⟨.inr rfl, ⟨.inr rfl, ⟨.inr rfl, ⟨.inr rfl, ⟨.inr rfl, ⟨.inr rfl, ⟨.inr rfl, ⟨.inr rfl, ⟨.inl rfl, ⟨.inl rfl, trivial⟩⟩⟩⟩⟩⟩⟩⟩⟩⟩⟩⟩⟩⟩) (gp_next (s := ()) rfl)))))⟩)) fun _ =>
  (show GP K _ [.val v1script, .val v4x, .val v5baghere, .val v6rows, .val v7handed, .val v8sheet, .val v9twin, .val v10at, .val v11bent, .val v12other, .val v15held, .un, .un, .un] _ _ _ from (gp_when (pe := fun s => s.elim) (t_orT (t_notT (t_tB (p_call (fun _ => .nil) (v_cons (ep_var rfl) (v_cons (ep_var rfl) v_nil))))) (t_orT (t_tst (p_op ow_notb (p_eqA (ep_var rfl) (ep_var rfl)) ep_bl)) (t_tst (p_op ow_notb (p_eqA (ep_var rfl) (ep_var rfl)) ep_bl)))) (show GP K _ [.val v1script, .val v4x, .val v5baghere, .val v6rows, .val v7handed, .val v8sheet, .val v9twin, .val v10at, .val v11bent, .val v12other, .val v15held, .un, .un, .un] _ _ _ from (gp_ret ep_bl))
  (show GP K _ [.val v1script, .val v4x, .val v5baghere, .val v6rows, .val v7handed, .val v8sheet, .val v9twin, .val v10at, .val v11bent, .val v12other, .val v15held, .un, .un, .un] _ _ _ from (gp_when (pe := fun s => s.elim) (t_orT (t_tst (p_op ow_ne (p_eqA (ep_var rfl) (ep_var rfl)) (p_op ow_eq (ep_var rfl) (ep_var rfl)))) (t_orT (t_tst (p_op ow_ne (p_eqA (ep_var rfl) (ep_var rfl)) (p_op ow_eq (ep_var rfl) (ep_var rfl)))) (t_tst (p_inO (ep_var rfl) (p_set (o_lst (v_cons ep_non (v_cons (ep_var rfl) v_nil)))))))) (show GP K _ [.val v1script, .val v4x, .val v5baghere, .val v6rows, .val v7handed, .val v8sheet, .val v9twin, .val v10at, .val v11bent, .val v12other, .val v15held, .un, .un, .un] _ _ _ from (gp_ret ep_bl))
  (show GP K _ [.val v1script, .val v4x, .val v5baghere, .val v6rows, .val v7handed, .val v8sheet, .val v9twin, .val v10at, .val v11bent, .val v12other, .val v15held, .un, .un, .un] _ _ _ from (gp_seq (gp_for (pat := (fun (_ : Unit) => [.val v1script, .val v4x, .val v5baghere, .val v6rows, .val v7handed, .val v8sheet, .val v9twin, .val v10at, .val v11bent, .val v12other, .val v15held, .un, .un, .un])) (s0 := ()) (w_list (p_set (o_lst (v_cons (p_set (o_cut (ep_var rfl) op_none (op_part ep_int))) (v_cons (p_add (ep_var rfl) (p_set (o_lst (v_cons (p_tup (v_cons ep_str (v_cons ep_int v_nil))) v_nil)))) v_nil))))) tg_name (by exact ⟨.inr rfl, ⟨.inr rfl, ⟨.inr rfl, ⟨.inr rfl, ⟨.inr rfl, ⟨.inr rfl, ⟨.inr rfl, ⟨.inr rfl, ⟨.inr rfl, ⟨.inr rfl, ⟨.inr rfl, ⟨.inl rfl, ⟨.inl rfl, ⟨.inl rfl, trivial⟩⟩⟩⟩⟩⟩⟩⟩⟩⟩⟩⟩⟩⟩) (fun v27x v26s => ⟨rfl,
  (show GP K _ [.val v1script, .val v4x, .val v5baghere, .val v6rows, .val v7handed, .val v8sheet, .val v9twin, .val v10at, .val v11bent, .val v12other, .val v15held, .un, .val v27x, .un] _ _ _ from (g_last (fun _ => ()) (fun _ => (by exact ⟨.inr rfl, ⟨.inr rfl, ⟨.inr rfl, ⟨.inr rfl, ⟨.inr rfl, ⟨.inr rfl, ⟨.inr rfl, ⟨.inr rfl, ⟨.inr rfl, ⟨.inr rfl, ⟨.inr rfl, ⟨.inl rfl, ⟨.inl rfl, ⟨.inl rfl, trivial⟩⟩⟩⟩⟩⟩⟩⟩⟩⟩⟩⟩⟩⟩)) (gp_if (pat := (fun (_ : Unit) => [.val v1script, .val v4x, .val v5baghere, .val v6rows, .val v7handed, .val v8sheet, .val v9twin, .val v10at, .val v11bent, .val v12other, .val v15held, .un, .val v27x, .un])) (t_orT (t_tst (p_op ow_ne (p_eqA (ep_var rfl) (p_make (fun _ => .nil) (v_cons (ep_var rfl) v_nil))) (p_op ow_eq (ep_var rfl) (ep_var rfl)))) (t_tst (p_op ow_ne (p_eqA (p_make (fun _ => .nil) (v_cons (ep_var rfl) v_nil)) (ep_var rfl)) (p_op ow_eq (ep_var rfl) (ep_var rfl))))) (show GP K _ [.val v1script, .val v4x, .val v5baghere, .val v6rows, .val v7handed, .val v8sheet, .val v9twin, .val v10at, .val v11bent, .val v12other, .val v15held, .un, .val v27x, .un] _ _ _ from (gp_ret ep_bl)) (gp_less (by exact ⟨.inr rfl, ⟨.inr rfl, ⟨.inr rfl, ⟨.inr rfl, ⟨.inr rfl, ⟨.inr rfl, ⟨.inr rfl, ⟨.inr rfl, ⟨.inr rfl, ⟨.inr rfl, ⟨.inr rfl, ⟨.inl rfl, ⟨.inr rfl, ⟨.inl rfl, trivial⟩⟩⟩⟩⟩⟩⟩⟩⟩⟩⟩⟩⟩⟩) (gp_next (s := ()) rfl)))))⟩)) fun _ =>
  (show GP K _ [.val v1script, .val v4x, .val v5baghere, .val v6rows, .val v7handed, .val v8sheet, .val v9twin, .val v10at, .val v11bent, .val v12other, .val v15held, .un, .un, .un] _ _ _ from (g_last (fun _ => ()) (fun _ => (by exact ⟨.inr rfl, ⟨.inl rfl, ⟨.inl rfl, ⟨.inl rfl, ⟨.inl rfl, ⟨.inl rfl, ⟨.inl rfl, ⟨.inl rfl, ⟨.inl rfl, ⟨.inl rfl, ⟨.inl rfl, ⟨.inl rfl, ⟨.inl rfl, ⟨.inl rfl, trivial⟩⟩⟩⟩⟩⟩⟩⟩⟩⟩⟩⟩⟩⟩)) (gp_for (pat := (fun (_ : Unit) => [.val v1script, .val v4x, .val v5baghere, .val v6rows, .val v7handed, .val v8sheet, .val v9twin, .val v10at, .val v11bent, .val v12other, .val v15held, .un, .un, .un])) (s0 := ()) (w_list (p_set (o_lst (v_cons ep_non (v_cons ep_int (v_cons (p_repO (ep_var rfl)) (v_cons (ep_var rfl) (v_cons (p_tupOf (v_cons (ep_var rfl) v_nil)) (v_cons (p_set (o_lst (v_cons (ep_var rfl) v_nil))) (v_cons p_dic (v_cons ep_bl (v_cons ep_str (v_cons (ep_var rfl) v_nil))))))))))))) tg_name (by exact ⟨.inr rfl, ⟨.inr rfl, ⟨.inr rfl, ⟨.inr rfl, ⟨.inr rfl, ⟨.inr rfl, ⟨.inr rfl, ⟨.inr rfl, ⟨.inr rfl, ⟨.inr rfl, ⟨.inr rfl, ⟨.inl rfl, ⟨.inl rfl, ⟨.inl rfl, trivial⟩⟩⟩⟩⟩⟩⟩⟩⟩⟩⟩⟩⟩⟩) (fun v33x v32s => ⟨rfl,
  (show GP K _ [.val v1script, .val v4x, .val v5baghere, .val v6rows, .val v7handed, .val v8sheet, .val v9twin, .val v10at, .val v11bent, .val v12other, .val v15held, .un, .un, .val v33x] _ _ _ from (g_last (fun _ => ()) (fun _ => (by exact ⟨.inr rfl, ⟨.inr rfl, ⟨.inr rfl, ⟨.inr rfl, ⟨.inr rfl, ⟨.inr rfl, ⟨.inr rfl, ⟨.inr rfl, ⟨.inr rfl, ⟨.inr rfl, ⟨.inr rfl, ⟨.inl rfl, ⟨.inl rfl, ⟨.inl rfl, trivial⟩⟩⟩⟩⟩⟩⟩⟩⟩⟩⟩⟩⟩⟩)) (gp_if (pat := (fun (_ : Unit) => [.val v1script, .val v4x, .val v5baghere, .val v6rows, .val v7handed, .val v8sheet, .val v9twin, .val v10at, .val v11bent, .val v12other, .val v15held, .un, .un, .val v33x])) (t_orT (t_tst (p_op ow_notb (p_eqA (ep_var rfl) (ep_var rfl)) ep_bl)) (t_tst (p_inO (ep_var rfl) (p_set (o_lst (v_cons (ep_var rfl) v_nil)))))) (show GP K _ [.val v1script, .val v4x, .val v5baghere, .val v6rows, .val v7handed, .val v8sheet, .val v9twin, .val v10at, .val v11bent, .val v12other, .val v15held, .un, .un, .val v33x] _ _ _ from (gp_ret ep_bl)) (gp_less (by exact ⟨.inr rfl, ⟨.inr rfl, ⟨.inr rfl, ⟨.inr rfl, ⟨.inr rfl, ⟨.inr rfl, ⟨.inr rfl, ⟨.inr rfl, ⟨.inr rfl, ⟨.inr rfl, ⟨.inr rfl, ⟨.inl rfl, ⟨.inl rfl, ⟨.inr rfl, trivial⟩⟩⟩⟩⟩⟩⟩⟩⟩⟩⟩⟩⟩⟩) (gp_next (s := ()) rfl)))))⟩))))))))))))))))))))))))))))))))))))))⟩)) fun _ =>
  (show GP K _ [.val v1script, .un, .un, .un, .un, .un, .un, .un, .un, .un, .un, .un, .un, .un] _ _ _ from (gp_ret ep_bl))))⟩
theorem ok_law [PW] {K : PySem.W.Frag} {mg : Str → Option Value} {base : Heap} {f : Addr} {fd : FuncData} {ca : Nat → Addr} (Fn : Fun K "law" "law" s_law f fd) (n_len : mg "len" = none) (n_list : mg "list" = none) (n_max : mg "max" = none) (n_min : mg "min" = none) (n_range : mg "range" = none) (n_repr : mg "repr" = none) (n_tuple : mg "tuple" = none) (E_Sheet : EqO PW.P PW.w K mg base (ca 1) 1 (spW K (ar2 (F_Sheet___eq__ ca)))) (EQ_Sheet : EqC K (ca 1)) (RC_Sheet : RepC PW.P PW.w K mg base (ca 1) 1 nsS txS) (K_Sheet : CalK PW.P PW.w K mg base 8 "Sheet" (ca 1) ["self", "rows"] (spW K (ar2 (F_Sheet___init__ ca)))) (M_Sheet_rows : CalM PW.P PW.w K mg base (ca 1) 1 "rows" ["self"] (spW K (ar1 (NT.F_Sheet_rows ca)))) (M_Sheet_steps : CalM PW.P PW.w K mg base (ca 1) 2 "steps" ["self"] (spW K (ar1 (NT.F_Sheet_steps ca)))) (C__law_bag : Cal PW.P PW.w K mg base 1 "_law_bag" ["_law_script", "_law_k"] [] (spW K (ar2 SL.bagW))) (C__law_looks_right : CaG PW.P PW.w K mg base CX0 4 "_law_looks_right" ["_law_sheet", "_law_rows"] [] (spW K (ar2 (F__law_looks_right ca)))) (C__law_out : Cal PW.P PW.w K mg base 1 "_law_out" ["_law_bag_here", "_law_many"] [] (spW K (ar2 SL.outW))) (C__law_tests : Cal PW.P PW.w K mg base 2 "_law_tests" ["_law_bag_here", "_law_words", "_law_many"] [] (spW K (ar3 (LW.F__law_tests ca)))) (C__law_word : Cal PW.P PW.w K mg base 2 "_law_word" ["_law_bag_here"] [] (spW K (ar1 (LW.F__law_word ca)))) : FnG PW.P PW.w K mg base CX0 10 f fd ["_law_script"] (spW K (ar1 (F_law ca))) := by
  rw [show ar1 (F_law ca) = fun as => scopeW (ar1 (F0_law ca) as) from sc_ar1 (F0_law ca)]
  exact fn_scope (ok0_law Fn n_len n_list n_max n_min n_range n_repr n_tuple E_Sheet EQ_Sheet RC_Sheet K_Sheet M_Sheet_rows M_Sheet_steps C__law_bag C__law_looks_right C__law_out C__law_tests C__law_word)
end B61
namespace NT
open PySem SL NF
variable [PW]
variable {ca : Nat → Addr}
/-- a fraction as a value -/
abbrev fr (x : Rat) : PV := .tup [.int x.num, .int x.den]
def isI : PV → Bool
  | .int _ => true
  | _ => false
theorem whole_eq (a : PV) (h : tyN a ≠ none) : F_is_whole ca a = ret (.v (.bl (isI a))) := by
  unfold F_is_whole B_is_whole
  simp only [r_op1, isi_int a h, isi_bool a h, r_lift, r_notV]
  cases a <;> simp [isI]
theorem gcd_loop (n : Nat) : ∀ a b : Int, b.natAbs = n → ∃ g : Int, g.natAbs = Int.gcd a b ∧ W_greatest_divisor_1 ca (.int a, .int b) = ret (.nx (.int g, .int 0)) := by
  induction n using Nat.strongRecOn with
  | _ n ih =>
    intro a b hb
    unfold W_greatest_divisor_1
    by_cases c : b = 0
    · subst c
      exact ⟨a, by simp, while_no (by simp)⟩
    · obtain ⟨h1, h2⟩ := NF.gcd_step (a := a) (b := b) c
      obtain ⟨g, hg, e⟩ := ih _ (by omega) b (a.fmod b) rfl
      refine ⟨g, by rw [hg, h1], ?_⟩
      rw [while_go (s' := (.int b, .int (a.fmod b))) (by simp [c]) (by simp [r_modI c, two])]
      exact e
theorem gcd_eq (a b : Int) : F_greatest_divisor ca (.int a) (.int b) = ret (.v (.int (Int.gcd a b))) := by
  obtain ⟨g, hg, e⟩ := gcd_loop (ca := ca) _ a b rfl
  unfold F_greatest_divisor B_greatest_divisor
  rw [e]
  simp only [r_bindF_nx, r_vnil, r_vcons, r_cb, r_absI, r_lift, r_bind, r_runF_rt]
  congr 3
  split <;> omega
theorem fdiv_ok {a b : Int} {B : Nat} (h : b ≠ 0) (hb : b.natAbs < 2 ^ B) (h0 : 0 < B) (h9 : B ≤ 9000) : fdivF (.int a) (.int b) = some (.int (a.fdiv b)) := r_fdivI h (Nat.lt_of_lt_of_le (PySem.Flt.log2_lt_of h0 hb) h9)
theorem gcd_bits {a b : Int} {B : Nat} (h : b ≠ 0) (hb : b.natAbs < 2 ^ B) : ((Int.gcd a b : Nat) : Int).natAbs < 2 ^ B := by
  have h1 : Int.gcd a b ≤ b.natAbs := Nat.le_of_dvd (by omega) (Int.gcd_dvd_natAbs_right a b)
  omega
abbrev frs (xs : List Rat) : List PV := xs.map fr
/-- what the sum of a list is -/
abbrev sumR (xs : List Rat) : Rat := xs.foldr (· + ·) 0
end NT
namespace SL
open PySem
variable [PW]
/-- a piece of code that answers a and leaves the places as they were -/
def Gives {α : Type} (m : W α) (a : α) : Prop := ∀ S Ψ Ξ, Ψ a S → m S Ψ Ξ
theorem Gives.of {α : Type} {m : W α} {a : α} (h : m = ret a) : Gives m a := fun S Ψ Ξ q => by rw [h]; exact q
theorem Gives.noX {α : Type} {m : W α} {a : α} (h : Gives m a) : Gives (noX m) a := fun S Ψ Ξ z => h S Ψ _ z
/-- a comprehension over what is no value yet -/
theorem lcO_map {α : Type} {e : α → PV} {g : α → PV} {F : PV → W PV} : ∀ {xs : List α}, xs.length ≤ 50000 → (∀ x ∈ xs, F (e x) = ret (g x)) → lcO some (fun _ => ret true) F (ret (xs.map e)) = ret (xs.map g) := fun {xs} hl h => by
  refine r_lcO (by simpa using hl) ?_
  clear hl
  induction xs with
  | nil => rfl
  | cons x xs ih =>
    rw [List.map_cons, lcF, r_lift, r_bind, r_bind, if_pos rfl, h x (List.mem_cons_self ..), r_bind, ih fun y hy => h y (List.mem_cons_of_mem _ hy)]
    rfl
@[simp] theorem r_methR (c : Addr) (m : Str) (F : List PV → W RV) (ns : List Str) (as vs : List PV) (h : ns.contains m = false) : methR c m F (ret (.ins c ns as)) (ret vs) = noX (F (.ins c ns as :: vs)) := by
  funext S Ψ Ξ
  show (∃ u, isObj c m S (.ins c ns as) = some u ∧ _) = _
  have e : isObj c m S (.ins c ns as) = some () := if_pos ⟨rfl, h⟩
  rw [e]
  exact propext ⟨fun ⟨u, _, z⟩ => z, fun z => ⟨(), rfl, z⟩⟩
theorem r_lenOW (c : Addr) (F : List PV → W RV) (ns : List Str) (as : List PV) (h : ns.contains "" = false) : lenOW c F (ret (.ins c ns as)) = bind (noX (F [.ins c ns as])) fun r => lift (lenOf r) := by
  funext S Ψ Ξ
  show (∃ u, isObj c "" S (.ins c ns as) = some u ∧ _) = _
  have e : isObj c "" S (.ins c ns as) = some () := if_pos ⟨rfl, h⟩
  rw [e]
  exact propext ⟨fun ⟨u, _, z⟩ => z, fun z => ⟨(), rfl, z⟩⟩
theorem eqF_data {a b : PV} {d e : PyData} (ha : toD a = some d) (hb : toD b = some e) (hs : SeqAt.shaped d = true) (hs2 : SeqAt.shaped e = true) (hn : d.hasDict = false) (hn2 : e.hasDict = false) (hne : ∀ z, a ≠ .str z) : eqF a b = some (.bl (PyData.eqv d e)) := by
  unfold eqF
  split
  · rename_i z _
    exact absurd rfl (hne z)
  · unfold eqD
    rw [ha, hb]
    simp only
    rw [if_pos ⟨hs, hs2, hn, hn2⟩]
theorem neF_data {a b : PV} {d e : PyData} (ha : toD a = some d) (hb : toD b = some e) (hs : SeqAt.shaped d = true) (hs2 : SeqAt.shaped e = true) (hn : d.hasDict = false) (hn2 : e.hasDict = false) (hne : ∀ z, a ≠ .str z) : neF a b = some (.bl (!PyData.eqv d e)) := by
  unfold neF
  split
  · rename_i z _
    exact absurd rfl (hne z)
  · unfold neD
    rw [ha, hb]
    simp only
    rw [if_pos ⟨hs, hs2, hn, hn2⟩]
end SL
namespace NT
open PySem SL NF
variable [PW]
variable {ca : Nat → Addr}
/-- whether it is a fraction -/
def isFr : PV → Bool
  | .tup [.int a, .int b] => decide (1 ≤ b) && decide (Int.gcd a b = 1)
  | _ => false
theorem fr_eq (a : PV) (h : tyN a ≠ none) (h2 : ∀ as, a = .tup as → ∀ x ∈ as, tyN x ≠ none) : F_is_fraction ca a = ret (.v (.bl (isFr a))) := by
  unfold F_is_fraction B_is_fraction
  simp only [r_op1, isi_tuple a h, r_lift, r_tst, r_notT]
  cases a with
  | tup as =>
    have h3 := h2 as rfl
    simp only [r_vnil, r_vcons, r_cb, r_lenT, r_lift, r_op2, r_neI, r_tst, Bool.not_true, r_orT0, r_bind]
    match as, h3 with
    | [], _ => simp [isFr]
    | [x], _ => simp [isFr]
    | [x, y], h3 =>
      have hx := whole_eq (ca := ca) x (h3 x (by simp))
      have hy := whole_eq (ca := ca) y (h3 y (by simp))
      simp [tupF2, hx, hy]
      cases x <;> simp [isI, isFr]
      cases y <;> simp [isI, isFr]
      rename_i m n
      by_cases c : n < 1
      · have : ¬ 1 ≤ n := by omega
        simp [c, this]
      · have : 1 ≤ n := by omega
        simp [c, this, gcd_eq]
        congr 3
        exact decide_eq_decide.mpr (by omega)
    | x :: y :: z :: l, _ =>
      have : ¬ ((l.length : Int) + 1 + 1 + 1 = 2) := by omega
      simp [this, isFr]
  | non => simp [isFr]
  | bl b => simp [isFr]
  | int i => simp [isFr]
  | str z => simp [isFr]
  | lst as => simp [isFr]
  | dic ks as => simp [isFr]
  | dit ks as => simp [isFr]
  | ins c ns as => exact absurd rfl h
  | exc c ns as => exact absurd rfl h
  | cls c => exact absurd rfl h
  | scr ns => exact absurd rfl h
  | ptr p => exact absurd rfl h
  | hole => exact absurd rfl h
theorem isFr_fr (x : Rat) : isFr (fr x) = true := by
  have := denp x
  simp [isFr, cop x]
  omega
/-- a machine as a value -/
def Shs (xs : List Rat) (n : Nat) : Prop := xs.length = n ∧ (∀ x ∈ xs, Shr x) ∧ sumR xs = 1
def Good (zs : List Str) (xss : List (List Rat)) : Prop := 1 ≤ zs.length ∧ zs.length ≤ 6 ∧ (∀ z ∈ zs, NF.Mk z) ∧ xss.length = zs.length ∧ ∀ xs ∈ xss, Shs xs zs.length
abbrev strs_ (zs : List Str) : PV := .lst (zs.map .str)
abbrev rows_ (xss : List (List Rat)) : PV := .lst (xss.map fun xs => .lst (frs xs))
def ma (ca : Nat → Addr) (zs : List Str) (xss : List (List Rat)) : PV := .ins (ca 0) ["kept_marks", "kept_shares"] [strs_ zs, rows_ xss]
end NT
namespace NT
open PySem SL NF
variable [PW]
variable {ca : Nat → Addr}
theorem rem_put {S : Sto} {x : Addr} {c : Cl} (h : S x = none) : rem (put S x c) x = S := by
  funext q
  by_cases e : q = x
  · subst e
    rw [rem_same, h]
  · rw [rem_ne e, put_ne e]
theorem toDs_fr : ∀ xs : List Rat, toDs (frs xs) = some (xs.map fun x => PyData.tuple [.int x.num, .int x.den])
  | [] => rfl
  | x :: xs => by
    show (match toD (fr x), toDs (frs xs) with | some d, some ds => some (d :: ds) | _, _ => none) = _
    rw [toDs_fr xs]
    rfl
theorem toDs_rows : ∀ xss : List (List Rat), toDs (xss.map fun xs => PV.lst (frs xs)) = some (xss.map fun xs => PyData.list (xs.map fun x => PyData.tuple [.int x.num, .int x.den]))
  | [] => rfl
  | xs :: xss => by
    show (match toD (.lst (frs xs)), toDs (xss.map fun xs => PV.lst (frs xs)) with | some d, some ds => some (d :: ds) | _, _ => none) = _
    rw [toDs_rows xss]
    have : toD (.lst (frs xs)) = some (.list (xs.map fun x => PyData.tuple [.int x.num, .int x.den])) := by
      simp only [toD, toDs_fr]
    rw [this]
    rfl
end NT
namespace NT
open PySem SL NF
variable [PW]
variable {ca : Nat → Addr}
def hf : Rat := Rat.divInt 1 2
theorem lays {α : Type} {f : α → PyData} : ∀ {xs : List α}, (∀ x ∈ xs, (f x).canLay0 = true) → PyData.canLayAll0 (xs.map f) = true
  | [], _ => rfl
  | x :: xs, h => by
    rw [List.map_cons]
    simp only [PyData.canLayAll0, h x (List.mem_cons_self ..), lays fun y hy => h y (List.mem_cons_of_mem _ hy), Bool.and_true]
theorem deps {α : Type} {f : α → PyData} {k : Nat} : ∀ {xs : List α}, (∀ x ∈ xs, (f x).depth ≤ k) → PyData.depthAll (xs.map f) ≤ k
  | [], _ => Nat.zero_le _
  | x :: xs, h => by
    have h1 := h x (List.mem_cons_self ..)
    have h2 := deps fun y hy => h y (List.mem_cons_of_mem _ hy)
    rw [List.map_cons]
    simp only [PyData.depthAll]
    omega
theorem nods {α : Type} {f : α → PyData} : ∀ {xs : List α}, (∀ x ∈ xs, (f x).hasDict = false) → PyData.hasDictAll (xs.map f) = false
  | [], _ => rfl
  | x :: xs, h => by
    rw [List.map_cons]
    simp only [PyData.hasDictAll, h x (List.mem_cons_self ..), nods fun y hy => h y (List.mem_cons_of_mem _ hy), Bool.or_false]
theorem shp {α : Type} {f : α → PyData} {k : Nat} {xs : List α} (h1 : ∀ x ∈ xs, (f x).canLay0 = true) (h2 : ∀ x ∈ xs, (f x).depth ≤ k) (hk : k ≤ 60) : SeqAt.shaped (.list (xs.map f)) = true := by
  have a := lays h1
  have b := deps h2
  have c : (PyData.list (xs.map f)).canLay0 = true := by simp only [PyData.canLay0, a]
  have d : (PyData.list (xs.map f)).depth ≤ 64 := by simp only [PyData.depth]; omega
  unfold SeqAt.shaped
  simp [c, d]
theorem eqvs {α : Type} {f : α → PyData} {e : α → α → Prop} [∀ a b, Decidable (e a b)] (hr : ∀ a b, e a b ↔ a = b) (h : ∀ a b, PyData.eqv (f a) (f b) = decide (e a b)) : ∀ (xs ys : List α), PyData.eqvAll (xs.map f) (ys.map f) = true ↔ xs = ys
  | [], [] => by simp [PyData.eqvAll]
  | [], _ :: _ => by simp [PyData.eqvAll]
  | _ :: _, [] => by simp [PyData.eqvAll]
  | x :: xs, y :: ys => by
    have ih := eqvs hr h xs ys
    simp only [List.map_cons, PyData.eqvAll, Bool.and_eq_true, h, decide_eq_true_eq, hr, ih, List.cons.injEq]
theorem bool_of {b : Bool} {p : Prop} [Decidable p] (h : b = true ↔ p) : b = decide p := by
  by_cases c : p
  · rw [decide_eq_true c]; exact h.mpr c
  · rw [decide_eq_false c]
    cases b with
    | true => exact absurd (h.mp rfl) c
    | false => rfl
abbrev dR (x : Rat) : PyData := .tuple [.int x.num, .int x.den]
abbrev dL (xs : List Rat) : PyData := .list (xs.map dR)
theorem eqv_R (xs ys : List Rat) : PyData.eqv (dL xs) (dL ys) = decide (xs = ys) := by
  refine bool_of ?_
  show PyData.eqvAll _ _ = true ↔ _
  exact eqvs (e := fun a b => a = b) (fun _ _ => Iff.rfl) (fun a b => eqv_rt (x := a) (y := b)) xs ys
theorem eqv_L (xs ys : List (List Rat)) : PyData.eqv (.list (xs.map dL)) (.list (ys.map dL)) = decide (xs = ys) := by
  refine bool_of ?_
  show PyData.eqvAll _ _ = true ↔ _
  exact eqvs (e := fun a b => a = b) (fun _ _ => Iff.rfl) (fun a b => eqv_R a b) xs ys
theorem toD_rows (xss : List (List Rat)) : toD (rows_ xss) = some (.list (xss.map dL)) := by
  simp only [toD, toDs_rows]
theorem shp_L (xss : List (List Rat)) : SeqAt.shaped (.list (xss.map dL)) = true := by
  refine shp (k := 2) (fun xs _ => ?_) (fun xs _ => ?_) (by decide)
  · show PyData.canLayAll0 _ = true
    exact lays fun x _ => rfl
  · simp only [PyData.depth]
    have := deps (f := dR) (k := 1) (xs := xs) fun _ _ => Nat.le_refl 1
    omega
theorem nod_L (xss : List (List Rat)) : (PyData.list (xss.map dL)).hasDict = false := nods fun xs _ => nods fun _ _ => rfl
end NT
namespace SL
open PySem
variable [PW]
theorem lcO_mapF {α A : Type} {f : PV → Option A} {e : α → PV} {u : α → A} {g : α → PV} {F : A → W PV} : ∀ {xs : List α}, xs.length ≤ 50000 → (∀ x ∈ xs, f (e x) = some (u x)) → (∀ x ∈ xs, F (u x) = ret (g x)) → lcO f (fun _ => ret true) F (ret (xs.map e)) = ret (xs.map g) := fun {xs} hl hf h => by
  refine r_lcO (by simpa using hl) ?_
  clear hl
  induction xs with
  | nil => rfl
  | cons x xs ih =>
    rw [List.map_cons, lcF, hf x (List.mem_cons_self ..), r_lift, r_bind, r_bind, if_pos rfl, h x (List.mem_cons_self ..), r_bind, ih (fun y hy => hf y (List.mem_cons_of_mem _ hy)) fun y hy => h y (List.mem_cons_of_mem _ hy)]
    rfl
end SL
namespace NT
open PySem SL NF
variable [PW]
variable {ca : Nat → Addr}
/-- the rows of a machine -/
def Rws (n : Nat) (xss : List (List Rat)) : Prop := ∀ xs ∈ xss, Shs xs n
def Fd (f : Rat) : Prop := 0 < f.num ∧ f.num < f.den ∧ f.den ≤ 999
theorem Fd.sz {f : Rat} (h : Fd f) : Sz 10 f := by
  obtain ⟨h1, h2, h3⟩ := h
  exact ⟨by omega, by omega⟩
theorem Fd.lt {f : Rat} (h : Fd f) : f < 1 := by
  rw [lt_rt]
  have := h.2.1
  show f.num * 1 < 1 * f.den
  omega
theorem Fd.pos {f : Rat} (h : Fd f) : 0 < f := by
  rw [lt_rt]
  have := h.1
  show 0 * (f.den : Int) < f.num * 1
  omega
def moved (f e : Rat) : Rat := 2 * (f * e / (1 - f * (1 - e)))
def cut1 (x : Rat) : Rat := if 1 < x then 1 else x
end NT
namespace NT
open PySem SL NF
variable [PW]
variable {ca : Nat → Addr}
theorem call1 {F : PV → W RV} {a c : PV} (h : F a = ret (.v c)) : callW (ar1 F) [] (vcons (ret a) vnil) = ret c := by
  rw [r_vnil, r_vcons, r_callW, List.append_nil, r_ar1, h]
  rfl
theorem call2 {F : PV → PV → W RV} {a b c : PV} (h : F a b = ret (.v c)) : callW (ar2 F) [] (vcons (ret a) (vcons (ret b) vnil)) = ret c := by
  rw [r_vnil, r_vcons, r_vcons, r_callW, List.append_nil, r_ar2, h]
  rfl
theorem call3 {F : PV → PV → PV → W RV} {a b c d : PV} (h : F a b c = ret (.v d)) : callW (ar3 F) [] (vcons (ret a) (vcons (ret b) (vcons (ret c) vnil))) = ret d := by
  rw [r_vnil, r_vcons, r_vcons, r_vcons, r_callW, List.append_nil, r_ar3, h]
  rfl
end NT
namespace SL
open PySem PySem.Spec PyProof.Rows L2 Evl NF WL
variable [PW]
section
variable {α β A T : Type} {m : W α} {S : Sto} {P P2 : α → Prop} {Q : β → Prop}
def Ans (m : W α) (S : Sto) (P : α → Prop) : Prop := ∀ Ψ Ξ, (∀ a, P a → Ψ a S) → m S Ψ Ξ
theorem Ans.of {a : α} (h : m = ret a) (p : P a) : Ans m S P := fun Ψ Ξ k => by rw [h]; exact k a p
theorem Ans.ret {a : α} (p : P a) : Ans (SL.ret a) S P := fun Ψ Ξ k => k a p
theorem Ans.bind {f : α → W β} (h : Ans m S P) (k : ∀ a, P a → Ans (f a) S Q) : Ans (SL.bind m f) S Q := fun Ψ Ξ z => h _ Ξ fun a pa => k a pa Ψ Ξ z
theorem Ans.mono (h : Ans m S P) (k : ∀ a, P a → P2 a) : Ans m S P2 := fun Ψ Ξ z => h Ψ Ξ fun a pa => z a (k a pa)
theorem Ans.lift {o : Option α} {a : α} (h : o = some a) (p : P a) : Ans (SL.lift o) S P := by
  rw [h, r_lift]
  exact Ans.ret p
theorem Ans.noX (h : Ans m S P) : Ans (SL.noX m) S P := fun Ψ Ξ z => h Ψ _ z
theorem Ans.bindF {m : W (Fl A)} {k : A → W (Fl T)} {I : A → Prop} {P : Fl T → Prop} (h : Ans m S fun fl => ∃ s, fl = .nx s ∧ I s) (hk : ∀ s, I s → Ans (k s) S P) : Ans (SL.bindF m k) S P := fun Ψ Ξ z => by
  refine use_bindF (h _ Ξ ?_)
  rintro _ ⟨s, rfl, hs⟩
  exact hk s hs Ψ Ξ z
theorem Ans.runF {m : W (Fl Unit)} {P : RV → Prop} (h : Ans m S fun fl => ∃ r, fl = .rt r ∧ P r) : Ans (SL.runF m) S P := fun Ψ Ξ z => by
  refine use_runF (h _ Ξ ?_)
  rintro _ ⟨r, rfl, hr⟩
  exact z r hr
theorem ans_lendO {m : W (List PV)} {P : List PV → Prop} (hS : LightS S) (h : Ans m S P) (hl : ∀ a, P a → lights a = true) : Ans (lendO m) S P := fun Ψ Ξ z => ⟨hS, h _ _ fun a pa => ⟨hl a pa, hS, z a pa⟩⟩
theorem ans_lcF {F : PV → W PV} {P : PV → Prop} : ∀ {as : List PV}, (∀ a ∈ as, Ans (F a) S P) → Ans (lcF some (fun _ => SL.ret true) F as) S fun bs => bs.length = as.length ∧ ∀ b ∈ bs, P b
  | [], _ => Ans.ret ⟨rfl, fun b hb => absurd hb (List.not_mem_nil)⟩
  | a :: as, h => by
    rw [lcF, r_lift, r_bind, r_bind, if_pos rfl]
    refine Ans.bind (h a (List.mem_cons_self ..)) fun b hb => ?_
    refine Ans.bind (ans_lcF fun c hc => h c (List.mem_cons_of_mem _ hc)) fun bs hbs => Ans.ret ?_
    refine ⟨by rw [List.length_cons, List.length_cons, hbs.1], fun x hx => ?_⟩
    rcases List.mem_cons.mp hx with rfl | hx
    · exact hb
    · exact hbs.2 x hx
theorem ans_for' {F : PV → T → W (Fl T)} (I : Nat → T → Prop) {n : Nat} (h : ∀ i s, i < n → I i s → Ans (F (.int (i : Int)) s) S fun fl => ∃ s', fl = .nx s' ∧ I (i + 1) s') : ∀ (m k : Nat) (s : T), k + m = n → I k s → Ans (forW some F ((List.range' k m).map fun i : Nat => .int (i : Int)) s) S fun fl => ∃ s', fl = .nx s' ∧ I n s'
  | 0, k, s, e, i => Ans.ret ⟨s, rfl, by rw [← e]; exact i⟩
  | m + 1, k, s, e, i => by
    rw [List.range'_succ, List.map_cons, r_for1]
    refine Ans.bindF (h k s (by omega) i) fun s' i' => ?_
    exact ans_for' I h m (k + 1) s' (by omega) i'
theorem ans_for {F : PV → T → W (Fl T)} (I : Nat → T → Prop) {n : Nat} {s : T} (i : I 0 s) (h : ∀ i s, i < n → I i s → Ans (F (.int (i : Int)) s) S fun fl => ∃ s', fl = .nx s' ∧ I (i + 1) s') : Ans (forW some F ((List.range n).map fun i : Nat => .int (i : Int)) s) S fun fl => ∃ s', fl = .nx s' ∧ I n s' := by
  rw [List.range_eq_range']
  exact ans_for' I h n 0 s (by omega) i
theorem ex_map {α : Type} {e : α → PV} {P : α → Prop} : ∀ {bs : List PV}, (∀ b ∈ bs, ∃ x, b = e x ∧ P x) → ∃ xs : List α, bs = xs.map e ∧ ∀ x ∈ xs, P x
  | [], _ => ⟨[], rfl, fun _ h => absurd h (List.not_mem_nil)⟩
  | b :: bs, h => by
    obtain ⟨x, rfl, hx⟩ := h b (List.mem_cons_self ..)
    obtain ⟨xs, rfl, hs⟩ := ex_map fun c hc => h c (List.mem_cons_of_mem _ hc)
    refine ⟨x :: xs, rfl, fun y hy => ?_⟩
    rcases List.mem_cons.mp hy with rfl | hy
    · exact hx
    · exact hs y hy
end
theorem atI_ok {as : List PV} {d : Int} (h0 : 0 ≤ d) (h1 : d < as.length) : ∃ a ∈ as, atI as d = some a := by
  have h : d.toNat < as.length := by omega
  refine ⟨as[d.toNat], List.getElem_mem h, ?_⟩
  have e : d = ((d.toNat : Nat) : Int) := by omega
  unfold atI
  rw [show ixN as.length d = some d.toNat by rw [e]; exact ixN_nat (by omega)]
  simp [h]
theorem light_fr (x : Rat) : light (.tup [.int x.num, .int x.den]) = true := rfl
theorem lights_frs : ∀ xs : List Rat, lights (xs.map fun x => PV.tup [.int x.num, .int x.den]) = true
  | [] => rfl
  | x :: xs => by
    rw [List.map_cons, lights, light_fr, lights_frs xs]
    rfl
end SL
namespace LW
open PySem SL NF NT
variable [PW]
variable {ca : Nat → Addr}
theorem lowB_loop (n : Nat) : ∀ a b : Int, 0 ≤ a → 0 ≤ b → b.natAbs = n → W__law_low_1 ca (.int a, .int b) = ret (.nx (.int (Int.gcd a b), .int 0)) := by
  induction n using Nat.strongRecOn with
  | _ n ih =>
    intro a b ha hb hn
    unfold W__law_low_1
    by_cases c : b = 0
    · subst c
      rw [while_no (by simp)]
      congr 3
      simp
      omega
    · obtain ⟨h1, h2⟩ := NF.gcd_step (a := a) (b := b) c
      have h3 : 0 ≤ a.fmod b := Int.fmod_nonneg_of_pos a (by omega)
      have e := ih _ (by omega) b (a.fmod b) hb h3 rfl
      have hg : Int.gcd a b = Int.gcd b (a.fmod b) := h1.symm
      rw [while_go (s' := (.int b, .int (a.fmod b))) (by simp [c]) (by simp [r_modI c, two]), hg]
      exact e
theorem lowB_eq {a b : Int} {B : Nat} (h : 0 < b) (hb : b.natAbs < 2 ^ B) (h0 : 0 < B) (h9 : B ≤ 9000) : F__law_low ca (.int a) (.int b) = ret (.v (fr (Rat.divInt a b))) := by
  have e := lowB_loop (ca := ca) _ (if a < 0 then -a else a) b (by split <;> omega) (by omega) rfl
  have eg : Int.gcd (if a < 0 then -a else a) b = Int.gcd a b := by
    split
    · rw [Int.neg_gcd]
    · rfl
  rw [eg] at e
  have g0 : (Int.gcd a b : Int) ≠ 0 := by
    have := Int.gcd_pos_of_ne_zero_right a (show b ≠ 0 by omega)
    omega
  have gb := gcd_bits (a := a) (show b ≠ 0 by omega) hb
  have e1 := fdiv_ok (a := a) (b := (Int.gcd a b : Int)) (B := B) g0 gb h0 h9
  have e2 := fdiv_ok (a := b) (b := (Int.gcd a b : Int)) (B := B) g0 gb h0 h9
  obtain ⟨n1, n2⟩ := NF.red_pos (a := a) (b := b) (by omega)
  unfold F__law_low B__law_low
  simp [e, e1, e2, n1, n2]
end LW
namespace SL
open PySem PySem.Spec PyProof.Rows L2 Evl NF WL
variable [PW]
section
variable {α β A T : Type} {m : W α} {S : Sto} {P P2 : α → Prop} {Q : β → Prop} {ma mb : W PV} {ms : W (List PV)} {Pa Pb R : PV → Prop} {Ps Rs : List PV → Prop}
theorem Ans.eq {a : α} : Ans (SL.ret a) S (· = a) := Ans.ret rfl
theorem ans_op2 {f : PV → PV → Option PV} (ha : Ans ma S Pa) (hb : Ans mb S Pb) (h : ∀ a b, Pa a → Pb b → ∃ c, f a b = some c ∧ R c) : Ans (op2 f ma mb) S R := Ans.bind ha fun a pa => Ans.bind hb fun b pb => by
  obtain ⟨c, e, r⟩ := h a b pa pb
  exact Ans.lift e r
theorem ans_cb {f : List PV → Option PV} (ha : Ans ms S Ps) (h : ∀ as, Ps as → ∃ c, f as = some c ∧ R c) : Ans (cb f ms) S R := Ans.bind ha fun a pa => by
  obtain ⟨c, e, r⟩ := h a pa
  exact Ans.lift e r
theorem ans_nil : Ans vnil S (· = []) := Ans.ret rfl
theorem ans_cons (ha : Ans ma S Pa) (hs : Ans ms S Ps) (h : ∀ a as, Pa a → Ps as → Rs (a :: as)) : Ans (vcons ma ms) S Rs := Ans.bind ha fun a pa => Ans.bind hs fun as ps => Ans.ret (h a as pa ps)
theorem ans_one (ha : Ans ma S Pa) : Ans (vcons ma vnil) S fun as => ∃ a, as = [a] ∧ Pa a := ans_cons ha ans_nil fun a as pa e => ⟨a, by rw [e], pa⟩
theorem ans_two (ha : Ans ma S Pa) (hb : Ans mb S Pb) : Ans (vcons ma (vcons mb vnil)) S fun as => ∃ a b, as = [a, b] ∧ Pa a ∧ Pb b := ans_cons ha (ans_one hb) fun a as pa h => by
  obtain ⟨b, rfl, pb⟩ := h
  exact ⟨a, b, rfl, pa, pb⟩
theorem ans_call {F : List PV → W RV} {ds : List PV} (hs : Ans ms S Ps) (h : ∀ as, Ps as → Ans (F (as ++ ds)) S fun r => R r.pv) : Ans (callW F ds ms) S R := Ans.bind hs fun as ps => Ans.bind (h as ps).noX fun r pr => Ans.ret pr
theorem ans_callO {F : List PV → W RV} {ds : List PV} (hs : Ans ms S Ps) (h : ∀ as, Ps as → Ans (F (as ++ ds)) S fun r => ∃ bs, r = .o bs ∧ Rs bs) : Ans (callO F ds ms) S Rs := Ans.bind hs fun as ps => Ans.bind (h as ps).noX fun r pr => by
  obtain ⟨bs, rfl, q⟩ := pr
  exact Ans.lift rfl q
theorem ans_tst (ha : Ans ma S fun a => ∃ b, a = .bl b ∧ P2' b) : Ans (tst ma) S P2' := Ans.bind ha fun a pa => by
  obtain ⟨b, rfl, q⟩ := pa
  exact Ans.lift rfl q
theorem ans_setl (hs : Ans ms S Ps) (h : ∀ as, Ps as → R (.lst as)) : Ans (setl ms) S R := Ans.bind hs fun as ps => Ans.ret (h as ps)
theorem ans_lst (hs : Ans ms S Ps) (h : ∀ as, Ps as → as.length ≤ 100000 ∧ Rs as) : Ans (lstO ms) S Rs := Ans.bind hs fun as ps => Ans.lift (if_pos (h as ps).1) (h as ps).2
variable {p : Addr} {n : Int}
theorem ans_outC (hs : S p = some .bag2) (hn : Ans mb S (· = .int n)) (h0 : 0 < n) (h9 : n < 2 ^ 60) : Ans (callW (ar2 outW) [] (vcons (ret (.ptr p)) (vcons mb vnil))) S fun a => ∃ d : Int, a = .int d ∧ 0 ≤ d ∧ d < n :=
  ans_call (ans_two Ans.eq hn) fun as h => by
    obtain ⟨a, b, rfl, rfl, rfl⟩ := h
    intro Ψ Ξ z
    exact ⟨p, n, rfl, hs, rfl, h0, h9, fun d h1 h2 => z _ ⟨d, rfl, h1, h2⟩⟩
/-- an item of a list whose things are all such -/
theorem ix_any {as : List PV} {d : Int} {P : PV → Prop} (h0 : 0 ≤ d) (h1 : d < as.length) (h : ∀ a ∈ as, P a) : ∃ a, ixF (.lst as) (.int d) = some a ∧ P a := by
  obtain ⟨a, ha, e⟩ := atI_ok h0 h1
  exact ⟨a, e, h a ha⟩
theorem ix_str {z : Str} {d : Int} {P : Nat → Prop} (hl : z.length ≤ 100000) (h0 : 0 ≤ d) (h1 : d < z.cps.toList.length) (h : ∀ c ∈ z.cps.toList, P c) : ∃ c, ixF (.str z) (.int d) = some (.str ⟨#[c]⟩) ∧ P c := by
  have h2 : d.toNat < z.cps.toList.length := by omega
  refine ⟨z.cps.toList[d.toNat], ?_, h _ (List.getElem_mem h2)⟩
  show (if z.length ≤ 100000 then (atI z.cps.toList d).map fun c => PV.str ⟨#[c]⟩ else none) = _
  rw [if_pos hl]
  have e : d = ((d.toNat : Nat) : Int) := by omega
  have : atI z.cps.toList d = some z.cps.toList[d.toNat] := by
    conv => lhs; rw [e]
    exact atI_nat (List.getElem?_eq_getElem h2)
  rw [this]
  rfl
theorem ans_pickO {mL : W PV} {as : List PV} {k : Int} {P : PV → Prop} (he : mL = ret (.lst as)) (hs : S p = some .bag2) (hk : (as.length : Int) = k) (h0 : 0 < k) (h9 : k < 2 ^ 60) (h : ∀ a ∈ as, P a) : Ans (op2 ixF mL (callW (ar2 outW) [] (vcons (ret (.ptr p)) (vcons (ret (.int k)) vnil)))) S P :=
  ans_op2 (Ans.of he rfl) (ans_outC hs Ans.eq h0 h9) fun a b ea hb => by
    obtain ⟨d, rfl, d0, d1⟩ := hb
    subst ea
    exact ix_any d0 (by omega) h
theorem r_part (d : Int) : partW (SL.ret (.int d)) = SL.ret (some d) := by unfold partW; simp [isI1]
theorem r_cut (as : List PV) (l h : Option Int) : cutO (SL.ret (.lst as)) (SL.ret l) (SL.ret h) = SL.ret (WL.cut as l h) := by unfold cutO; simp [asL]
theorem cut_from {as : List PV} {d : Int} (h0 : 0 ≤ d) (h1 : d ≤ as.length) : cutO (SL.ret (.lst as)) (partW (SL.ret (.int d))) noPart = SL.ret (as.drop d.toNat) := by
  have ed : d = ((d.toNat : Nat) : Int) := by omega
  rw [r_part, show noPart = SL.ret none from rfl, r_cut]
  conv => lhs; rw [ed]
  rw [WL.cut_hi (by omega)]
theorem cut_to {as : List PV} {d : Int} (h0 : 0 ≤ d) (h1 : d ≤ as.length) : cutO (SL.ret (.lst as)) noPart (partW (SL.ret (.int d))) = SL.ret (as.take d.toNat) := by
  have ed : d = ((d.toNat : Nat) : Int) := by omega
  rw [r_part, show noPart = SL.ret none from rfl, r_cut]
  conv => lhs; rw [ed]
  rw [WL.cut_lo (by omega)]
end
end SL
namespace LW
open PySem SL NF NT
variable [PW]
variable {ca : Nat → Addr} {S : Sto} {p : Addr}
abbrev alph : Str := Str.ofString "abcdefghijklmnopqrstuvwxyz"
theorem alph_ok : ∀ c ∈ alph.cps.toList, 97 ≤ c ∧ c ≤ 122 := by decide +kernel
theorem alph_len : alph.cps.toList.length = 26 := by decide +kernel
theorem asSs_map : ∀ zs : List Str, asSs (zs.map PV.str) = some zs
  | [] => rfl
  | z :: zs => by
    show (asSs (zs.map PV.str)).map (z :: ·) = _
    rw [asSs_map zs]
    rfl
theorem glue_ok {as : List PV} (h : ∀ a ∈ as, ∃ c : Nat, a = .str ⟨#[c]⟩ ∧ 97 ≤ c ∧ c ≤ 122) (h1 : 1 ≤ as.length) (h4 : as.length ≤ 4) : ∃ z, joinS (Str.ofString "") (.lst as) = some (.str z) ∧ NF.Mk z := by
  obtain ⟨cs, rfl, hc⟩ := ex_map (e := fun c : Nat => PV.str ⟨#[c]⟩) h
  rw [List.length_map] at h1 h4
  have e1 : asSs (cs.map fun c : Nat => PV.str ⟨#[c]⟩) = some (cs.map fun c => ⟨#[c]⟩) := by
    have := asSs_map (cs.map fun c => ⟨#[c]⟩)
    rw [List.map_map] at this
    exact this
  refine ⟨Txt.join (Str.ofString "") (cs.map fun c => ⟨#[c]⟩), ?_, mk_glue h1 h4 hc⟩
  simp only [joinS, e1]
  rw [if_pos]
  have e2 : ((cs.map fun c => (⟨#[c]⟩ : Str)).map (·.length)).sum = cs.length := by
    rw [List.map_map]
    clear hc h h1 h4 e1
    induction cs with
    | nil => rfl
    | cons c cs ih => rw [List.map_cons, List.sum_cons, ih, List.length_cons, Nat.add_comm]; rfl
  rw [e2, List.length_map, show (Str.ofString "").length = 0 by decide +kernel]
  omega
theorem sum_le {m : Int} : ∀ {is : List Int}, (∀ i ∈ is, i ≤ m) → is.sum ≤ is.length * m
  | [], _ => by simp
  | i :: is, h => by
    have h1 := h i (List.mem_cons_self ..)
    have h2 := sum_le fun j hj => h j (List.mem_cons_of_mem _ hj)
    rw [List.sum_cons, List.length_cons, Int.natCast_add, Int.add_mul]
    omega
end LW
namespace LW
open PySem SL NF NT
variable [PW]
variable {ca : Nat → Addr} {S : Sto} {p : Addr}
theorem itR_n (n : Nat) (h : n < 2 ^ 59) : itR (vcons (ret (PV.int (n : Int))) vnil) = ret ((List.range n).map fun i : Nat => .int (i : Int)) := by
  rw [r_vnil, r_vcons, r_itR _ (by omega) (by omega), Int.toNat_natCast]
end LW
namespace LW
open PySem SL NF NT
variable [PW]
variable {ca : Nat → Addr} {S : Sto} {p : Addr}
theorem word_ans (hs : S p = some .bag2) : Ans (F__law_word ca (.ptr p)) S fun r => ∃ z, r.pv = .str z ∧ NF.Mk z := by
  unfold F__law_word B__law_word
  refine Ans.runF (Ans.bind Ans.eq fun a e => ?_)
  subst e
  refine Ans.bind (P := fun a => ∃ z, a = .str z ∧ NF.Mk z) ?_ fun a ha => ?_
  · refine Ans.bind Ans.eq fun a e => ?_
    subst e
    refine Ans.bind (Ans.lift rfl rfl) fun s e => ?_
    subst e
    refine Ans.bind (P := fun a => ∃ as, a = .lst as ∧ (∀ a ∈ as, ∃ c : Nat, a = .str ⟨#[c]⟩ ∧ 97 ≤ c ∧ c ≤ 122) ∧ 1 ≤ as.length ∧ as.length ≤ 4) ?_ fun b hb => ?_
    · refine ans_setl (Ps := fun as => (∀ a ∈ as, ∃ c : Nat, a = .str ⟨#[c]⟩ ∧ 97 ≤ c ∧ c ≤ 122) ∧ 1 ≤ as.length ∧ as.length ≤ 4) ?_ fun as h => ⟨as, rfl, h⟩
      refine Ans.bind (P := fun as => 1 ≤ as.length ∧ as.length ≤ 4) ?_ fun as hl => ?_
      · refine Ans.bind (P := fun as => ∃ d : Int, as = [.int (1 + d)] ∧ 0 ≤ d ∧ d < 4) ?_ fun as h => ?_
        · refine (ans_one (ans_op2 Ans.eq (ans_outC hs Ans.eq (by decide) (by decide)) (R := fun a => ∃ d : Int, a = .int (1 + d) ∧ 0 ≤ d ∧ d < 4) fun a b ea hb => ?_)).mono fun as h => ?_
          · obtain ⟨d, rfl, h0, h1⟩ := hb
            subst ea
            exact ⟨_, rfl, d, rfl, h0, h1⟩
          · obtain ⟨a, rfl, d, rfl, h0, h1⟩ := h
            exact ⟨d, rfl, h0, h1⟩
        · obtain ⟨d, rfl, h0, h1⟩ := h
          have hr : rngL [.int (1 + d)] = some ((List.range (1 + d).toNat).map fun i : Nat => .int (i : Int)) := by
            show (if -(2 ^ 60) < (1 + d) ∧ (1 + d) < 2 ^ 60 then _ else none) = _
            rw [if_pos ⟨by omega, by omega⟩]
          refine Ans.lift hr ?_
          simp
          omega
      · rw [show few 50000 as = some as by unfold few; rw [if_pos (by omega)], r_lift, r_bind]
        refine (Ans.noX (ans_lcF (P := fun a => ∃ c : Nat, a = .str ⟨#[c]⟩ ∧ 97 ≤ c ∧ c ≤ 122) fun a ha => ?_)).mono fun bs h => ⟨h.2, by omega, by omega⟩
        unfold E__law_word_1
        refine ans_op2 Ans.eq (ans_outC hs Ans.eq (by decide) (by decide)) fun a b ea hb => ?_
        obtain ⟨d, rfl, h0, h1⟩ := hb
        subst ea
        obtain ⟨c, e, hc⟩ := ix_str (z := alph) (d := d) (by decide +kernel) h0 (by rw [alph_len]; exact h1) alph_ok
        exact ⟨_, e, c, rfl, hc⟩
    · obtain ⟨as, rfl, h1, h2, h3⟩ := hb
      obtain ⟨z, e, hz⟩ := glue_ok h1 h2 h3
      exact Ans.lift e ⟨z, rfl, hz⟩
  · obtain ⟨z, rfl, hz⟩ := ha
    exact Ans.ret ⟨.v (.str z), rfl, z, rfl, hz⟩
theorem sumR_app : ∀ xs ys : List Rat, sumR (xs ++ ys) = sumR xs + sumR ys
  | [], ys => by show sumR ys = 0 + sumR ys; rw [Rat.zero_add]
  | x :: xs, ys => by
    show x + sumR (xs ++ ys) = x + sumR xs + sumR ys
    rw [sumR_app xs ys, Rat.add_assoc]
end LW
namespace LW
open PySem SL NF NT
variable [PW]
variable {ca : Nat → Addr} {S : Sto} {p : Addr}
theorem mk_a : NF.Mk (Str.ofString "a") := by unfold NF.Mk; decide +kernel
end LW
namespace LW
open PySem SL NF NT
variable [PW]
variable {ca : Nat → Addr} {S : Sto} {p : Addr}
abbrev natP (n : Nat) : PV := .int (n : Int)
end LW
namespace SL
open PySem
variable [PW]
def Bags (S : Sto) : Prop := ∀ q c, S q = some c → c = .bag3 ∨ c = .bag2
theorem Bags.light {S : Sto} (h : Bags S) : LightS S := fun q c e => by
  rcases h q c e with rfl | rfl <;> rfl
theorem Bags.none : Bags S0 := fun q c e => by cases e
theorem frame {L : PV → Unit → W (Fl Unit)} {m : Nat} {mi : W (List PV)} (hm : mi = ret ((List.range m).map fun i : Nat => .int (i : Int))) (hb : ∀ k, k < m → ∀ S, Bags S → ∀ Φ : Fl Unit → Sto → Prop, (∀ S', Bags S' → Φ (.nx ()) S') → L (.int (k : Int)) () S Φ fun _ _ => False) :
    runF (bindF (bind mi fun as => forW some L as ()) fun _ => bind (ret (.bl true)) fun r => ret (.rt (.v r))) S0 (fun r _ => r = .v (.bl true)) fun _ _ => False := by
  rw [hm, r_bind]
  refine use_runF (use_bindF (for_inv (fun _ S => Bags S) _ () S0 Bags.none ?_ fun s' S' h => ?_))
  · intro a ha s S1 Φ' hS k
    obtain ⟨i, hi, rfl⟩ := List.mem_map.mp ha
    rw [r_lift, r_bind]
    exact hb i (List.mem_range.mp hi) S1 hS Φ' fun S' h => k () S' h
  · exact rfl
theorem turnsB {ns : List Int} {n : Nat} (hn : ns.length ≤ 63) (h1 : 1 ≤ n) (h9 : n ≤ 100) : ∃ m : Nat, m ≤ 100 ∧ itR (vcons (cb max2F (vcons (ret (.int 1)) (vcons (cb min2F (vcons (cb lenF (vcons (ret (.scr ns)) vnil)) (vcons (ret (.int (n : Int))) vnil))) vnil))) vnil) = ret ((List.range m).map fun i : Nat => .int (i : Int)) := by
  refine ⟨(if (if (n : Int) < ns.length then (n : Int) else ns.length) > 1 then (if (n : Int) < ns.length then (n : Int) else ns.length) else 1).toNat, ?_, ?_⟩
  · split <;> split <;> omega
  · simp only [r_vnil, r_vcons, r_cb, r_lenS, r_lift, r_min2, r_max2, b_vcons, b_cb, r_bind]
    rw [r_itR _ ?_ ?_]
    · split <;> split <;> omega
    · split <;> split <;> omega
end SL
namespace LW
open PySem SL NF NT
variable [PW]
variable {ca : Nat → Addr} {S : Sto} {p : Addr} {n : Nat}
def vec (n : Nat) (f : Nat → Rat) : List Rat := (List.range n).map f
def ud (f : Nat → Rat) (i : Nat) (x : Rat) : Nat → Rat := fun k => if k = i then x else f k
theorem ud_same {f : Nat → Rat} {i : Nat} {x : Rat} : ud f i x i = x := if_pos rfl
theorem ud_ne {f : Nat → Rat} {i k : Nat} {x : Rat} (h : k ≠ i) : ud f i x k = f k := if_neg h
def sm (n : Nat) (f : Nat → Rat) : Rat := sumR (vec n f)
theorem sm_zero {f : Nat → Rat} : sm 0 f = 0 := rfl
theorem sm_succ {f : Nat → Rat} : sm (n + 1) f = sm n f + f n := by
  unfold sm vec
  rw [List.range_succ, List.map_append, sumR_app]
  show _ + (f n + 0) = _
  rw [Rat.add_zero]
theorem sm_congr {f g : Nat → Rat} (h : ∀ i, i < n → f i = g i) : sm n f = sm n g := by
  unfold sm vec
  rw [List.map_congr_left fun i hi => h i (List.mem_range.mp hi)]
theorem sm_ud {f : Nat → Rat} {i : Nat} {x : Rat} (h : i < n) : sm n (ud f i x) = sm n f + (x - f i) := by
  induction n with
  | zero => omega
  | succ n ih =>
    rw [sm_succ, sm_succ]
    by_cases e : i = n
    · subst e
      rw [ud_same, sm_congr (g := f) fun k hk => ud_ne (by omega)]
      grind
    · rw [ih (by omega), ud_ne (by omega)]
      grind
theorem sm_pos {f : Nat → Rat} (hp : ∀ i, i < n → 0 ≤ f i) : 0 ≤ sm n f := by
  induction n with
  | zero => exact Rat.le_refl
  | succ n ih =>
    rw [sm_succ]
    have := ih fun i hi => hp i (by omega)
    have := hp n (by omega)
    grind
theorem sm_none {f : Nat → Rat} (hp : ∀ i, i < n → 0 ≤ f i) (h : sm n f = 0) : ∀ i, i < n → f i = 0 := by
  induction n with
  | zero => intro i hi; omega
  | succ n ih =>
    rw [sm_succ] at h
    have a := sm_pos (n := n) fun i hi => hp i (by omega)
    have b := hp n (by omega)
    intro i hi
    by_cases e : i = n
    · subst e; grind
    · exact ih (fun i hi => hp i (by omega)) (by grind) i (by omega)
def Gs (b : Int) (x : Rat) : Prop := ∃ t : Int, 0 ≤ t ∧ t ≤ b ∧ x = Rat.divInt t b
theorem Gs.pos {b : Int} {x : Rat} (b1 : 1 ≤ b) (h : Gs b x) : 0 ≤ x := by
  obtain ⟨t, t0, t1, rfl⟩ := h
  exact Rat.divInt_nonneg t0 (by omega)
theorem Gs.sub {b : Int} {x y : Rat} (b1 : 1 ≤ b) (hx : Gs b x) (hy : Gs b y) (h : x ≤ y) : Gs b (y - x) := by
  obtain ⟨s, s0, s1, rfl⟩ := hx
  obtain ⟨t, t0, t1, rfl⟩ := hy
  have eb : b = ((b.toNat : Nat) : Int) := by omega
  have hs := NF.div_eq s (b := b.toNat) (by omega)
  have ht := NF.div_eq t (b := b.toNat) (by omega)
  rw [← eb] at hs ht
  have bp : (0 : Rat) ≤ ((b.toNat : Nat) : Rat) := by exact_mod_cast Nat.zero_le _
  have hle : s ≤ t := by
    have : (s : Rat) ≤ (t : Rat) := by
      rw [← hs, ← ht]
      exact Rat.mul_le_mul_of_nonneg_right h bp
    exact_mod_cast this
  refine ⟨t - s, by omega, by omega, ?_⟩
  rw [Rat.divInt_sub_divInt _ _ (by omega) (by omega), ← Int.sub_mul, Rat.divInt_mul_right (by omega)]
theorem Gs.sz {b : Int} {x : Rat} {B : Nat} (b1 : 1 ≤ b) (h9 : b < 2 ^ B) (h : Gs b x) : Sz B x := by
  obtain ⟨t, t0, t1, rfl⟩ := h
  have : (2 : Int) ^ B = ((2 ^ B : Nat) : Int) := by simp
  exact NF.sz_div (by omega) (by omega) (by omega)
structure St (n : Nat) (b : Int) (q r : Nat → Rat) (M : Nat → Nat → Rat) (l w : Nat → Rat) : Prop where
  gl : ∀ i, i < n → Gs b (l i)
  gw : ∀ j, j < n → Gs b (w j)
  gM : ∀ i, i < n → ∀ j, j < n → Gs b (M i j)
  row : ∀ i, i < n → sm n (M i) + l i = q i
  col : ∀ j, j < n → sm n (fun i => M i j) + w j = r j
  bal : sm n l = sm n w
def um (M : Nat → Nat → Rat) (i j : Nat) (x : Rat) : Nat → Nat → Rat := fun k => if k = i then ud (M i) j x else M k
def part (l w : Nat → Rat) (i j : Nat) : Rat := if l i < w j then l i else w j
theorem St.step {b : Int} {q r : Nat → Rat} {M : Nat → Nat → Rat} {l w : Nat → Rat} {i j : Nat} (b1 : 1 ≤ b) (h : St n b q r M l w) (hi : i < n) (hj : j < n) (h0 : M i j = 0) :
    St n b q r (um M i j (part l w i j)) (ud l i (l i - part l w i j)) (ud w j (w j - part l w i j)) := by
  have gp : Gs b (part l w i j) := by
    unfold part
    split
    · exact h.gl i hi
    · exact h.gw j hj
  have pl : part l w i j ≤ l i := by unfold part; split <;> grind
  have pw : part l w i j ≤ w j := by unfold part; split <;> grind
  generalize part l w i j = x at *
  refine ⟨fun k hk => ?_, fun k hk => ?_, fun k hk m hm => ?_, fun k hk => ?_, fun k hk => ?_, ?_⟩
  · by_cases e : k = i
    · subst e; rw [ud_same]; exact gp.sub b1 (h.gl k hk) pl
    · rw [ud_ne e]; exact h.gl k hk
  · by_cases e : k = j
    · subst e; rw [ud_same]; exact gp.sub b1 (h.gw k hk) pw
    · rw [ud_ne e]; exact h.gw k hk
  · unfold um
    split
    · by_cases e : m = j
      · subst e; rw [ud_same]; exact gp
      · rw [ud_ne e]; exact h.gM i hi m hm
    · exact h.gM k hk m hm
  · have := h.row k hk
    unfold um
    by_cases e : k = i
    · subst e
      rw [if_pos rfl, ud_same, sm_ud hj, h0]
      grind
    · rw [if_neg e, ud_ne e]; exact this
  · have := h.col k hk
    by_cases e : k = j
    · subst e
      have e2 : sm n (fun i' => um M i k x i' k) = sm n (ud (fun i' => M i' k) i x) := sm_congr fun i' _ => by
        unfold um
        by_cases e : i' = i
        · subst e; rw [if_pos rfl, ud_same, ud_same]
        · rw [if_neg e, ud_ne e]
      rw [e2, ud_same, sm_ud hi, h0]
      grind
    · have e2 : sm n (fun i' => um M i j x i' k) = sm n (fun i' => M i' k) := sm_congr fun i' _ => by
        unfold um
        by_cases e3 : i' = i
        · subst e3; rw [if_pos rfl, ud_ne e]
        · rw [if_neg e3]
      rw [e2, ud_ne e]
      exact this
  · rw [sm_ud hi, sm_ud hj, h.bal]
    grind
structure Mt (n : Nat) (qs : List Addr) (M : Nat → Nat → Rat) (S : Sto) : Prop where
  len : qs.length = n
  nd : qs.Nodup
  at' : ∀ i q, qs[i]? = some q → S q = some (.lst (frs (vec n (M i))))
def Off (qs : List Addr) (S S2 : Sto) : Prop := ∀ r, r ∉ qs → S2 r = S r
theorem Mt.put {qs : List Addr} {M : Nat → Nat → Rat} {S : Sto} {i j : Nat} {q : Addr} {x : Rat} (h : Mt n qs M S) (hq : qs[i]? = some q) : Mt n qs (um M i j x) (put S q (.lst (frs (vec n (ud (M i) j x))))) := by
  refine ⟨h.len, h.nd, fun k q' hk => ?_⟩
  unfold um
  by_cases e : k = i
  · subst e
    rw [hq] at hk
    cases hk
    rw [if_pos rfl, put_same]
  · rw [if_neg e, put_ne ?_]
    · exact h.at' k q' hk
    · rintro rfl
      obtain ⟨ha, a⟩ := List.getElem?_eq_some_iff.mp hk
      obtain ⟨hb, b⟩ := List.getElem?_eq_some_iff.mp hq
      have pw := List.pairwise_iff_getElem.mp h.nd
      rcases Nat.lt_or_gt_of_ne e with c | c
      · exact pw k i ha hb c (a.trans b.symm)
      · exact pw i k hb ha c (b.trans a.symm)
theorem Off.trans {qs : List Addr} {S S1 S2 : Sto} (a : Off qs S S1) (b : Off qs S1 S2) : Off qs S S2 := fun r hr => (b r hr).trans (a r hr)
end LW
namespace LW
open PySem SL NF NT
variable [PW]
variable {ca : Nat → Addr} {S : Sto} {p : Addr} {n : Nat}
theorem calm_loop {g : Nat → List PV} {Ξ : XV → Sto → Prop} : ∀ (qs : List Addr) (k : Nat) (S : Sto) (Ψ : List PV → Sto → Prop), qs.Nodup → (∀ i q, qs[i]? = some q → S q = some (.lst (g (k + i)))) →
    (∀ S2, Off qs S S2 → Ψ ((List.range' k qs.length).map fun i => .lst (g i)) S2) → calmL (qs.map .ptr) S Ψ Ξ
  | [], k, S, Ψ, _, _, z => z S fun _ _ => rfl
  | q :: qs, k, S, Ψ, hn, h, z => by
    have nd := List.nodup_cons.mp hn
    rw [List.map_cons, calmL]
    refine ⟨g k, h 0 q rfl, ?_⟩
    show calmL (qs.map .ptr) (rem S q) (fun bs S2 => Ψ (.lst (g k) :: bs) S2) Ξ
    refine calm_loop (g := g) qs (k + 1) _ _ nd.2 (fun i q' hq => ?_) fun S2 ho => ?_
    · have : q' ≠ q := fun e => nd.1 (e ▸ List.mem_of_getElem? hq)
      rw [rem_ne this, h (i + 1) q' (by simpa using hq)]
      congr 3
      omega
    · have e : List.range' k (q :: qs).length = k :: List.range' (k + 1) qs.length := by rw [List.length_cons, List.range'_succ]
      rw [e] at z
      refine z S2 fun r hr => ?_
      rw [ho r fun z => hr (List.mem_cons_of_mem _ z), rem_ne (show r ≠ q from fun e => hr (by rw [e]; exact List.mem_cons_self ..))]
end LW
namespace LW
open PySem SL NF NT
variable [PW]
variable {ca : Nat → Addr} {S : Sto} {p : Addr} {n : Nat} {B : Nat}
def Ent (B : Nat) (a : PV) : Prop := tyN a ≠ none ∧ (∀ as, a = .tup as → ∀ x ∈ as, tyN x ≠ none) ∧ ∀ i j, a = .tup [.int i, .int j] → i.natAbs < 2 ^ B ∧ j.natAbs < 2 ^ B
theorem low_is {m k : Int} (hk : 0 < k) : ((Rat.divInt m k).num = m ∧ ((Rat.divInt m k).den : Int) = k) ↔ Int.gcd m k = 1 := by
  constructor
  · rintro ⟨h1, h2⟩
    have := cop (Rat.divInt m k)
    rw [h1, h2] at this
    exact this
  · intro h
    have e : Rat.divInt m k = ⟨m, k.toNat, by omega, by
      have : k.toNat = k.natAbs := by omega
      rw [this]
      exact h⟩ := by
      rw [Rat.mk_eq_divInt]
      congr 1
      omega
    rw [e]
    exact ⟨rfl, by show ((k.toNat : Nat) : Int) = k; omega⟩
/-- whether it is an amount -/
def isAm : PV → Bool
  | .tup [.int a, .int b] => isFr (.tup [.int a, .int b]) && decide (0 ≤ a)
  | _ => false
theorem fr_of : ∀ {a : PV}, isFr a = true → Ent B a → ∃ x : Rat, a = fr x ∧ Sz B x
  | .tup [.int a, .int b], h, e => by
    obtain ⟨ha, hb⟩ := e.2.2 a b rfl
    simp [isFr] at h
    obtain ⟨h1, h2⟩ := low_is (m := a) (k := b) (by omega) |>.mpr h.2
    refine ⟨Rat.divInt a b, ?_, ?_, ?_⟩
    · show _ = PV.tup [.int (Rat.divInt a b).num, .int ((Rat.divInt a b).den : Int)]
      rw [h1, h2]
    · rw [h1]; exact ha
    · omega
theorem isAm_eq (a : PV) : isAm a = (isFr a && (match a with | .tup [.int a, .int _] => decide (0 ≤ a) | _ => false)) := by
  unfold isAm
  split
  · rfl
  · rename_i h
    cases c : isFr a with
    | false => rfl
    | true =>
      unfold isFr at c
      split at c
      · exact absurd rfl (h _ _)
      · cases c
theorem isAm_fr (x : Rat) : isAm (fr x) = decide (0 ≤ x.num) := by
  show (isFr (fr x) && decide (0 ≤ x.num)) = _
  rw [isFr_fr, Bool.true_and]
theorem am_of {a : PV} (h : isAm a = true) (e : Ent B a) : ∃ x : Rat, a = fr x ∧ Sz B x ∧ 0 ≤ x.num := by
  have h2 := h
  rw [isAm_eq, Bool.and_eq_true] at h2
  obtain ⟨x, rfl, hx⟩ := fr_of h2.1 e
  rw [isAm_fr] at h
  exact ⟨x, rfl, hx, of_decide_eq_true h⟩
theorem amount_eq (a : PV) (h : Ent B a) : F_is_amount ca a = ret (.v (.bl (isAm a))) := by
  have e := fr_eq (ca := ca) a h.1 h.2.1
  unfold F_is_amount B_is_amount
  rw [r_vnil, r_vcons]
  cases c : isFr a with
  | false =>
    have : isAm a = false := by rw [isAm_eq, c]; rfl
    rw [c] at e
    simp [e, this]
  | true =>
    obtain ⟨x, rfl, hx⟩ := fr_of c h
    rw [c] at e
    simp [e, isAm_fr]
theorem allF_map {α : Type} (f : α → Bool) (xs : List α) : allF [.lst (xs.map fun x => .bl (f x))] = some (.bl (xs.all f)) := by
  have e : asBs (xs.map fun x => PV.bl (f x)) = some (xs.map f) := by
    induction xs with
    | nil => rfl
    | cons x xs ih =>
      show (asBs (xs.map fun x => PV.bl (f x))).map (f x :: ·) = _
      rw [ih]
      rfl
  simp only [allF, e]
  simp
/-- a row, a thing: of entries that are known -/
def Rw (B : Nat) (a : PV) : Prop := tyN a ≠ none ∧ ∀ as, a = .lst as → as.length ≤ 100 ∧ ∀ x ∈ as, Ent B x
structure Sq (n B : Nat) (M : List (List Rat)) : Prop where
  len : M.length = n
  row : ∀ xs ∈ M, xs.length = n
  sz : ∀ xs ∈ M, ∀ x ∈ xs, Sz B x ∧ 0 ≤ x.num
def colN (j : Nat) (M : List (List Rat)) : List Rat := M.map fun xs => xs.getD j 0
theorem Sq.col {M : List (List Rat)} (h : Sq n B M) {j : Nat} (hj : j < n) : ∀ x ∈ colN j M, Sz B x := fun x hx => by
  obtain ⟨xs, hm, rfl⟩ := List.mem_map.mp hx
  have := h.row xs hm
  rw [List.getD_eq_getElem?_getD, List.getElem?_eq_getElem (by omega)]
  exact (h.sz xs hm _ (List.getElem_mem _)).1
theorem Sq.flat {M : List (List Rat)} (h : Sq n B M) : ∀ as ∈ M.map frs, as.length = n ∧ ∀ x ∈ as, isAm x = true := fun as ha => by
  obtain ⟨xs, hm, rfl⟩ := List.mem_map.mp ha
  refine ⟨by simpa using h.row xs hm, fun x hx => ?_⟩
  obtain ⟨y, hy, rfl⟩ := List.mem_map.mp hx
  rw [isAm_fr]
  exact decide_eq_true (h.sz xs hm y hy).2
end LW
namespace LW
open PySem SL NF NT
variable [PW]
variable {ca : Nat → Addr} {S : Sto} {p : Addr} {n : Nat} {B : Nat}
def Tame (a : PV) (W k : Nat) : Prop := ∃ d, toD a = some d ∧ d.showable = true ∧ d.leavesShort 100 = true ∧ d.weight ≤ W ∧ d.depth ≤ k
theorem Tame.mono {a : PV} {W W2 k k2 : Nat} (h : Tame a W k) (h1 : W ≤ W2) (h2 : k ≤ k2) : Tame a W2 k2 := by
  obtain ⟨d, a1, a2, a3, a4, a5⟩ := h
  exact ⟨d, a1, a2, a3, by omega, by omega⟩
theorem tame_int {i : Int} (h : i.natAbs < 2 ^ 80) : Tame (.int i) 80 0 := by
  have hl : i.natAbs.log2 < 80 := PySem.Flt.log2_lt_of (by decide) h
  refine ⟨.int i, rfl, (fineI (bits_up h (by decide))).1, ?_, weightI h (by decide), Nat.le_refl 0⟩
  simp only [PyData.leavesShort, decide_eq_true_eq]
  show (Str.ofString (toString i)).length ≤ 100
  have h1 := int_text_length_le (a := i) (k := 80) (by decide) hl
  rw [PySem.ofString_length]
  omega
theorem tame_bl (b : Bool) : Tame (.bl b) 0 0 := ⟨.bool b, rfl, rfl, rfl, Nat.le_refl 0, Nat.le_refl 0⟩
theorem tames {W k : Nat} : ∀ {as : List PV}, (∀ a ∈ as, Tame a W k) → ∃ ds, toDs as = some ds ∧ PyData.showableAll ds = true ∧ PyData.leavesShortAll 100 ds = true ∧ PyData.weightAll ds ≤ (W + 1) * as.length ∧ PyData.depthAll ds ≤ k
  | [], _ => ⟨[], rfl, rfl, rfl, Nat.zero_le _, Nat.zero_le _⟩
  | a :: as, h => by
    obtain ⟨d, a1, a2, a3, a4, a5⟩ := h a (List.mem_cons_self ..)
    obtain ⟨ds, b1, b2, b3, b4, b5⟩ := tames (as := as) fun x hx => h x (List.mem_cons_of_mem _ hx)
    refine ⟨d :: ds, by simp only [toDs, a1, b1], by simp only [PyData.showableAll, a2, b2]; rfl, by simp only [PyData.leavesShortAll, a3, b3]; rfl, ?_, ?_⟩
    · simp only [PyData.weightAll, List.length_cons]
      rw [Nat.mul_add, Nat.mul_one]
      omega
    · simp only [PyData.depthAll]
      omega
theorem tame_lst {as : List PV} {W k : Nat} (h : ∀ a ∈ as, Tame a W k) : Tame (.lst as) ((W + 1) * as.length) (k + 1) := by
  obtain ⟨ds, b1, b2, b3, b4, b5⟩ := tames h
  exact ⟨.list ds, by simp only [toD, b1], b2, b3, b4, by simp only [PyData.depth]; omega⟩
theorem tame_tup {as : List PV} {W k : Nat} (h : ∀ a ∈ as, Tame a W k) : Tame (.tup as) ((W + 1) * as.length) (k + 1) := by
  obtain ⟨ds, b1, b2, b3, b4, b5⟩ := tames h
  exact ⟨.tuple ds, by simp only [toD, b1], b2, b3, b4, by simp only [PyData.depth]; omega⟩
theorem Tame.rep {a : PV} {W k : Nat} (h : Tame a W k) (hW : W ≤ 60000) (hk : k ≤ 20) : ∃ z, repF [a] = some (.str z) := by
  obtain ⟨d, a1, a2, a3, a4, a5⟩ := h
  refine ⟨d.shown, ?_⟩
  show (match toD a with | some d => if FineP a d then some (PV.str d.shown) else none | none => none) = _
  rw [a1]
  have hf : FineP a d := by
    refine ⟨a2, by omega, ?_⟩
    have h5 := PyData.shown_le 100 (by decide) d a3
    have h6 : (100 + 2) * d.weight ≤ 102 * 60000 := Nat.mul_le_mul_left _ (by omega)
    have h7 : 102 * 60000 + 100 ≤ sizeLine := by decide
    omega
  simp only
  rw [if_pos hf]
theorem toD_ty {a : PV} {d : PyData} (h : toD a = some d) : tyN a ≠ none := by
  cases a with
  | dit ks as => simp [toD] at h
  | ins c ns as => simp [toD] at h
  | exc c ns as => simp [toD] at h
  | cls c => simp [toD] at h
  | scr ns => simp [toD] at h
  | ptr p => simp [toD] at h
  | hole => simp [toD] at h
  | _ => simp [tyN]
theorem Tame.ty {a : PV} {W k : Nat} (h : Tame a W k) : tyN a ≠ none := toD_ty h.choose_spec.1
end LW
namespace LW
open PySem SL NF NT
variable [PW]
variable {ca : Nat → Addr} {S : Sto} {p : Addr} {n : Nat} {α β : Type}
theorem add_ls {as bs : List PV} (h : as.length + bs.length ≤ 100000) : addF (.lst as) (.lst bs) = some (.lst (as ++ bs)) := by
  show (if as.length + bs.length ≤ 100000 then some (PV.lst (as ++ bs)) else none) = _
  rw [if_pos h]
def mat (n : Nat) (M : Nat → Nat → Rat) : List (List Rat) := (List.range n).map fun i => vec n (M i)
section
variable {qs : List Addr} {M : Nat → Nat → Rat} {i j : Nat}
theorem Mt.some (hm : Mt n qs M S) (hi : i < n) : ∃ q, qs[i]? = some q ∧ q ∈ qs := by
  have : i < qs.length := by rw [hm.len]; exact hi
  exact ⟨qs[i], List.getElem?_eq_getElem this, List.getElem_mem this⟩
end
theorem Off.refl {qs : List Addr} : Off qs S S := fun _ _ => rfl
theorem rng_maps (n : Nat) (h : n < 2 ^ 59) : itR (vcons (SL.ret (natP n)) vnil) = ret ((List.range n).map natP) := itR_n n h
end LW
namespace LW
open PySem SL NF NT
end LW
namespace LW
open PySem SL NF NT
end LW
namespace LW
open PySem SL NF NT
end LW
namespace LW
open PySem SL NF NT
end LW
namespace LW
open PySem SL NF NT
variable [PW]
variable {ca : Nat → Addr} {S : Sto} {p : Addr} {n : Nat} {α β γ : Type} {B : Nat}
def atR (xs : List Rat) (i : Nat) : Rat := xs.getD i 0
end LW
namespace LW
open PySem SL NF NT
variable [PW]
variable {ca : Nat → Addr} {S : Sto} {p : Addr} {n : Nat} {α β γ : Type} {B : Nat}
def isGap (a : PV) : Bool := isAm a && (match a with | .tup [.int a, .int b] => decide (a ≤ b) | _ => false)
theorem isGap_fr (x : Rat) : isGap (fr x) = (decide (0 ≤ x.num) && decide (x.num ≤ x.den)) := by
  unfold isGap
  rw [isAm_fr]
theorem gap_no {a : PV} (h : isAm a = false) : isGap a = false := by
  unfold isGap
  rw [h, Bool.false_and]
theorem gap_eq (a : PV) (h : Ent B a) : F_is_gap ca a = ret (.v (.bl (isGap a))) := by
  have e := amount_eq (ca := ca) a h
  unfold F_is_gap B_is_gap
  rw [call1 e]
  cases c : isAm a with
  | false => simp [gap_no c]
  | true =>
    obtain ⟨x, rfl, hx, h0⟩ := am_of c h
    simp [isGap_fr, h0, leU]
end LW
namespace LW
open PySem SL NF NT
end LW
namespace LW
open PySem SL NF NT
variable [PW]
variable {ca : Nat → Addr} {S : Sto} {p : Addr}
def Bot (xs : List Rat) : Prop := ∃ b : Nat, 0 < b ∧ b ≤ 999 ∧ ∀ x ∈ xs, Ml b x
end LW
set_option maxHeartbeats 2000000
set_option exponentiation.threshold 1000
namespace LW
open PySem SL NF NT
variable [PW]
variable {ca : Nat → Addr} {S : Sto} {p : Addr} {n k D K : Nat} {zs : List Str} {xss : List (List Rat)} {c : Nat → Rat}
abbrev shA (xss : List (List Rat)) (r t : Nat) : Rat := atR (xss.getD r []) t
/-- the chances c, kept where the mark is z -/
def ms (zs : List Str) (z : Str) (c : Nat → Rat) (i : Nat) : Rat := if zs.getD i Str.empty = z then c i else 0
/-- a step on from the chances c -/
def stR (xss : List (List Rat)) (c : Nat → Rat) (i : Nat) : Rat := Su xss.length fun r => c r * shA xss r i
def goneR (zs : List Str) (xss : List (List Rat)) (z : Str) (c : Nat → Rat) : Nat → Rat := ms zs z (stR xss c)
def rowR (zs : List Str) (xss : List (List Rat)) : List Str → (Nat → Rat) → Nat → Rat
  | [], c => c
  | z :: ws, c => rowR zs xss ws (goneR zs xss z c)
theorem sumF_R : ∀ xs : List Rat, sumF 0 xs = sumR xs
  | [] => rfl
  | x :: xs => by rw [sumF_cons, sumF_R xs]; rfl
theorem su_le {f g : Nat → Rat} : ∀ {n : Nat}, (∀ i, i < n → f i ≤ g i) → Su n f ≤ Su n g
  | 0, _ => by rw [su_zero, su_zero]; decide
  | n + 1, h => by
    have h1 := su_le fun i hi => h i (Nat.lt_succ_of_lt hi)
    have h2 := h n (Nat.lt_succ_self n)
    rw [su_succ, su_succ]
    grind
theorem su_nn {f : Nat → Rat} : ∀ {n : Nat}, (∀ i, i < n → 0 ≤ f i) → 0 ≤ Su n f
  | 0, _ => by rw [su_zero]; decide
  | n + 1, h => by
    have h1 := su_nn fun i hi => h i (Nat.lt_succ_of_lt hi)
    have h2 := h n (Nat.lt_succ_self n)
    rw [su_succ]
    grind
theorem su_part {f : Nat → Rat} {i : Nat} : ∀ {n : Nat}, (∀ i, i < n → 0 ≤ f i) → i < n → f i ≤ Su n f
  | n + 1, h, hi => by
    have h1 := su_nn fun i hi => h i (Nat.lt_succ_of_lt hi)
    have h2 := h n (Nat.lt_succ_self n)
    rw [su_succ]
    by_cases e : i = n
    · subst e
      grind
    · have h3 := su_part (fun i hi => h i (Nat.lt_succ_of_lt hi)) (show i < n by omega)
      grind
theorem ml_su {N : Nat} {f : Nat → Rat} : ∀ {n : Nat}, (∀ i, i < n → Ml N (f i)) → Ml N (Su n f)
  | 0, _ => Ml.zero
  | n + 1, h => by
    rw [su_succ]
    exact (ml_su fun i hi => h i (Nat.lt_succ_of_lt hi)).add (h n (Nat.lt_succ_self n))
/-- what is known of a machine: D divides out all its shares -/
structure Mch (zs : List Str) (xss : List (List Rat)) (D K : Nat) : Prop where
  good : NT.Good zs xss
  pos : 0 < D
  ml : ∀ r, r < xss.length → ∀ t, t < xss.length → Ml D (shA xss r t)
  nn : ∀ r, r < xss.length → ∀ t, t < xss.length → 0 ≤ shA xss r t
  one : ∀ r, r < xss.length → Su xss.length (shA xss r) = 1
  few : D ^ (K + 1) < 2 ^ 500
theorem bots : ∀ {xss : List (List Rat)}, (∀ xs ∈ xss, Bot xs) → ∃ D : Nat, 0 < D ∧ D ≤ 999 ^ xss.length ∧ ∀ xs ∈ xss, ∀ x ∈ xs, Ml D x
  | [], _ => ⟨1, by decide, by decide, fun _ h => nomatch h⟩
  | xs :: xss, h => by
    obtain ⟨D, d0, d9, hD⟩ := bots fun ys hy => h ys (List.mem_cons_of_mem _ hy)
    obtain ⟨b, b0, b9, hb⟩ := h xs (List.mem_cons_self ..)
    refine ⟨D * b, Nat.mul_pos d0 b0, ?_, fun ys hy x hx => ?_⟩
    · rw [List.length_cons, Nat.pow_succ]
      exact Nat.mul_le_mul d9 b9
    · rcases List.mem_cons.mp hy with e | hy
      · rw [e] at hx
        exact (hb x hx).up (Nat.dvd_mul_left ..)
      · exact (hD ys hy x hx).up (Nat.dvd_mul_right ..)
theorem row_mem {r : Nat} (h : r < xss.length) : xss.getD r [] ∈ xss := by
  rw [List.getD_eq_getElem?_getD, List.getElem?_eq_getElem h]
  exact List.getElem_mem h
theorem Mch.of (g : NT.Good zs xss) (hb : ∀ xs ∈ xss, Bot xs) : ∃ D, Mch zs xss D 7 := by
  obtain ⟨D, d0, d9, hD⟩ := bots hb
  obtain ⟨_, g6, _, gl, gs⟩ := g
  have at' : ∀ r, r < xss.length → ∀ t, t < xss.length → shA xss r t ∈ xss.getD r [] := fun r hr t ht => by
    have l := (gs _ (row_mem hr)).1
    unfold shA atR
    generalize xss.getD r [] = xs at l ⊢
    rw [List.getD_eq_getElem?_getD, List.getElem?_eq_getElem (by omega)]
    exact List.getElem_mem _
  refine ⟨D, ⟨by assumption, g6, by assumption, gl, gs⟩, d0, fun r hr t ht => hD _ (row_mem hr) _ (at' r hr t ht), fun r hr t ht => ((gs _ (row_mem hr)).2.1 _ (at' r hr t ht)).le.1, fun r hr => ?_, ?_⟩
  · have h := gs _ (row_mem hr)
    have e := h.2.2
    rw [← sumF_R, su_list] at e
    rw [show (xss.getD r []).length = xss.length by rw [h.1, gl]] at e
    exact e
  · have h1 : D ≤ 999 ^ 6 := Nat.le_trans d9 (Nat.pow_le_pow_right (by decide) (by omega))
    exact Nat.lt_of_le_of_lt (Nat.pow_le_pow_left h1 8) (by decide)
/-- chances that come to one at most, whose bottoms divide the k-th power of D -/
def Fit (n D k : Nat) (c : Nat → Rat) : Prop := (∀ i, i < n → Ml (D ^ k) (c i) ∧ 0 ≤ c i) ∧ Su n c ≤ 1
theorem Fit.le1 {i : Nat} (h : Fit n D k c) (hi : i < n) : c i ≤ 1 := by
  have h1 := su_part (fun i hi => (h.1 i hi).2) hi
  have h2 := h.2
  grind
theorem pow_few {D j : Nat} (d0 : 0 < D) (h : D ^ (K + 1) < 2 ^ 500) (hj : j ≤ K + 1) : D ^ j < 2 ^ 500 := Nat.lt_of_le_of_lt (Nat.pow_le_pow_right d0 hj) h
theorem Fit.sz {i : Nat} (m : Mch zs xss D K) (h : Fit n D k c) (hk : k ≤ K + 1) (hi : i < n) : Sz 500 (c i) :=
  (h.1 i hi).1.sz (Nat.pow_pos m.pos) (h.1 i hi).2 (h.le1 hi) (pow_few m.pos m.few hk)
theorem Mch.le1 (m : Mch zs xss D K) {r t : Nat} (hr : r < xss.length) (ht : t < xss.length) : shA xss r t ≤ 1 := by
  have h1 := su_part (m.nn r hr) ht
  rw [m.one r hr] at h1
  exact h1
theorem Fit.prod (m : Mch zs xss D K) (h : Fit xss.length D k c) {r t : Nat} (hr : r < xss.length) (ht : t < xss.length) : Ml (D ^ (k + 1)) (c r * shA xss r t) ∧ 0 ≤ c r * shA xss r t ∧ c r * shA xss r t ≤ c r := by
  obtain ⟨h1, h2⟩ := h.1 r hr
  have a0 := m.nn r hr t ht
  have a1 := m.le1 hr ht
  refine ⟨by rw [Nat.pow_succ]; exact h1.mul (m.ml r hr t ht), Rat.mul_nonneg h2 a0, ?_⟩
  have := Rat.mul_nonneg h2 (show 0 ≤ 1 - shA xss r t by grind)
  grind
theorem Fit.kept {z : Str} (h : Fit n D k c) : Fit n D k (ms zs z c) := by
  have h1 : ∀ i, i < n → ms zs z c i ≤ c i ∧ 0 ≤ ms zs z c i := fun i hi => by
    have := (h.1 i hi).2
    unfold LW.ms
    split <;> grind
  refine ⟨fun i hi => ⟨?_, (h1 i hi).2⟩, ?_⟩
  · unfold LW.ms
    split
    · exact (h.1 i hi).1
    · exact Ml.zero
  · have h2 := su_le fun i hi => (h1 i hi).1
    have h3 := h.2
    grind
theorem stR_sum (m : Mch zs xss D K) (c : Nat → Rat) : Su xss.length (stR xss c) = Su xss.length c := by
  unfold stR
  rw [su_swap]
  refine su_congr fun r hr => ?_
  rw [su_mul, m.one r hr, Rat.mul_one]
theorem Fit.st (m : Mch zs xss D K) (h : Fit xss.length D k c) : Fit xss.length D (k + 1) (stR xss c) :=
  ⟨fun i hi => ⟨ml_su fun r hr => (h.prod m hr hi).1, su_nn fun r hr => (h.prod m hr hi).2.1⟩, by rw [stR_sum m]; exact h.2⟩
theorem Fit.gone {z : Str} (m : Mch zs xss D K) (h : Fit xss.length D k c) : Fit xss.length D (k + 1) (goneR zs xss z c) := (h.st m).kept
theorem Fit.row (m : Mch zs xss D K) : ∀ {ws : List Str} {k : Nat} {c : Nat → Rat}, Fit xss.length D k c → Fit xss.length D (k + ws.length) (rowR zs xss ws c)
  | [], _, _, h => h
  | z :: ws, k, c, h => by
    have := Fit.row m (ws := ws) (h.gone (z := z) m)
    rw [List.length_cons, show k + (ws.length + 1) = k + 1 + ws.length by omega]
    exact this
end LW
set_option maxHeartbeats 2000000
set_option exponentiation.threshold 1000
namespace NT
open PySem SL NF LW
end NT
namespace LW
open PySem SL NF NT
end LW
set_option maxHeartbeats 2000000
set_option exponentiation.threshold 2000
namespace LW
open PySem SL NF NT
end LW
namespace NT
open PySem SL NF LW
end NT
set_option maxHeartbeats 2000000
set_option exponentiation.threshold 2000
namespace NT
open PySem SL NF LW
variable [PW]
variable {ca : Nat → Addr} {S : Sto} {p : Addr} {n k D K : Nat} {zs : List Str} {xss : List (List Rat)}
inductive Come (xss : List (List Rat)) (r : Nat) : Nat → Prop
  | here : Come xss r r
  | step {a b : Nat} : Come xss r a → b < xss.length → 0 < shA xss a b → Come xss r b
/-- the places of a row that are above nought, put to what is found -/
def grow : Nat → List Rat → List Nat → List Nat
  | _, [], f => f
  | k, x :: xs, f => grow (k + 1) xs (if 0 < x ∧ k ∉ f then f ++ [k] else f)
theorem grow_pre : ∀ (k : Nat) (xs : List Rat) (f : List Nat), ∃ g, grow k xs f = f ++ g
  | _, [], f => ⟨[], (List.append_nil f).symm⟩
  | k, x :: xs, f => by
    obtain ⟨g, e⟩ := grow_pre (k + 1) xs (if 0 < x ∧ k ∉ f then f ++ [k] else f)
    unfold grow
    rw [e]
    split
    · exact ⟨k :: g, by rw [List.append_assoc]; rfl⟩
    · exact ⟨g, rfl⟩
theorem grow_nodup : ∀ (k : Nat) (xs : List Rat) (f : List Nat), f.Nodup → (grow k xs f).Nodup
  | _, [], f, d => d
  | k, x :: xs, f, d => by
    unfold grow
    refine grow_nodup (k + 1) xs _ ?_
    split
    · rename_i h
      rw [List.nodup_append]
      refine ⟨d, by simp, fun a ha b hb e => ?_⟩
      rw [List.mem_singleton.mp hb] at e
      exact h.2 (e ▸ ha)
    · exact d
theorem grow_mem : ∀ (k : Nat) (xs : List Rat) (f : List Nat) (t : Nat), t ∈ grow k xs f ↔ t ∈ f ∨ ∃ j x, xs[j]? = some x ∧ 0 < x ∧ t = k + j
  | k, [], f, t => by simp [grow]
  | k, x :: xs, f, t => by
    unfold grow
    rw [grow_mem (k + 1) xs _ t]
    have e : (∃ j y, (x :: xs)[j]? = some y ∧ 0 < y ∧ t = k + j) ↔ (0 < x ∧ t = k) ∨ ∃ j y, xs[j]? = some y ∧ 0 < y ∧ t = k + 1 + j := by
      constructor
      · rintro ⟨j, y, h1, h2, h3⟩
        cases j with
        | zero =>
          simp at h1
          exact .inl ⟨h1 ▸ h2, h3⟩
        | succ j => exact .inr ⟨j, y, by simpa using h1, h2, by omega⟩
      · rintro (⟨h1, h2⟩ | ⟨j, y, h1, h2, h3⟩)
        · exact ⟨0, x, rfl, h1, h2⟩
        · exact ⟨j + 1, y, by simpa using h1, h2, by omega⟩
    rw [e, ← or_assoc]
    refine or_congr ?_ Iff.rfl
    by_cases h : 0 < x ∧ k ∉ f
    · rw [if_pos h, List.mem_append, List.mem_singleton]
      refine or_congr Iff.rfl ⟨fun z => ⟨h.1, z⟩, fun z => z.2⟩
    · rw [if_neg h]
      refine ⟨.inl, fun z => z.elim id fun z => ?_⟩
      apply Classical.byContradiction
      intro hn
      exact h ⟨z.1, fun q => hn (z.2 ▸ q)⟩
/-- what is found ahead of the a-th room's look -/
structure Fnd (xss : List (List Rat)) (r : Nat) (f : List Nat) (a : Nat) : Prop where
  nd : f.Nodup
  lt : ∀ t ∈ f, t < xss.length
  me : r ∈ f
  co : ∀ t ∈ f, Come xss r t
  le : a ≤ f.length
  cl : ∀ i, i < a → ∀ o, f[i]? = some o → ∀ t, t < xss.length → 0 < shA xss o t → t ∈ f
theorem nodup_few {f : List Nat} {n : Nat} (d : f.Nodup) (h : ∀ t ∈ f, t < n) : f.length ≤ n := by
  have h2 : f ⊆ List.range n := fun t ht => List.mem_range.mpr (h t ht)
  have h3 := List.Nodup.length_le_of_subset d h2
  rwa [List.length_range] at h3
theorem Fnd.next {r a o : Nat} {f : List Nat} (hw : ∀ xs ∈ xss, xs.length = xss.length) (h : Fnd xss r f a) (ho : f[a]? = some o) : Fnd xss r (grow 0 (xss.getD o []) f) (a + 1) := by
  have hol : o < xss.length := h.lt o (List.mem_of_getElem? ho)
  have hl := hw _ (row_mem hol)
  obtain ⟨g, eg⟩ := grow_pre 0 (xss.getD o []) f
  have al : a < f.length := (List.getElem?_eq_some_iff.mp ho).1
  have mm : ∀ t, t ∈ grow 0 (xss.getD o []) f ↔ t ∈ f ∨ (t < xss.length ∧ 0 < shA xss o t) := fun t => by
    rw [grow_mem]
    refine or_congr Iff.rfl ⟨?_, fun ⟨h1, h2⟩ => ⟨t, shA xss o t, ?_, h2, (Nat.zero_add t).symm⟩⟩
    · rintro ⟨j, x, h1, h2, rfl⟩
      have hj : j < (xss.getD o []).length := (List.getElem?_eq_some_iff.mp h1).1
      rw [Nat.zero_add]
      refine ⟨by omega, ?_⟩
      unfold shA atR
      rw [List.getD_eq_getElem?_getD, h1]
      exact h2
    · unfold shA atR
      rw [List.getD_eq_getElem?_getD (l := xss.getD o []), List.getElem?_eq_getElem (by omega)]
      rfl
  refine ⟨grow_nodup _ _ _ h.nd, fun t ht => ?_, (mm r).mpr (.inl h.me), fun t ht => ?_, ?_, fun i hi o' ho' t ht hp => ?_⟩
  · rcases (mm t).mp ht with z | z
    · exact h.lt t z
    · exact z.1
  · rcases (mm t).mp ht with z | z
    · exact h.co t z
    · exact .step (h.co o (List.mem_of_getElem? ho)) z.1 z.2
  · rw [eg, List.length_append]
    omega
  · rw [eg, List.getElem?_append_left (by omega)] at ho'
    rw [mm]
    by_cases e : i = a
    · rw [e, ho] at ho'
      cases ho'
      exact .inr ⟨ht, hp⟩
    · exact .inl (h.cl i (by omega) o' ho' t ht hp)
/-- the rooms come to, rising -/
def Reach (xss : List (List Rat)) (r : Nat) (os : List Nat) : Prop := os.Pairwise (· < ·) ∧ ∀ o, o ∈ os ↔ Come xss r o
theorem Come.lt {r o : Nat} (hr : r < xss.length) (h : Come xss r o) : o < xss.length := by
  cases h with
  | here => exact hr
  | step _ h _ => exact h
theorem Reach.one {r : Nat} {os ps : List Nat} (h : Reach xss r os) (k : Reach xss r ps) : os = ps := by
  have d : ∀ {l : List Nat}, l.Pairwise (· < ·) → l.Nodup := fun h => List.nodup_iff_pairwise_ne.mpr (h.imp fun h => Nat.ne_of_lt h)
  have pm : os.Perm ps := by
    rw [List.perm_iff_count]
    intro a
    rw [(d h.1).count, (d k.1).count]
    by_cases z : Come xss r a
    · rw [if_pos ((h.2 a).mpr z), if_pos ((k.2 a).mpr z)]
    · rw [if_neg fun q => z ((h.2 a).mp q), if_neg fun q => z ((k.2 a).mp q)]
  exact List.Perm.eq_of_pairwise (le := (· < ·)) (fun a b _ _ h1 h2 => absurd h1 (Nat.lt_asymm h2)) h.1 k.1 pm
end NT
set_option maxHeartbeats 2000000
set_option exponentiation.threshold 2000
namespace NT
open PySem SL NF LW
variable [PW]
variable {ca : Nat → Addr} {S : Sto} {p : Addr} {n k D K : Nat} {zs : List Str} {xss : List (List Rat)} {os : List Nat}
def Ord (n : Nat) (os : List Nat) : Prop := os.Perm (List.range n)
theorem Ord.len (h : Ord n os) : os.length = n := by rw [h.length_eq, List.length_range]
theorem Ord.lt (h : Ord n os) {o : Nat} (ho : o ∈ os) : o < n := List.mem_range.mp (h.mem_iff.mp ho)
theorem Ord.all (h : Ord n os) {o : Nat} (ho : o < n) : o ∈ os := h.mem_iff.mpr (List.mem_range.mpr ho)
end NT
set_option maxHeartbeats 2000000
set_option exponentiation.threshold 2000
namespace SL
open PySem
variable [PW]
variable {α β A T : Type} {S S2 : Sto} {m : W α}
def AnsS (m : W α) (S : Sto) (P : α → Sto → Prop) : Prop := ∀ Ψ Ξ, (∀ a S2, P a S2 → Ψ a S2) → m S Ψ Ξ
theorem AnsS.ret {a : α} {P : α → Sto → Prop} (p : P a S) : AnsS (SL.ret a) S P := fun Ψ Ξ k => k a S p
theorem AnsS.mono {P P2 : α → Sto → Prop} (h : AnsS m S P) (k : ∀ a S2, P a S2 → P2 a S2) : AnsS m S P2 := fun Ψ Ξ z => h Ψ Ξ fun a S2 pa => z a S2 (k a S2 pa)
theorem AnsS.of {P : α → Prop} (h : Ans m S P) : AnsS m S fun a S2 => S2 = S ∧ P a := fun Ψ Ξ z => h Ψ Ξ fun a pa => z a S ⟨rfl, pa⟩
theorem AnsS.is {a : α} {P : α → Sto → Prop} (h : m = SL.ret a) (p : P a S) : AnsS m S P := by rw [h]; exact AnsS.ret p
/-- all that stood stands -/
def Kept (S S2 : Sto) : Prop := ∀ q c, S q = some c → S2 q = some c
theorem Kept.refl (S : Sto) : Kept S S := fun _ _ h => h
theorem Kept.put {p : Addr} {c : Cl} (h : Kept S S2) (hp : S p = none) : Kept S (put S2 p c) := fun q d e => by
  rw [put_ne fun z => by rw [z, hp] at e; cases e]
  exact h q d e
theorem Kept.cut (h : Kept S S2) : cutS S S2 = S := by
  funext q
  unfold cutS
  cases c : S q with
  | none => rfl
  | some k => exact h q k c
end SL
namespace NT
open PySem SL NF LW
end NT
set_option maxHeartbeats 2000000
set_option exponentiation.threshold 2000
namespace NT
open PySem SL NF LW
variable [PW]
variable {ca : Nat → Addr} {S : Sto} {n B : Nat}
def sgn (c : Nat) : Bool := decide (97 ≤ c) && decide (c ≤ 122)
def isMk : PV → Bool
  | .str z => decide (1 ≤ z.cps.size) && decide (z.cps.size ≤ 4) && z.cps.toList.all sgn
  | _ => false
/-- texts that are not too great -/
def Tx (a : PV) : Prop := tyN a ≠ none ∧ ∀ z, a = .str z → z.cps.size ≤ 1000 ∧ PyData.strOk z = true
theorem leU_S (x y : Str) : leU (.str x) (.str y) = some (.bl (!decide (y.cps.toList < x.cps.toList))) := by
  simp only [leU]
theorem sign_eq (c : Nat) : E_is_mark_1 ca (.str ⟨#[c]⟩) = ret (.bl (sgn c)) := by
  have e1 : leU (.str (Str.ofString "a")) (.str ⟨#[c]⟩) = some (.bl (decide (97 ≤ c))) := by
    rw [leU_S]
    congr 2
    have : (([c] : List Nat) < [97]) ↔ c < 97 := by
      rw [List.cons_lt_cons_iff]
      exact ⟨fun h => h.elim id fun h => absurd h.2 (List.not_lt_nil _), .inl⟩
    show (!decide (([c] : List Nat) < [97])) = _
    by_cases h : c < 97
    · rw [decide_eq_true (this.mpr h), decide_eq_false (by omega)]; rfl
    · rw [decide_eq_false fun z => h (this.mp z), decide_eq_true (by omega)]; rfl
  have e2 : leU (.str ⟨#[c]⟩) (.str (Str.ofString "z")) = some (.bl (decide (c ≤ 122))) := by
    rw [leU_S]
    congr 2
    have : (([122] : List Nat) < [c]) ↔ 122 < c := by
      rw [List.cons_lt_cons_iff]
      exact ⟨fun h => h.elim id fun h => absurd h.2 (List.not_lt_nil _), .inl⟩
    show (!decide (([122] : List Nat) < [c])) = _
    by_cases h : 122 < c
    · rw [decide_eq_true (this.mpr h), decide_eq_false (by omega)]; rfl
    · rw [decide_eq_false fun z => h (this.mp z), decide_eq_true (by omega)]; rfl
  unfold E_is_mark_1 sgn
  by_cases h : 97 ≤ c
  · simp [e1, e2, h]
  · simp [e1, e2, h]
theorem len_str {z : Str} (h : z.cps.size ≤ 1000) : lenF [.str z] = some (.int (z.cps.size : Int)) := by
  show (if z.length ≤ 100000 then some (PV.int (z.length : Int)) else none) = _
  have hz : z.length ≤ 100000 := by
    show z.cps.size ≤ 100000
    omega
  rw [if_pos hz]
  rfl
theorem isS_eq (a : PV) (h : tyN a ≠ none) : (∃ z, a = .str z) ∨ ((∀ z, a ≠ .str z) ∧ isiB "str" a = some (.bl false)) := by
  rw [isi_str a h]
  cases a <;> first | exact .inl ⟨_, rfl⟩ | exact .inr ⟨(fun z e => nomatch e), rfl⟩
theorem len_chain (k : Nat) (m : Int) (hm : 1 ≤ m) : chain leU leU (SL.ret (.int 1)) (SL.ret (.int (k : Int))) (SL.ret (.int m)) = ret (.bl (decide (1 ≤ k) && decide ((k : Int) ≤ m))) := by
  have e1 : leU (.int 1) (.int (k : Int)) = some (.bl (decide (1 ≤ k))) := by
    show some (PV.bl (decide ((1 : Int) ≤ (k : Int)))) = _
    congr 2
    exact decide_eq_decide.mpr (by omega)
  have e2 : leU (.int (k : Int)) (.int m) = some (.bl (decide ((k : Int) ≤ m))) := rfl
  by_cases h : 1 ≤ k
  · simp [e1, e2, h]
  · simp [e1, h]
theorem mark_any (a : PV) (h : Tx a) : F_is_mark ca a = ret (.v (.bl (isMk a))) := by
  unfold F_is_mark B_is_mark
  rcases isS_eq a h.1 with ⟨z, rfl⟩ | ⟨hz, e⟩
  · obtain ⟨hl, _⟩ := h.2 z rfl
    have e0 := isi_str (.str z) h.1
    have el : cb lenF (vcons (SL.ret (.str z)) vnil) = ret (.int (z.cps.size : Int)) := by simp [len_str hl]
    have ea : lcO some (fun _ => ret true) (E_is_mark_1 ca) (itS (ret (.str z))) = ret (z.cps.toList.map fun c => .bl (sgn c)) := by
      have : itS (ret (.str z)) = ret (z.cps.toList.map fun c => .str ⟨#[c]⟩) := by
        unfold itS
        rw [r_bind]
        exact lift_some _
      rw [this]
      exact lcO_map (by simp; omega) fun c _ => sign_eq c
    rw [el, len_chain _ 4 (by decide), ea]
    by_cases c : 1 ≤ z.cps.size ∧ z.cps.size ≤ 4
    · have c2 : (z.cps.size : Int) ≤ 4 := by omega
      simp [e0, c.1, c.2, c2, allF_map, isMk]
    · have : (decide (1 ≤ z.cps.size) && decide ((z.cps.size : Int) ≤ 4)) = false := by
        rw [Bool.and_eq_false_iff, decide_eq_false_iff_not, decide_eq_false_iff_not]
        omega
      have k : isMk (.str z) = false := by
        have : (decide (1 ≤ z.cps.size) && decide (z.cps.size ≤ 4)) = false := by
          rw [Bool.and_eq_false_iff, decide_eq_false_iff_not, decide_eq_false_iff_not]
          omega
        show (decide (1 ≤ z.cps.size) && decide (z.cps.size ≤ 4) && z.cps.toList.all sgn) = false
        rw [this, Bool.false_and]
      rw [this, k]
      simp [e0]
  · have k : isMk a = false := by
      cases a <;> first | rfl | exact absurd rfl (hz _)
    rw [k]
    simp [e]
end NT
set_option maxHeartbeats 2000000
set_option exponentiation.threshold 2000
namespace NT
open PySem SL NF LW
end NT
set_option maxHeartbeats 4000000
set_option exponentiation.threshold 2000
namespace LW
open PySem SL NF NT
variable [PW]
variable {ca : Nat → Addr} {S : Sto} {p : Addr} {n B : Nat}
theorem ti {i : Int} (h : i.natAbs < 2 ^ 80) : Tame (.int i) 100 1 := (tame_int h).mono (by decide) (by decide)
theorem tb (b : Bool) : Tame (.bl b) 100 1 := (tame_bl b).mono (by decide) (by decide)
theorem ts {z : Str} (h : (PyData.str z).leavesShort 100 = true) (h2 : z.cps.size ≤ 80) : Tame (.str z) 80 0 := ⟨.str z, rfl, rfl, h, h2, Nat.le_refl 0⟩
theorem t1 {a : PV} (ha : Tame a 100 1) : Tame (.tup [a]) 300 2 := (tame_tup (W := 100) (k := 1) fun x h => by rw [List.mem_singleton.mp h]; exact ha).mono (by simp) (by decide)
theorem t2 {a b : PV} (ha : Tame a 100 1) (hb : Tame b 100 1) : Tame (.tup [a, b]) 300 2 := (tame_tup (W := 100) (k := 1) fun x h => by simp at h; rcases h with rfl | rfl <;> assumption).mono (by simp) (by decide)
theorem t3 {a b c : PV} (ha : Tame a 80 0) (hb : Tame b 80 0) (hc : Tame c 80 0) : Tame (.tup [a, b, c]) 300 2 := (tame_tup (W := 80) (k := 0) fun x h => by simp at h; rcases h with rfl | rfl | rfl <;> assumption).mono (by simp) (by decide)
theorem l1 {a : PV} (ha : Tame a 80 0) : Tame (.lst [a]) 100 1 := (tame_lst (W := 80) (k := 0) fun x h => by rw [List.mem_singleton.mp h]; exact ha).mono (by simp) (by decide)
theorem l2 {a b : PV} (ha : Tame a 100 1) (hb : Tame b 100 1) : Tame (.lst [a, b]) 300 2 := (tame_lst (W := 100) (k := 1) fun x h => by simp at h; rcases h with rfl | rfl <;> assumption).mono (by simp) (by decide)
theorem tp (i j : Int) : tupW (vcons (SL.ret (.int i)) (vcons (SL.ret (.int j)) vnil)) = ret (.tup [.int i, .int j]) := by simp
theorem ng (i : Int) : op1 negF (SL.ret (.int i)) = ret (.int (-i)) := by simp
theorem tame_text {z : Str} (h : ∀ c ∈ z.cps.toList, c < 1114112) (h2 : z.cps.size ≤ 80) : Tame (.str z) 80 0 := ts (by
  simp only [PyData.leavesShort, List.all_eq_true, decide_eq_true_eq]
  exact fun c hc => Nat.lt_of_lt_of_le (h c hc) (by decide)) h2
theorem tx_text {z : Str} (h : ∀ c ∈ z.cps.toList, c < 1114112) (h2 : z.cps.size ≤ 80) : Tx (.str z) := ⟨by simp [tyN], fun y e => by
  cases e
  refine ⟨by omega, ?_⟩
  unfold PyData.strOk
  rw [Array.all_eq_true_iff_forall_mem]
  intro c hc
  exact decide_eq_true (h c (by simpa using hc))⟩
end LW
namespace LW
open PySem _root_.SL NF NT
end LW
namespace TX
open PySem
variable [PW]
abbrev cl (z : Str) : List Nat := z.cps.toList
end TX
set_option maxHeartbeats 2000000
namespace TX
open PySem _root_.SL
variable [PW]
def kind : PyData → Nat
  | .none => 0
  | .bool b => if b = true then 1 else 7
  | .int _ => 2
  | .str _ => 3
  | .list _ => 4
  | .tuple _ => 5
  | .dict _ => 6
end TX
namespace FL
section
variable {α : Type}
def valV (l : List (Nat × α)) (k : Nat) : Option α := match l with
  | [] => none
  | x :: l => if x.1 = k then some x.2 else valV l k
def hasV (l : List (Nat × α)) (k : Nat) : Bool := match l with
  | [] => false
  | x :: l => decide (x.1 = k) || hasV l k
def putK (l : List (Nat × α)) (k : Nat) (v : α) : List (Nat × α) := if hasV l k = true then l.map (fun x => if x.1 = k then (x.1, v) else x) else l ++ [(k, v)]
theorem has_val {k : Nat} : ∀ l : List (Nat × α), hasV l k = (valV l k).isSome
  | [] => rfl
  | x :: l => by
    unfold hasV valV
    by_cases h : x.1 = k
    · rw [if_pos h, decide_eq_true h]; rfl
    · rw [if_neg h, decide_eq_false h, Bool.false_or, has_val l]
theorem val_map {k j : Nat} {v : α} : ∀ l : List (Nat × α), valV (l.map fun x => if x.1 = k then (x.1, v) else x) j = if j = k then (valV l k).map (fun _ => v) else valV l j
  | [] => by simp [valV]
  | x :: l => by
    have ih := val_map (k := k) (j := j) (v := v) l
    rw [List.map_cons]
    by_cases h : x.1 = k
    · rw [if_pos h]
      unfold valV
      by_cases hj : x.1 = j
      · have : j = k := hj ▸ h
        rw [if_pos hj, if_pos this, if_pos h]; rfl
      · have : j ≠ k := fun c => hj (h.trans c.symm)
        rw [if_neg hj, if_neg this, if_neg hj, ih, if_neg this]
    · rw [if_neg h]
      unfold valV
      by_cases hj : x.1 = j
      · have : j ≠ k := fun c => h (hj.trans c)
        rw [if_pos hj, if_neg this, if_pos hj]
      · rw [if_neg hj, if_neg hj, if_neg h, ih]
theorem val_app {k j : Nat} {v : α} : ∀ l : List (Nat × α), valV l k = none → valV (l ++ [(k, v)]) j = if j = k then some v else valV l j
  | [], _ => by
    show (if k = j then some v else none) = _
    by_cases h : j = k
    · rw [if_pos h, if_pos h.symm]
    · rw [if_neg h, if_neg (fun c => h c.symm)]; rfl
  | x :: l, hn => by
    have hk : x.1 ≠ k := fun c => by unfold valV at hn; rw [if_pos c] at hn; cases hn
    unfold valV at hn
    rw [if_neg hk] at hn
    have ih := val_app (j := j) (v := v) l hn
    rw [List.cons_append]
    unfold valV
    by_cases hj : x.1 = j
    · rw [if_pos hj, if_neg (fun c => hk (hj.trans c)), if_pos hj]
    · rw [if_neg hj, if_neg hj, ih]
theorem valV_put {l : List (Nat × α)} {k j : Nat} {v : α} : valV (putK l k v) j = if j = k then some v else valV l j := by
  unfold putK
  rw [has_val]
  cases c : valV l k with
  | none =>
    rw [if_neg (by simp)]
    exact val_app l c
  | some x =>
    rw [if_pos (by simp), val_map l, c]
    rfl
end
abbrev Rc := List (Nat × (Int × Int))
abbrev Ah := List (Nat × Nat)
abbrev Stp := Nat × Nat × Int
def lexB (p q : Int × Int) : Bool := decide (p.1 < q.1) || (decide (p.1 = q.1) && decide (p.2 < q.2))
theorem lexB_iff {p q : Int × Int} : lexB p q = true ↔ p.1 < q.1 ∨ (p.1 = q.1 ∧ p.2 < q.2) := by
  unfold lexB
  simp
def better (p : Int × Int) : Option (Int × Int) → Bool
  | none => true
  | some q => lexB p q
def relax (x : Rc × Ah × Bool) (e : Stp) : Rc × Ah × Bool := match valV x.1 e.1 with
  | none => x
  | some p => if better (p.1 + e.2.2, p.2 + 1) (valV x.1 e.2.1) = true then (putK x.1 e.2.1 (p.1 + e.2.2, p.2 + 1), putK x.2.1 e.2.1 e.1, true) else x
def roundF (steps : List Stp) (R : Rc) (a : Ah) : Rc × Ah × Bool := steps.foldl relax (R, a, false)
inductive Rounds (steps : List Stp) : Rc → Ah → Rc → Ah → Prop
  | stop {R a} (R' a') : roundF steps R a = (R', a', false) → Rounds steps R a R' a'
  | next {R a} (R' a') {R2 a2} : roundF steps R a = (R', a', true) → Rounds steps R' a' R2 a2 → Rounds steps R a R2 a2
structure Gr (N starts : List Nat) (steps : List Stp) (π : Nat → Int) (B : Int) : Prop where
  mem : ∀ e ∈ steps, e.1 ∈ N ∧ e.2.1 ∈ N
  ne : ∀ e ∈ steps, e.1 ≠ e.2.1
  pot : ∀ e ∈ steps, π e.2.1 ≤ π e.1 + e.2.2
  st : ∀ s ∈ starts, s ∈ N ∧ π s ≤ B
structure Iv (N starts : List Nat) (steps : List Stp) (π : Nat → Int) (B : Int) (R : Rc) (a : Ah) : Prop where
  low : ∀ v p, valV R v = some p → π v - B ≤ p.1 ∧ 0 ≤ p.2
  mem : ∀ v p, valV R v = some p → v ∈ N
  sta : ∀ s ∈ starts, ∃ p, valV R s = some p
  fro : ∀ v u, valV a v = some u → ∃ w p q, (u, v, w) ∈ steps ∧ valV R u = some p ∧ valV R v = some q ∧ lexB q (p.1 + w, p.2 + 1) = false
  ori : ∀ v p, valV R v = some p → valV a v = none → v ∈ starts ∧ p = (0, 0)
section
variable {N starts : List Nat} {steps : List Stp} {π : Nat → Int} {B : Int} {R : Rc} {a : Ah}
/-- what one step does: nothing, or it betters its end -/
theorem relax_cases (x : Rc × Ah × Bool) (e : Stp) : (relax x e = x ∧ (∀ p, valV x.1 e.1 = some p → better (p.1 + e.2.2, p.2 + 1) (valV x.1 e.2.1) = false)) ∨
    ∃ p, valV x.1 e.1 = some p ∧ better (p.1 + e.2.2, p.2 + 1) (valV x.1 e.2.1) = true ∧ relax x e = (putK x.1 e.2.1 (p.1 + e.2.2, p.2 + 1), putK x.2.1 e.2.1 e.1, true) := by
  unfold relax
  cases h : valV x.1 e.1 with
  | none => exact .inl ⟨rfl, fun p hp => by cases hp⟩
  | some p =>
    simp only
    cases b : better (p.1 + e.2.2, p.2 + 1) (valV x.1 e.2.1) with
    | true => exact .inr ⟨p, rfl, b, by rw [if_pos rfl]⟩
    | false =>
      refine .inl ⟨by rw [if_neg (by decide)], fun q hq => ?_⟩
      cases hq
      exact b
theorem Iv.bettered (G : Gr N starts steps π B) (h : Iv N starts steps π B R a) {e : Stp} (he : e ∈ steps) {p : Int × Int} (hp : valV R e.1 = some p) (hb : better (p.1 + e.2.2, p.2 + 1) (valV R e.2.1) = true) : Iv N starts steps π B (putK R e.2.1 (p.1 + e.2.2, p.2 + 1)) (putK a e.2.1 e.1) := by
  have ne := G.ne e he
  have lo := h.low _ _ hp
  have po := G.pot e he
  refine ⟨fun v q hq => ?_, fun v q hq => ?_, fun s hs => ?_, fun v u hu => ?_, fun v q hq ha => ?_⟩
  · rw [valV_put] at hq
    split at hq
    · rename_i c
      cases hq
      subst c
      exact ⟨by show _ ≤ p.1 + e.2.2; omega, by show 0 ≤ p.2 + 1; omega⟩
    · exact h.low v q hq
  · rw [valV_put] at hq
    split at hq
    · rename_i c
      subst c
      exact (G.mem e he).2
    · exact h.mem v q hq
  · rw [valV_put]
    split
    · exact ⟨_, rfl⟩
    · exact h.sta s hs
  · rw [valV_put] at hu
    split at hu
    · rename_i c
      cases hu
      subst c
      refine ⟨e.2.2, p, (p.1 + e.2.2, p.2 + 1), he, ?_, ?_, ?_⟩
      · rw [valV_put, if_neg ne]; exact hp
      · rw [valV_put, if_pos rfl]
      · cases c : lexB (p.1 + e.2.2, p.2 + 1) (p.1 + e.2.2, p.2 + 1) with
        | false => rfl
        | true => rw [lexB_iff] at c; simp only at c; omega
    · rename_i c
      obtain ⟨w, p1, q1, h1, h2, h3, h4⟩ := h.fro v u hu
      by_cases cu : u = e.2.1
      · subst cu
        refine ⟨w, (p.1 + e.2.2, p.2 + 1), q1, h1, by rw [valV_put, if_pos rfl], by rw [valV_put, if_neg c]; exact h3, ?_⟩
        rw [h2] at hb
        have hb' := lexB_iff.mp hb
        cases d : lexB q1 (p.1 + e.2.2 + w, p.2 + 1 + 1) with
        | false => rfl
        | true =>
          have d' := lexB_iff.mp d
          have : lexB q1 (p1.1 + w, p1.2 + 1) = true := by
            rw [lexB_iff]
            simp only at *
            omega
          rw [h4] at this
          cases this
      · exact ⟨w, p1, q1, h1, by rw [valV_put, if_neg cu]; exact h2, by rw [valV_put, if_neg c]; exact h3, h4⟩
  · rw [valV_put] at ha
    split at ha
    · cases ha
    · rename_i c
      rw [valV_put, if_neg c] at hq
      exact h.ori v q hq ha
def f1 (R : Rc) (v : Nat) : Nat := match valV R v with
  | none => 1
  | some _ => 0
def f2 (π : Nat → Int) (B : Int) (R : Rc) (v : Nat) : Nat := match valV R v with
  | none => 0
  | some p => (p.1 - π v + B).toNat
def f3 (R : Rc) (v : Nat) : Nat := match valV R v with
  | none => 0
  | some p => p.2.toNat
theorem sum_same {f g : Nat → Nat} : ∀ {N : List Nat}, (∀ w ∈ N, f w = g w) → (N.map f).sum = (N.map g).sum
  | [], _ => rfl
  | w :: N, h => by
    simp only [List.map_cons, List.sum_cons]
    rw [h w List.mem_cons_self, sum_same fun x hx => h x (List.mem_cons_of_mem _ hx)]
theorem sum_le {f g : Nat → Nat} : ∀ {N : List Nat}, (∀ w ∈ N, f w ≤ g w) → (N.map f).sum ≤ (N.map g).sum
  | [], _ => Nat.le_refl _
  | w :: N, h => by
    simp only [List.map_cons, List.sum_cons]
    have h1 := h w List.mem_cons_self
    have h2 := sum_le fun x hx => h x (List.mem_cons_of_mem _ hx)
    omega
theorem sum_lt {f g : Nat → Nat} {v : Nat} : ∀ {N : List Nat}, v ∈ N → (∀ w ∈ N, f w ≤ g w) → f v < g v → (N.map f).sum < (N.map g).sum
  | w :: N, hv, h, hl => by
    simp only [List.map_cons, List.sum_cons]
    have h1 := h w List.mem_cons_self
    have h2 := sum_le fun x hx => h x (List.mem_cons_of_mem _ hx)
    rcases List.mem_cons.mp hv with rfl | hv
    · omega
    · have := sum_lt hv (fun x hx => h x (List.mem_cons_of_mem _ hx)) hl
      omega
def Fall (N : List Nat) (π : Nat → Int) (B : Int) (R' R : Rc) : Prop := (N.map (f1 R')).sum < (N.map (f1 R)).sum ∨ ((N.map (f1 R')).sum = (N.map (f1 R)).sum ∧ ((N.map (f2 π B R')).sum < (N.map (f2 π B R)).sum ∨ ((N.map (f2 π B R')).sum = (N.map (f2 π B R)).sum ∧ (N.map (f3 R')).sum < (N.map (f3 R)).sum)))
theorem Fall.trans {R1 R2 R3 : Rc} (h : Fall N π B R1 R2) (k : Fall N π B R2 R3) : Fall N π B R1 R3 := by
  unfold Fall at *
  omega
theorem fall_one (G : Gr N starts steps π B) (h : Iv N starts steps π B R a) {e : Stp} (he : e ∈ steps) {p : Int × Int} (hp : valV R e.1 = some p) (hb : better (p.1 + e.2.2, p.2 + 1) (valV R e.2.1) = true) : Fall N π B (putK R e.2.1 (p.1 + e.2.2, p.2 + 1)) R := by
  have at1 : ∀ w, w ≠ e.2.1 → valV (putK R e.2.1 (p.1 + e.2.2, p.2 + 1)) w = valV R w := fun w hw => by rw [valV_put, if_neg hw]
  have at0 : valV (putK R e.2.1 (p.1 + e.2.2, p.2 + 1)) e.2.1 = some (p.1 + e.2.2, p.2 + 1) := by rw [valV_put, if_pos rfl]
  have hm := (G.mem e he).2
  have lo := h.low _ _ hp
  have po := G.pot e he
  unfold Fall
  cases c : valV R e.2.1 with
  | none =>
    refine .inl (sum_lt hm (fun w _ => ?_) ?_)
    · by_cases hw : w = e.2.1
      · subst hw
        unfold f1
        rw [at0, c]
        exact Nat.zero_le _
      · unfold f1
        rw [at1 w hw]
        exact Nat.le_refl _
    · unfold f1
      rw [at0, c]
      exact Nat.zero_lt_one
  | some q =>
    rw [c] at hb
    have lq := h.low _ _ c
    have s1 : (N.map (f1 (putK R e.2.1 (p.1 + e.2.2, p.2 + 1)))).sum = (N.map (f1 R)).sum := sum_same fun w _ => by
      by_cases hw : w = e.2.1
      · subst hw
        unfold f1
        rw [at0, c]
      · unfold f1
        rw [at1 w hw]
    refine .inr ⟨s1, ?_⟩
    rcases lexB_iff.mp hb with hlt | ⟨heq, hlt⟩
    · refine .inl (sum_lt hm (fun w _ => ?_) ?_)
      · by_cases hw : w = e.2.1
        · subst hw
          unfold f2
          rw [at0, c]
          simp only at *
          omega
        · unfold f2
          rw [at1 w hw]
          exact Nat.le_refl _
      · unfold f2
        rw [at0, c]
        simp only at *
        omega
    · refine .inr ⟨sum_same fun w _ => ?_, sum_lt hm (fun w _ => ?_) ?_⟩
      · by_cases hw : w = e.2.1
        · subst hw
          unfold f2
          rw [at0, c]
          simp only at *
          omega
        · unfold f2
          rw [at1 w hw]
      · by_cases hw : w = e.2.1
        · subst hw
          unfold f3
          rw [at0, c]
          simp only at *
          omega
        · unfold f3
          rw [at1 w hw]
          exact Nat.le_refl _
      · unfold f3
        rw [at0, c]
        simp only at *
        omega
/-- a whole round -/
theorem round_inv (G : Gr N starts steps π B) : ∀ (l : List Stp) (x : Rc × Ah × Bool), (∀ e ∈ l, e ∈ steps) → Iv N starts steps π B x.1 x.2.1 → Iv N starts steps π B (l.foldl relax x).1 (l.foldl relax x).2.1 ∧
    ((l.foldl relax x = x ∧ ∀ e ∈ l, ∀ p, valV x.1 e.1 = some p → better (p.1 + e.2.2, p.2 + 1) (valV x.1 e.2.1) = false) ∨ ((l.foldl relax x).2.2 = true ∧ Fall N π B (l.foldl relax x).1 x.1))
  | [], x, _, h => ⟨h, .inl ⟨rfl, fun e he => by cases he⟩⟩
  | e :: l, x, hl, h => by
    rw [List.foldl_cons]
    have hl' : ∀ e ∈ l, e ∈ steps := fun e he => hl e (List.mem_cons_of_mem _ he)
    rcases relax_cases x e with ⟨h1, h2⟩ | ⟨p, h1, h2, h3⟩
    · rw [h1]
      obtain ⟨a1, a2⟩ := round_inv G l x hl' h
      refine ⟨a1, a2.imp (fun z => ⟨z.1, fun e' he' => ?_⟩) id⟩
      rcases List.mem_cons.mp he' with rfl | he'
      · exact h2
      · exact z.2 e' he'
    · rw [h3]
      have h' := h.bettered G (hl e List.mem_cons_self) h1 h2
      have fo := fall_one G h (hl e List.mem_cons_self) h1 h2
      obtain ⟨a1, a2⟩ := round_inv G l (putK x.1 e.2.1 (p.1 + e.2.2, p.2 + 1), putK x.2.1 e.2.1 e.1, true) hl' h'
      refine ⟨a1, .inr ?_⟩
      rcases a2 with ⟨z, _⟩ | ⟨z1, z2⟩
      · rw [z]
        exact ⟨rfl, fo⟩
      · exact ⟨z1, z2.trans fo⟩
theorem fall_wf : WellFounded (Fall N π B) := by
  let m : Rc → Nat × Nat × Nat := fun R => ((N.map (f1 R)).sum, (N.map (f2 π B R)).sum, (N.map (f3 R)).sum)
  have wf : WellFounded (fun x y : Rc => Prod.Lex (· < ·) (Prod.Lex (· < ·) (· < ·)) (m x) (m y)) := InvImage.wf m (Prod.lex ⟨_, Nat.lt_wfRel.wf⟩ (Prod.lex ⟨_, Nat.lt_wfRel.wf⟩ ⟨_, Nat.lt_wfRel.wf⟩)).wf
  refine Subrelation.wf (fun {x y} h => ?_) wf
  rcases h with h | ⟨h1, h | ⟨h2, h3⟩⟩
  · exact Prod.Lex.left _ _ h
  · show Prod.Lex _ _ (_, _) (_, _)
    rw [h1]
    exact Prod.Lex.right _ (Prod.Lex.left _ _ h)
  · show Prod.Lex _ _ (_, _) (_, _)
    rw [h1]
    refine Prod.Lex.right _ ?_
    rw [h2]
    exact Prod.Lex.right _ h3
/-- the rounds end, with nothing left to better -/
theorem rounds_end (G : Gr N starts steps π B) : ∀ (R : Rc) (a : Ah), Iv N starts steps π B R a → ∃ R' a', Rounds steps R a R' a' ∧ Iv N starts steps π B R' a' ∧ ∀ e ∈ steps, ∀ p, valV R' e.1 = some p → better (p.1 + e.2.2, p.2 + 1) (valV R' e.2.1) = false := by
  intro R
  induction R using (fall_wf (N := N) (π := π) (B := B)).induction with
  | _ R ih =>
    intro a h
    obtain ⟨h1, h2⟩ := round_inv G steps (R, a, false) (fun e he => he) h
    rcases h2 with ⟨h2, h3⟩ | ⟨h2, h3⟩
    · exact ⟨R, a, .stop _ _ h2, h, h3⟩
    · obtain ⟨R', a', r, i, q⟩ := ih _ h3 _ h1
      refine ⟨R', a', .next _ _ ?_ r, i, q⟩
      unfold roundF
      rw [← h2]
end
end FL
namespace FL
section
variable {N starts : List Nat} {steps : List Stp} {π : Nat → Int} {B : Int} {R : Rc} {a : Ah}
def Done (steps : List Stp) (R : Rc) : Prop := ∀ e ∈ steps, ∀ p, valV R e.1 = some p → better (p.1 + e.2.2, p.2 + 1) (valV R e.2.1) = false
theorem Done.step (h : Done steps R) {u v : Nat} {w : Int} (he : (u, v, w) ∈ steps) {p : Int × Int} (hp : valV R u = some p) : ∃ q, valV R v = some q ∧ lexB (p.1 + w, p.2 + 1) q = false := by
  have := h _ he p hp
  simp only at this
  cases c : valV R v with
  | none => rw [c] at this; cases this
  | some q => rw [c] at this; exact ⟨q, rfl, this⟩
theorem lexB_no {p q : Int × Int} (h : lexB p q = false) : q.1 < p.1 ∨ (q.1 = p.1 ∧ q.2 ≤ p.2) := by
  have : ¬ (p.1 < q.1 ∨ (p.1 = q.1 ∧ p.2 < q.2)) := fun c => by
    rw [← lexB_iff, h] at c
    cases c
  omega
/-- where a way comes from: the step is tight -/
theorem Iv.tight (h : Iv N starts steps π B R a) (d : Done steps R) {u v : Nat} (hu : valV a v = some u) : ∃ w p, (u, v, w) ∈ steps ∧ valV R u = some p ∧ valV R v = some (p.1 + w, p.2 + 1) := by
  obtain ⟨w, p, q, h1, h2, h3, h4⟩ := h.fro v u hu
  obtain ⟨q', k1, k2⟩ := d.step h1 h2
  rw [h3] at k1
  cases k1
  have e1 := lexB_no h4
  have e2 := lexB_no k2
  simp only at e1 e2
  refine ⟨w, p, h1, h2, ?_⟩
  rw [h3]
  congr 1
  apply Prod.ext
  · simp only; omega
  · simp only; omega
/-- the way back to a start -/
inductive Way (a : Ah) : Nat → List Nat → Prop
  | stop {v} : valV a v = none → Way a v [v]
  | next {v u l} : valV a v = some u → Way a u l → Way a v (v :: l)
theorem way_is (h : Iv N starts steps π B R a) (d : Done steps R) : ∀ (n : Nat) (v : Nat) (p : Int × Int), valV R v = some p → p.2.toNat = n → ∃ l, Way a v l ∧ (∀ x ∈ l, ∃ q, valV R x = some q ∧ q.2 ≤ p.2) ∧ l.Nodup ∧ l.length ≤ n + 1 := by
  intro n
  induction n with
  | zero =>
    intro v p hp hn
    cases c : valV a v with
    | none => exact ⟨[v], .stop c, fun x hx => ⟨p, by rw [List.mem_singleton.mp hx]; exact hp, Int.le_refl _⟩, by simp, by simp⟩
    | some u =>
      obtain ⟨w, q, h1, h2, h3⟩ := h.tight d c
      rw [hp] at h3
      cases h3
      have := (h.low _ _ h2).2
      simp only at hn
      omega
  | succ n ih =>
    intro v p hp hn
    cases c : valV a v with
    | none => exact ⟨[v], .stop c, fun x hx => ⟨p, by rw [List.mem_singleton.mp hx]; exact hp, Int.le_refl _⟩, by simp, by simp⟩
    | some u =>
      obtain ⟨w, q, h1, h2, h3⟩ := h.tight d c
      have hq := (h.low _ _ h2).2
      rw [hp] at h3
      cases h3
      simp only at hn
      obtain ⟨l, k1, k2, k3, k4⟩ := ih u q h2 (by omega)
      refine ⟨v :: l, .next c k1, fun x hx => ?_, List.nodup_cons.mpr ⟨fun hx => ?_, k3⟩, by simp; omega⟩
      · rcases List.mem_cons.mp hx with rfl | hx
        · exact ⟨_, hp, Int.le_refl _⟩
        · obtain ⟨q', e1, e2⟩ := k2 x hx
          exact ⟨q', e1, by simp only; omega⟩
      · obtain ⟨q', e1, e2⟩ := k2 v hx
        rw [hp] at e1
        cases e1
        simp only at e2
        omega
end
inductive Alt (P Q : Nat → Nat → Prop) : List Nat → Prop
  | one {g t} : P g t → Alt P Q [g, t]
  | more {g t g1 l} : P g t → Q t g1 → Alt P Q (g1 :: l) → Alt P Q (g :: t :: g1 :: l)
theorem Alt.snoc {P Q : Nat → Nat → Prop} {l : List Nat} {t u v : Nat} (h : Alt P Q l) : l.getLast? = some t → Q t u → P u v → Alt P Q (l ++ [u, v]) := by
  induction h with
  | one hp =>
    intro e hq hp2
    simp at e
    subst e
    exact .more hp hq (.one hp2)
  | more hp hq _ ih =>
    intro e h1 h2
    refine .more hp hq (ih ?_ h1 h2)
    simpa using e
theorem Way.last {a : Ah} {v : Nat} {l : List Nat} (h : Way a v l) : ∃ s, l.getLast? = some s ∧ valV a s = none ∧ l.head? = some v := by
  induction h with
  | stop h => exact ⟨_, rfl, h, rfl⟩
  | next h w ih =>
    obtain ⟨s, e1, e2, e3⟩ := ih
    refine ⟨s, ?_, e2, rfl⟩
    cases w with
    | stop _ => simpa using e1
    | next _ _ => simpa using e1
theorem alt_of {a : Ah} {P Q : Nat → Nat → Prop} {gv tk : List Nat} (dis : ∀ x ∈ gv, x ∉ tk) (fo : ∀ u v, v ∈ tk → valV a v = some u → u ∈ gv ∧ P u v) (ba : ∀ u v, v ∈ gv → valV a v = some u → u ∈ tk ∧ Q u v) (no : ∀ v ∈ tk, valV a v ≠ none) :
    ∀ (n : Nat) (v : Nat) (l : List Nat), l.length = n → v ∈ tk → Way a v l → Alt P Q l.reverse := by
  intro n
  induction n using Nat.strongRecOn with
  | ind n ih =>
    intro v l hn hv w
    cases w with
    | stop h => exact absurd h (no v hv)
    | @next _ u l1 h w1 =>
      obtain ⟨hu, hp⟩ := fo u v hv h
      cases w1 with
      | stop h1 => exact .one hp
      | @next _ t l2 h1 w2 =>
        obtain ⟨ht, hq⟩ := ba t u hu h1
        have := ih l2.length (by simp at hn; omega) t l2 rfl ht w2
        obtain ⟨s, _, _, e3⟩ := w2.last
        have e : (v :: u :: l2).reverse = l2.reverse ++ [u, v] := by simp
        rw [e]
        exact this.snoc (by rw [List.getLast?_reverse]; exact e3) hq hp
def ev {α : Type} : List α → List α
  | [] => []
  | [x] => [x]
  | x :: _ :: l => x :: ev l
def pairs (l : List Nat) : List (Nat × Nat) := l.zip (l.drop 1)
def evs (l : List Nat) : List (Nat × Nat) := ev (pairs l)
def ods (l : List Nat) : List (Nat × Nat) := ev ((pairs l).drop 1)
theorem evs_one {g t : Nat} : evs [g, t] = [(g, t)] ∧ ods [g, t] = [] := ⟨rfl, rfl⟩
theorem evs_more {g t g1 : Nat} {l : List Nat} : evs (g :: t :: g1 :: l) = (g, t) :: evs (g1 :: l) ∧ ods (g :: t :: g1 :: l) = (t, g1) :: ods (g1 :: l) := by
  have e : pairs (g :: t :: g1 :: l) = (g, t) :: (t, g1) :: pairs (g1 :: l) := by
    simp [pairs]
  constructor
  · unfold evs
    rw [e]
    rfl
  · unfold ods
    rw [e]
    show ev ((t, g1) :: pairs (g1 :: l)) = _
    cases c : pairs (g1 :: l) with
    | nil => rfl
    | cons x r => rfl
def cnt (l : List (Nat × Nat)) (x : Nat × Nat) : Int := match l with
  | [] => 0
  | y :: l => (if y = x then 1 else 0) + cnt l x
def sm (l : List Nat) (f : Nat → Int) : Int := match l with
  | [] => 0
  | x :: l => f x + sm l f
theorem sm_add {f g : Nat → Int} : ∀ l, sm l (fun x => f x + g x) = sm l f + sm l g
  | [] => rfl
  | x :: l => by simp only [sm, sm_add l]; omega
theorem sm_sub {f g : Nat → Int} : ∀ l, sm l (fun x => f x - g x) = sm l f - sm l g
  | [] => rfl
  | x :: l => by simp only [sm, sm_sub l]; omega
theorem sm_mul {f : Nat → Int} {m : Int} : ∀ l, sm l (fun x => m * f x) = m * sm l f
  | [] => by simp [sm]
  | x :: l => by simp only [sm, sm_mul l, Int.mul_add]
theorem sm_congr {f g : Nat → Int} : ∀ {l : List Nat}, (∀ x ∈ l, f x = g x) → sm l f = sm l g
  | [], _ => rfl
  | x :: l, h => by simp only [sm, h x List.mem_cons_self, sm_congr fun y hy => h y (List.mem_cons_of_mem _ hy)]
theorem sm_zero : ∀ l, sm l (fun _ => 0) = 0
  | [] => rfl
  | _ :: l => by simp only [sm, sm_zero l]; rfl
theorem sm_one {y : Nat} {m : Int} : ∀ {l : List Nat}, l.Nodup → sm l (fun x => if x = y then m else 0) = if y ∈ l then m else 0
  | [], _ => by simp [sm]
  | x :: l, h => by
    obtain ⟨h1, h2⟩ := List.nodup_cons.mp h
    simp only [sm, sm_one h2]
    by_cases c : x = y
    · subst c
      rw [if_pos rfl, if_neg h1, if_pos List.mem_cons_self]
      omega
    · rw [if_neg c]
      by_cases d : y ∈ l
      · rw [if_pos d, if_pos (List.mem_cons_of_mem _ d)]; omega
      · rw [if_neg d, if_neg (fun z => (List.mem_cons.mp z).elim (fun z => c z.symm) d)]; rfl
def cn1 (l : List (Nat × Nat)) (u : Nat) : Int := match l with
  | [] => 0
  | y :: l => (if y.1 = u then 1 else 0) + cn1 l u
def cn2 (l : List (Nat × Nat)) (u : Nat) : Int := match l with
  | [] => 0
  | y :: l => (if y.2 = u then 1 else 0) + cn2 l u
theorem sm_cnt1 {V : List Nat} (nd : V.Nodup) {u : Nat} : ∀ (l : List (Nat × Nat)), (∀ y ∈ l, y.2 ∈ V) → sm V (fun v => cnt l (u, v)) = cn1 l u
  | [], _ => sm_zero V
  | y :: l, h => by
    have ih := sm_cnt1 nd (u := u) l fun z hz => h z (List.mem_cons_of_mem _ hz)
    simp only [cnt, cn1]
    rw [sm_add, ih]
    congr 1
    by_cases c : y.1 = u
    · rw [if_pos c]
      rw [sm_congr (g := fun v => if v = y.2 then 1 else 0) fun v _ => by
        by_cases d : v = y.2
        · rw [if_pos d, if_pos (by rw [← c, d])]
        · rw [if_neg d, if_neg (fun z => d (by rw [z]))], sm_one nd, if_pos (h y List.mem_cons_self)]
    · rw [if_neg c]
      rw [sm_congr (g := fun _ => 0) fun v _ => if_neg fun z => c (by rw [z]), sm_zero]
theorem sm_cnt2 {V : List Nat} (nd : V.Nodup) {u : Nat} : ∀ (l : List (Nat × Nat)), (∀ y ∈ l, y.1 ∈ V) → sm V (fun v => cnt l (v, u)) = cn2 l u
  | [], _ => sm_zero V
  | y :: l, h => by
    have ih := sm_cnt2 nd (u := u) l fun z hz => h z (List.mem_cons_of_mem _ hz)
    simp only [cnt, cn2]
    rw [sm_add, ih]
    congr 1
    by_cases c : y.2 = u
    · rw [if_pos c]
      rw [sm_congr (g := fun v => if v = y.1 then 1 else 0) fun v _ => by
        by_cases d : v = y.1
        · rw [if_pos d, if_pos (by rw [← c, d])]
        · rw [if_neg d, if_neg (fun z => d (by rw [z]))], sm_one nd, if_pos (h y List.mem_cons_self)]
    · rw [if_neg c]
      rw [sm_congr (g := fun _ => 0) fun v _ => if_neg fun z => c (by rw [z]), sm_zero]
theorem cnt_nn : ∀ (l : List (Nat × Nat)) (x : Nat × Nat), 0 ≤ cnt l x
  | [], _ => Int.le_refl _
  | y :: l, x => by
    have := cnt_nn l x
    simp only [cnt]
    split <;> omega
theorem cnt_pos : ∀ {l : List (Nat × Nat)} {x : Nat × Nat}, 0 < cnt l x → x ∈ l
  | y :: l, x, h => by
    simp only [cnt] at h
    by_cases c : y = x
    · rw [c]; exact List.mem_cons_self
    · rw [if_neg c] at h
      exact List.mem_cons_of_mem _ (cnt_pos (by omega))
theorem cnt_none : ∀ {l : List (Nat × Nat)} {x : Nat × Nat}, x ∉ l → cnt l x = 0
  | [], _, _ => rfl
  | y :: l, x, h => by
    simp only [cnt]
    rw [if_neg (fun c => h (by rw [c]; exact List.mem_cons_self)), cnt_none fun c => h (List.mem_cons_of_mem _ c)]
    rfl
theorem cnt_le : ∀ {l : List (Nat × Nat)} {x : Nat × Nat}, (l.map (·.1)).Nodup → cnt l x ≤ 1
  | [], _, _ => by simp [cnt]
  | y :: l, x, h => by
    rw [List.map_cons] at h
    obtain ⟨h1, h2⟩ := List.nodup_cons.mp h
    simp only [cnt]
    by_cases c : y = x
    · rw [if_pos c, cnt_none]
      · omega
      · intro hx
        subst c
        exact h1 (List.mem_map_of_mem hx)
    · rw [if_neg c]
      have := cnt_le (x := x) h2
      omega
theorem alt_bal {P Q : Nat → Nat → Prop} {l : List Nat} (h : Alt P Q l) : ∃ s e, l.head? = some s ∧ l.getLast? = some e ∧ (∀ u, cn1 (evs l) u - cn2 (ods l) u = if s = u then 1 else 0) ∧ (∀ u, cn2 (evs l) u - cn1 (ods l) u = if e = u then 1 else 0) ∧ (∀ x ∈ evs l, P x.1 x.2) ∧ ∀ x ∈ ods l, Q x.1 x.2 := by
  induction h with
  | @one g t hp =>
    refine ⟨g, t, rfl, rfl, fun u => ?_, fun u => ?_, fun x hx => ?_, fun x hx => ?_⟩
    · show (if g = u then (1 : Int) else 0) + 0 - 0 = _
      omega
    · show (if t = u then (1 : Int) else 0) + 0 - 0 = _
      omega
    · rw [evs_one.1, List.mem_singleton] at hx
      subst hx
      exact hp
    · rw [evs_one.2] at hx
      cases hx
  | @more g t g1 l hp hq _ ih =>
    obtain ⟨s, e, h1, h2, h3, h4, h5, h6⟩ := ih
    have hs : s = g1 := by simpa using h1.symm
    subst hs
    refine ⟨g, e, rfl, by simpa using h2, fun u => ?_, fun u => ?_, fun x hx => ?_, fun x hx => ?_⟩
    · have := h3 u
      rw [evs_more.1, evs_more.2]
      simp only [cn1, cn2]
      omega
    · have := h4 u
      rw [evs_more.1, evs_more.2]
      simp only [cn1, cn2]
      omega
    · rw [evs_more.1] at hx
      rcases List.mem_cons.mp hx with rfl | hx
      · exact hp
      · exact h5 x hx
    · rw [evs_more.2] at hx
      rcases List.mem_cons.mp hx with rfl | hx
      · exact hq
      · exact h6 x hx
theorem ev_sub {α : Type} : ∀ l : List α, (ev l).Sublist l
  | [] => .slnil
  | [x] => List.Sublist.refl _
  | x :: y :: l => .cons₂ x (.cons y (ev_sub l))
theorem pairs_fst : ∀ l : List Nat, ((pairs l).map (·.1)).Sublist l
  | [] => .slnil
  | [x] => by simp [pairs]
  | x :: y :: l => by
    have e : pairs (x :: y :: l) = (x, y) :: pairs (y :: l) := by simp [pairs]
    rw [e, List.map_cons]
    exact (pairs_fst (y :: l)).cons₂ x
theorem ods_nodup {l : List Nat} (h : l.Nodup) : ((ods l).map (·.1)).Nodup := by
  refine List.Nodup.sublist ?_ h
  exact (((ev_sub _).trans (List.drop_sublist 1 _)).map _).trans (pairs_fst l)
end FL
namespace FL
abbrev Mx := Nat → Nat → Int
structure Fl (gv tk : List Nat) (e : Nat → Int) (c M : Mx) (L : Nat → Int) : Prop where
  ng : gv.Nodup
  nt : tk.Nodup
  dis : ∀ x ∈ gv, x ∉ tk
  nn : ∀ g ∈ gv, ∀ t ∈ tk, 0 ≤ M g t
  go : ∀ g ∈ gv, sm tk (M g) + L g = e g
  gt : ∀ t ∈ tk, sm gv (fun g => M g t) - L t = - e t
  lg : ∀ g ∈ gv, 0 ≤ L g
  lt : ∀ t ∈ tk, L t ≤ 0
  ep : ∀ g ∈ gv, 0 < e g
  pot : ∃ π : Nat → Int, ∀ g ∈ gv, ∀ t ∈ tk, π t ≤ π g + c g t ∧ (0 < M g t → π g ≤ π t - c g t)
def cross (gv tk : List Nat) : List (Nat × Nat) := gv.flatMap fun g => tk.map fun t => (g, t)
def stepsOf (gv tk : List Nat) (M c : Mx) : List Stp := (cross gv tk).map (fun x => (x.1, x.2, c x.1 x.2)) ++ ((cross gv tk).filter fun x => decide (0 < M x.1 x.2)).map fun x => (x.2, x.1, - c x.1 x.2)
theorem mem_cross {gv tk : List Nat} {g t : Nat} : (g, t) ∈ cross gv tk ↔ g ∈ gv ∧ t ∈ tk := by
  unfold cross
  rw [List.mem_flatMap]
  constructor
  · rintro ⟨x, hx, h⟩
    obtain ⟨y, hy, e⟩ := List.mem_map.mp h
    cases e
    exact ⟨hx, hy⟩
  · rintro ⟨hg, ht⟩
    exact ⟨g, hg, List.mem_map.mpr ⟨t, ht, rfl⟩⟩
theorem mem_steps {gv tk : List Nat} {M c : Mx} {e : Stp} (h : e ∈ stepsOf gv tk M c) : (∃ g ∈ gv, ∃ t ∈ tk, e = (g, t, c g t)) ∨ ∃ g ∈ gv, ∃ t ∈ tk, 0 < M g t ∧ e = (t, g, - c g t) := by
  unfold stepsOf at h
  rcases List.mem_append.mp h with h | h
  · obtain ⟨⟨g, t⟩, hx, rfl⟩ := List.mem_map.mp h
    obtain ⟨h1, h2⟩ := mem_cross.mp hx
    exact .inl ⟨g, h1, t, h2, rfl⟩
  · obtain ⟨⟨g, t⟩, hx, rfl⟩ := List.mem_map.mp h
    obtain ⟨hx, hd⟩ := List.mem_filter.mp hx
    obtain ⟨h1, h2⟩ := mem_cross.mp hx
    exact .inr ⟨g, h1, t, h2, of_decide_eq_true hd, rfl⟩
theorem forth_in {gv tk : List Nat} {M c : Mx} {g t : Nat} (hg : g ∈ gv) (ht : t ∈ tk) : (g, t, c g t) ∈ stepsOf gv tk M c :=
  List.mem_append_left _ (List.mem_map.mpr ⟨(g, t), mem_cross.mpr ⟨hg, ht⟩, rfl⟩)
theorem back_in {gv tk : List Nat} {M c : Mx} {g t : Nat} (hg : g ∈ gv) (ht : t ∈ tk) (h : 0 < M g t) : (t, g, - c g t) ∈ stepsOf gv tk M c :=
  List.mem_append_right _ (List.mem_map.mpr ⟨(g, t), List.mem_filter.mpr ⟨mem_cross.mpr ⟨hg, ht⟩, decide_eq_true h⟩, rfl⟩)
theorem sm_swap {f : Mx} : ∀ (gv tk : List Nat), sm gv (fun g => sm tk (f g)) = sm tk fun t => sm gv fun g => f g t
  | [], tk => (sm_zero tk).symm
  | g :: gv, tk => by
    simp only [sm]
    rw [sm_swap gv tk, ← sm_add]
theorem sm_le {f g : Nat → Int} : ∀ {l : List Nat}, (∀ x ∈ l, f x ≤ g x) → sm l f ≤ sm l g
  | [], _ => Int.le_refl _
  | x :: l, h => by
    have h1 := h x List.mem_cons_self
    have h2 := sm_le fun y hy => h y (List.mem_cons_of_mem _ hy)
    simp only [sm]
    omega
theorem sm_nn {f : Nat → Int} {l : List Nat} (h : ∀ x ∈ l, 0 ≤ f x) : 0 ≤ sm l f := by
  have := sm_le (f := fun _ => 0) (g := f) h
  rw [sm_zero] at this
  exact this
theorem sm_some {f : Nat → Int} : ∀ {l : List Nat}, 0 < sm l f → ∃ x ∈ l, 0 < f x
  | x :: l, h => by
    simp only [sm] at h
    by_cases c : 0 < f x
    · exact ⟨x, List.mem_cons_self, c⟩
    · obtain ⟨y, hy, hf⟩ := sm_some (l := l) (f := f) (by omega)
      exact ⟨y, List.mem_cons_of_mem _ hy, hf⟩
theorem sm_mem {f : Nat → Int} : ∀ {l : List Nat} {x : Nat}, (∀ y ∈ l, 0 ≤ f y) → x ∈ l → f x ≤ sm l f
  | y :: l, x, h, hx => by
    have h1 := h y List.mem_cons_self
    have h2 := sm_nn fun z hz => h z (List.mem_cons_of_mem _ hz)
    simp only [sm]
    rcases List.mem_cons.mp hx with rfl | hx
    · omega
    · have := sm_mem (fun z hz => h z (List.mem_cons_of_mem _ hz)) hx
      omega
section
variable {gv tk : List Nat} {e : Nat → Int} {c M : Mx} {L : Nat → Int}
theorem Fl.bal (h : Fl gv tk e c M L) : sm gv L + sm tk L = sm gv e + sm tk e := by
  have h1 : sm gv e = sm gv (fun g => sm tk (M g)) + sm gv L := by
    rw [← sm_add]
    exact sm_congr fun g hg => (h.go g hg).symm
  have h2 : sm tk e = sm tk L - sm tk (fun t => sm gv fun g => M g t) := by
    rw [← sm_sub]
    exact sm_congr fun t ht => by have := h.gt t ht; omega
  rw [h1, h2, sm_swap]
  omega
def starts (gv : List Nat) (L : Nat → Int) : List Nat := gv.filter fun g => decide (0 < L g)
def R0 (st : List Nat) : Rc := st.map fun s => (s, ((0 : Int), (0 : Int)))
theorem val_R0 {v : Nat} : ∀ st : List Nat, valV (R0 st) v = if v ∈ st then some (0, 0) else none
  | [] => by simp [R0, valV]
  | s :: st => by
    show (if s = v then some ((0 : Int), (0 : Int)) else valV (R0 st) v) = _
    by_cases h : s = v
    · rw [if_pos h, if_pos (by rw [h]; exact List.mem_cons_self)]
    · rw [if_neg h, val_R0 st]
      by_cases k : v ∈ st
      · rw [if_pos k, if_pos (List.mem_cons_of_mem _ k)]
      · rw [if_neg k, if_neg (fun z => (List.mem_cons.mp z).elim (fun z => h z.symm) k)]
theorem bound_of (π : Nat → Int) : ∀ l : List Nat, ∃ B : Int, ∀ s ∈ l, π s ≤ B
  | [] => ⟨0, fun s h => nomatch h⟩
  | x :: l => by
    obtain ⟨B, h⟩ := bound_of π l
    refine ⟨max B (π x), fun s hs => ?_⟩
    rcases List.mem_cons.mp hs with rfl | hs
    · omega
    · have := h s hs
      omega
/-- the ways from starts among the givers -/
theorem Fl.ways (h : Fl gv tk e c M L) {st : List Nat} (hst : ∀ s ∈ st, s ∈ gv) : ∃ π B, Gr (gv ++ tk) st (stepsOf gv tk M c) π B ∧ Iv (gv ++ tk) st (stepsOf gv tk M c) π B (R0 st) [] := by
  obtain ⟨π, hπ⟩ := h.pot
  obtain ⟨B, hB⟩ := bound_of π st
  have ne : ∀ g ∈ gv, ∀ t ∈ tk, g ≠ t := fun g hg t ht z => h.dis g hg (z ▸ ht)
  refine ⟨π, B, ⟨fun s hs => ?_, fun s hs => ?_, fun s hs => ?_, fun s hs => ⟨List.mem_append_left _ (hst s hs), hB s hs⟩⟩, ⟨fun v p hp => ?_, fun v p hp => ?_, fun s hs => ⟨(0, 0), by rw [val_R0, if_pos hs]⟩, (fun v u hu => nomatch hu), fun v p hp _ => ?_⟩⟩
  · rcases mem_steps hs with ⟨g, hg, t, ht, rfl⟩ | ⟨g, hg, t, ht, _, rfl⟩
    · exact ⟨List.mem_append_left _ hg, List.mem_append_right _ ht⟩
    · exact ⟨List.mem_append_right _ ht, List.mem_append_left _ hg⟩
  · rcases mem_steps hs with ⟨g, hg, t, ht, rfl⟩ | ⟨g, hg, t, ht, _, rfl⟩
    · exact ne g hg t ht
    · exact (ne g hg t ht).symm
  · rcases mem_steps hs with ⟨g, hg, t, ht, rfl⟩ | ⟨g, hg, t, ht, hm, rfl⟩
    · exact (hπ g hg t ht).1
    · have := (hπ g hg t ht).2 hm
      simp only
      omega
  · rw [val_R0] at hp
    split at hp
    · rename_i hs
      cases hp
      have := hB v hs
      exact ⟨by simp only; omega, Int.le_refl _⟩
    · cases hp
  · rw [val_R0] at hp
    split at hp
    · rename_i hs
      exact List.mem_append_left _ (hst v hs)
    · cases hp
  · rw [val_R0] at hp
    split at hp
    · rename_i hs
      cases hp
      exact ⟨hs, rfl⟩
    · cases hp
section
variable {π : Nat → Int} {B : Int} {R : Rc} {a : Ah} {st : List Nat}
/-- all are come to -/
theorem Fl.all (h : Fl gv tk e c M L) (iv : Iv (gv ++ tk) st (stepsOf gv tk M c) π B R a) (d : Done (stepsOf gv tk M c) R) (hst : ∀ s ∈ st, s ∈ gv) (h0 : st ≠ []) (hL : ∀ g ∈ gv, g ∉ st → L g = 0) : (∀ t ∈ tk, ∃ p, valV R t = some p) ∧ ∀ g ∈ gv, ∃ p, valV R g = some p := by
  have ht : ∀ t ∈ tk, ∃ p, valV R t = some p := fun t ht => by
    obtain ⟨s, hs⟩ := List.exists_mem_of_ne_nil _ h0
    obtain ⟨p, hp⟩ := iv.sta s hs
    obtain ⟨q, hq, _⟩ := d.step (forth_in (hst s hs) ht) hp
    exact ⟨q, hq⟩
  refine ⟨ht, fun g hg => ?_⟩
  by_cases hs : g ∈ st
  · exact iv.sta g hs
  · have h1 := h.go g hg
    rw [hL g hg hs] at h1
    have h2 := h.ep g hg
    obtain ⟨t, ht', hm⟩ := sm_some (l := tk) (f := M g) (by omega)
    obtain ⟨p, hp⟩ := ht t ht'
    obtain ⟨q, hq, _⟩ := d.step (back_in hg ht' hm) hp
    exact ⟨q, hq⟩
def dst (R : Rc) (v : Nat) : Int := match valV R v with
  | some p => p.1
  | none => 0
theorem dst_of {v : Nat} {p : Int × Int} (h : valV R v = some p) : dst R v = p.1 := by unfold dst; rw [h]
/-- the ways are prices -/
theorem Fl.dpot (h : Fl gv tk e c M L) (d : Done (stepsOf gv tk M c) R) (ht : ∀ t ∈ tk, ∃ p, valV R t = some p) (hg : ∀ g ∈ gv, ∃ p, valV R g = some p) : ∀ g ∈ gv, ∀ t ∈ tk, dst R t ≤ dst R g + c g t ∧ (0 < M g t → dst R g ≤ dst R t - c g t) := fun g hg' t ht' => by
  obtain ⟨p, hp⟩ := hg g hg'
  obtain ⟨q, hq⟩ := ht t ht'
  rw [dst_of hp, dst_of hq]
  constructor
  · obtain ⟨q', e1, e2⟩ := d.step (forth_in hg' ht') hp
    rw [hq] at e1
    cases e1
    have := lexB_no e2
    simp only at this
    omega
  · intro hm
    obtain ⟨p', e1, e2⟩ := d.step (back_in hg' ht' hm) hq
    rw [hp] at e1
    cases e1
    have := lexB_no e2
    simp only at this
    omega
/-- a way to a place that takes: forth and back by turns, each step tight -/
theorem Fl.way (h : Fl gv tk e c M L) (iv : Iv (gv ++ tk) st (stepsOf gv tk M c) π B R a) (d : Done (stepsOf gv tk M c) R) (hst : ∀ s ∈ st, s ∈ gv) {t : Nat} (ht : t ∈ tk) {p : Int × Int} (hp : valV R t = some p) :
    ∃ l s, Way a t l ∧ l.reverse.head? = some s ∧ s ∈ st ∧ l.reverse.getLast? = some t ∧ l.Nodup ∧ Alt (fun g t => g ∈ gv ∧ t ∈ tk ∧ dst R t = dst R g + c g t) (fun t g => g ∈ gv ∧ t ∈ tk ∧ 0 < M g t) l.reverse := by
  obtain ⟨l, w, _, nd, _⟩ := way_is iv d _ t p hp rfl
  obtain ⟨s, e1, e2, e3⟩ := w.last
  have hs : s ∈ st := by
    have hm : s ∈ l := List.mem_of_getLast? e1
    have gen : ∀ (v : Nat) (l : List Nat), Way a v l → (∃ p, valV R v = some p) → ∀ x ∈ l, ∃ p, valV R x = some p := fun v l w => by
      induction w with
      | stop _ => exact fun hv x hx => by rw [List.mem_singleton.mp hx]; exact hv
      | next hu _ ih =>
        intro hv x hx
        obtain ⟨w, p, _, h2, _⟩ := iv.tight d hu
        rcases List.mem_cons.mp hx with rfl | hx
        · exact hv
        · exact ih ⟨p, h2⟩ x hx
    obtain ⟨q, hq⟩ := gen t l w ⟨p, hp⟩ s hm
    exact (iv.ori s q hq e2).1
  have di : ∀ x ∈ gv, x ∉ tk := h.dis
  refine ⟨l, s, w, by rw [List.head?_reverse]; exact e1, hs, by rw [List.getLast?_reverse]; exact e3, nd, ?_⟩
  refine alt_of (gv := gv) (tk := tk) di (fun u v hv hu => ?_) (fun u v hv hu => ?_) (fun v hv hn => ?_) _ t l rfl ht w
  · obtain ⟨w, p, h1, h2, h3⟩ := iv.tight d hu
    rcases mem_steps h1 with ⟨g, hg, t', ht', ee⟩ | ⟨g, hg, t', ht', _, ee⟩
    · cases ee
      exact ⟨hg, hg, hv, by rw [dst_of h2, dst_of h3]⟩
    · cases ee
      exact absurd hv (di _ hg)
  · obtain ⟨w, p, h1, h2, h3⟩ := iv.tight d hu
    rcases mem_steps h1 with ⟨g, hg, t', ht', ee⟩ | ⟨g, hg, t', ht', hm, ee⟩
    · cases ee
      exact absurd ht' (di _ hv)
    · cases ee
      exact ⟨ht', hv, ht', hm⟩
  · by_cases k : ∃ q, valV R v = some q
    · obtain ⟨q, hq⟩ := k
      exact di _ (hst _ (iv.ori v q hq hn).1) hv
    · obtain ⟨s', hs'⟩ : ∃ s', s' ∈ st := ⟨s, hs⟩
      obtain ⟨q, hq⟩ := iv.sta s' hs'
      obtain ⟨q', hq', _⟩ := d.step (forth_in (hst s' hs') hv) hq
      exact k ⟨q', hq'⟩
def mvM (M : Mx) (l : List Nat) (m : Int) : Mx := fun g t => M g t + m * cnt (evs l) (g, t) - m * cnt (ods l) (t, g)
def mvL (L : Nat → Int) (s t : Nat) (m : Int) : Nat → Int := fun u => L u - (if u = s then m else 0) + (if u = t then m else 0)
theorem Fl.moved (h : Fl gv tk e c M L) (d : Done (stepsOf gv tk M c) R) (hta : ∀ t ∈ tk, ∃ p, valV R t = some p) (hga : ∀ g ∈ gv, ∃ p, valV R g = some p) {l : List Nat} {s t : Nat} {m : Int}
    (al : Alt (fun g t => g ∈ gv ∧ t ∈ tk ∧ dst R t = dst R g + c g t) (fun t g => g ∈ gv ∧ t ∈ tk ∧ 0 < M g t) l) (nd : l.Nodup) (hs : l.head? = some s) (ht : l.getLast? = some t) (sg : s ∈ gv) (tt : t ∈ tk) (m0 : 0 ≤ m) (m1 : m ≤ L s) (m2 : m ≤ - L t) (m3 : ∀ x ∈ ods l, m ≤ M x.2 x.1) :
    Fl gv tk e c (mvM M l m) (mvL L s t m) := by
  obtain ⟨s', t', e1, e2, b1, b2, b3, b4⟩ := alt_bal al
  rw [hs] at e1
  cases e1
  rw [ht] at e2
  cases e2
  have st : s ≠ t := fun z => h.dis s sg (z ▸ tt)
  have cO : ∀ x, cnt (ods l) x ≤ 1 := fun x => cnt_le (ods_nodup nd)
  refine ⟨h.ng, h.nt, h.dis, fun g hg u hu => ?_, fun g hg => ?_, fun u hu => ?_, fun g hg => ?_, fun u hu => ?_, h.ep, dst R, fun g hg u hu => ?_⟩
  · have h1 := h.nn g hg u hu
    have h2 := Int.mul_nonneg m0 (cnt_nn (evs l) (g, u))
    have h3 := cnt_nn (ods l) (u, g)
    unfold mvM
    by_cases k : 0 < cnt (ods l) (u, g)
    · have := m3 _ (cnt_pos k)
      have k1 : cnt (ods l) (u, g) = 1 := by have := cO (u, g); omega
      rw [k1]
      simp only at this
      omega
    · have k0 : cnt (ods l) (u, g) = 0 := by omega
      rw [k0]
      omega
  · have h1 := h.go g hg
    have h2 : sm tk (mvM M l m g) = sm tk (M g) + m * cn1 (evs l) g - m * cn2 (ods l) g := by
      unfold mvM
      rw [sm_sub, sm_add, sm_mul, sm_mul, sm_cnt1 h.nt (evs l) fun y hy => (b3 y hy).2.1, sm_cnt2 h.nt (ods l) fun y hy => (b4 y hy).2.1]
    have h3 := b1 g
    have hgt : g ≠ t := fun z => h.dis g hg (z ▸ tt)
    rw [h2]
    unfold mvL
    rw [if_neg hgt]
    by_cases k : s = g
    · rw [if_pos k] at h3
      rw [if_pos k.symm]
      have : m * cn1 (evs l) g - m * cn2 (ods l) g = m := by rw [← Int.mul_sub, h3, Int.mul_one]
      omega
    · rw [if_neg k] at h3
      rw [if_neg fun z => k z.symm]
      have : m * cn1 (evs l) g - m * cn2 (ods l) g = 0 := by rw [← Int.mul_sub, h3, Int.mul_zero]
      omega
  · have h1 := h.gt u hu
    have h2 : sm gv (fun g => mvM M l m g u) = sm gv (fun g => M g u) + m * cn2 (evs l) u - m * cn1 (ods l) u := by
      unfold mvM
      rw [sm_sub, sm_add, sm_mul, sm_mul, sm_cnt2 h.ng (evs l) fun y hy => (b3 y hy).1, sm_cnt1 h.ng (ods l) fun y hy => (b4 y hy).1]
    have h3 := b2 u
    have hus : u ≠ s := fun z => h.dis s sg (z ▸ hu)
    rw [h2]
    unfold mvL
    rw [if_neg hus]
    by_cases k : t = u
    · rw [if_pos k] at h3
      rw [if_pos k.symm]
      have : m * cn2 (evs l) u - m * cn1 (ods l) u = m := by rw [← Int.mul_sub, h3, Int.mul_one]
      omega
    · rw [if_neg k] at h3
      rw [if_neg fun z => k z.symm]
      have : m * cn2 (evs l) u - m * cn1 (ods l) u = 0 := by rw [← Int.mul_sub, h3, Int.mul_zero]
      omega
  · have h1 := h.lg g hg
    have hgt : g ≠ t := fun z => h.dis g hg (z ▸ tt)
    unfold mvL
    rw [if_neg hgt]
    by_cases k : g = s
    · subst k
      rw [if_pos rfl]
      omega
    · rw [if_neg k]
      omega
  · have h1 := h.lt u hu
    have hus : u ≠ s := fun z => h.dis s sg (z ▸ hu)
    unfold mvL
    rw [if_neg hus]
    by_cases k : u = t
    · subst k
      rw [if_pos rfl]
      omega
    · rw [if_neg k]
      omega
  · obtain ⟨q1, q2⟩ := h.dpot d hta hga g hg u hu
    refine ⟨q1, fun hm => ?_⟩
    by_cases k : 0 < M g u
    · exact q2 k
    · have h1 := cnt_nn (evs l) (g, u)
      have h2 := Int.mul_nonneg m0 (cnt_nn (ods l) (u, g))
      have k0 : 0 < cnt (evs l) (g, u) := by
        unfold mvM at hm
        by_cases z : 0 < cnt (evs l) (g, u)
        · exact z
        · have z0 : cnt (evs l) (g, u) = 0 := by omega
          rw [z0] at hm
          omega
      have := (b3 _ (cnt_pos k0)).2.2
      simp only at this
      omega
theorem mvL_sum {s t : Nat} {m : Int} (ng : gv.Nodup) (sg : s ∈ gv) (tg : t ∉ gv) : sm gv (mvL L s t m) = sm gv L - m := by
  unfold mvL
  rw [sm_add, sm_sub, sm_one ng, if_pos sg, sm_one ng, if_neg tg]
  omega
end
end
end FL
namespace FL
structure Flow (n : Nat) (o t : Nat → Int) (C : Mx) : Prop where
  nn : ∀ i, i < n → ∀ j, j < n → 0 ≤ C i j
  row : ∀ i, i < n → sm (List.range n) (C i) = o i
  col : ∀ j, j < n → sm (List.range n) (fun i => C i j) = t j
  di : ∀ i, i < n → C i i = min (o i) (t i)
def cost (n : Nat) (c C : Mx) : Int := sm (List.range n) fun i => sm (List.range n) fun j => c i j * C i j
def gvs (n : Nat) (o t : Nat → Int) : List Nat := (List.range n).filter fun i => decide (t i < o i)
theorem mem_gvs {n : Nat} {o t : Nat → Int} {i : Nat} : i ∈ gvs n o t ↔ i < n ∧ t i < o i := by
  unfold gvs
  rw [List.mem_filter, List.mem_range, decide_eq_true_iff]
theorem sm_split {l : List Nat} (nd : l.Nodup) {f : Nat → Int} {i : Nat} (hi : i ∈ l) : sm l f = f i + sm l (fun j => if j = i then 0 else f j) := by
  rw [sm_congr (f := f) (g := fun j => (if j = i then f i else 0) + if j = i then 0 else f j) fun j _ => by
    by_cases h : j = i
    · rw [if_pos h, if_pos h, h]; omega
    · rw [if_neg h, if_neg h]; omega, sm_add, sm_one nd, if_pos hi]
theorem sm_filter {p : Nat → Bool} {f : Nat → Int} : ∀ l : List Nat, sm (l.filter p) f = sm l fun x => if p x = true then f x else 0
  | [] => rfl
  | x :: l => by
    rw [List.filter_cons]
    cases h : p x with
    | true =>
      rw [if_pos rfl]
      simp only [sm, h, if_true, sm_filter l]
    | false =>
      rw [if_neg (by decide)]
      simp only [sm, h, Bool.false_eq_true, if_false, sm_filter l]
      omega
theorem nodup_range (n : Nat) : (List.range n).Nodup := List.nodup_range
section
variable {n : Nat} {o t : Nat → Int} {C M c : Mx}
/-- what does not stay goes from one that has more to one that has less -/
theorem Flow.off (h : Flow n o t C) {i j : Nat} (hi : i < n) (hj : j < n) (ne : i ≠ j) (hp : 0 < C i j) : i ∈ gvs n o t ∧ j ∈ gvs n t o := by
  have mi : i ∈ List.range n := List.mem_range.mpr hi
  have mj : j ∈ List.range n := List.mem_range.mpr hj
  refine ⟨mem_gvs.mpr ⟨hi, ?_⟩, mem_gvs.mpr ⟨hj, ?_⟩⟩
  · have h1 := h.row i hi
    rw [sm_split (nodup_range n) mi, h.di i hi] at h1
    have h2 : C i j ≤ sm (List.range n) fun k => if k = i then 0 else C i k := by
      have := sm_mem (f := fun k => if k = i then 0 else C i k) (l := List.range n) (x := j) (fun y hy => by
        by_cases k : y = i
        · simp only [k, if_true]; exact Int.le_refl _
        · simp only [k, if_false]; exact h.nn i hi y (List.mem_range.mp hy)) mj
      simp only [if_neg (fun z => ne z.symm : ¬ j = i)] at this
      exact this
    omega
  · have h1 := h.col j hj
    rw [sm_split (nodup_range n) mj, h.di j hj] at h1
    have h2 : C i j ≤ sm (List.range n) fun k => if k = j then 0 else C k j := by
      have := sm_mem (f := fun k => if k = j then 0 else C k j) (l := List.range n) (x := i) (fun y hy => by
        by_cases k : y = j
        · simp only [k, if_true]; exact Int.le_refl _
        · simp only [k, if_false]; exact h.nn y (List.mem_range.mp hy) j hj) mi
      simp only [if_neg ne] at this
      exact this
    omega
/-- prices for a carrying -/
structure Priced (n : Nat) (o t : Nat → Int) (c C : Mx) (π : Nat → Int) : Prop where
  le : ∀ g ∈ gvs n o t, ∀ u ∈ gvs n t o, π u - π g ≤ c g u
  eq : ∀ g ∈ gvs n o t, ∀ u ∈ gvs n t o, 0 < C g u → c g u = π u - π g
def worth (n : Nat) (o t : Nat → Int) (c : Mx) (π : Nat → Int) : Int := sm (List.range n) (fun i => c i i * min (o i) (t i)) + sm (List.range n) (fun j => π j * t j) - sm (List.range n) (fun i => π i * o i)
theorem Flow.sums (h : Flow n o t C) (c : Mx) (π : Nat → Int) : sm (List.range n) (fun i => sm (List.range n) fun j => (if j = i then c i i * min (o i) (t i) else 0) + (π j * C i j - π i * C i j)) = worth n o t c π := by
  have h1 : sm (List.range n) (fun i => sm (List.range n) fun j => (if j = i then c i i * min (o i) (t i) else 0) + (π j * C i j - π i * C i j)) = sm (List.range n) fun i => (c i i * min (o i) (t i) + sm (List.range n) (fun j => π j * C i j)) - π i * o i := sm_congr fun i hi => by
    rw [sm_add, sm_one (nodup_range n), if_pos hi, sm_sub, sm_mul, h.row i (List.mem_range.mp hi)]
    omega
  rw [h1, sm_sub, sm_add, sm_swap (f := fun i j => π j * C i j)]
  unfold worth
  congr 2
  exact sm_congr fun j hj => by rw [sm_mul, h.col j (List.mem_range.mp hj)]
theorem Flow.ge (h : Flow n o t C) {D : Mx} {π : Nat → Int} (p : Priced n o t c D π) : worth n o t c π ≤ cost n c C := by
  rw [← h.sums c π]
  refine sm_le fun i hi => sm_le fun j hj => ?_
  have hi' := List.mem_range.mp hi
  have hj' := List.mem_range.mp hj
  by_cases e : j = i
  · subst e
    rw [if_pos rfl, h.di j hj']
    omega
  · rw [if_neg e]
    have nn := h.nn i hi' j hj'
    by_cases z : 0 < C i j
    · obtain ⟨hg, hu⟩ := h.off hi' hj' (fun k => e k.symm) z
      have := p.le i hg j hu
      have m := Int.mul_le_mul_of_nonneg_right this nn
      rw [Int.sub_mul] at m
      omega
    · have : C i j = 0 := by omega
      rw [this, Int.mul_zero, Int.mul_zero, Int.mul_zero]
      omega
theorem Flow.is (h : Flow n o t C) {π : Nat → Int} (p : Priced n o t c C π) : cost n c C = worth n o t c π := by
  rw [← h.sums c π]
  refine sm_congr fun i hi => sm_congr fun j hj => ?_
  have hi' := List.mem_range.mp hi
  have hj' := List.mem_range.mp hj
  by_cases e : j = i
  · subst e
    rw [if_pos rfl, h.di j hj']
    omega
  · rw [if_neg e]
    have nn := h.nn i hi' j hj'
    by_cases z : 0 < C i j
    · obtain ⟨hg, hu⟩ := h.off hi' hj' (fun k => e k.symm) z
      rw [p.eq i hg j hu z, Int.sub_mul]
      omega
    · have : C i j = 0 := by omega
      rw [this, Int.mul_zero, Int.mul_zero, Int.mul_zero]
      omega
theorem Flow.best (h : Flow n o t C) {π : Nat → Int} (p : Priced n o t c C π) {D : Mx} (k : Flow n o t D) : cost n c C ≤ cost n c D := by
  rw [h.is p]
  exact k.ge p
/-- the beginning -/
def stay (o t : Nat → Int) : Mx := fun i j => if j = i then min (o i) (t i) else 0
theorem fl_start (hc : ∀ g ∈ gvs n o t, ∀ u ∈ gvs n t o, 0 ≤ c g u) : Fl (gvs n o t) (gvs n t o) (fun i => o i - t i) c (stay o t) (fun i => o i - t i) := by
  have dis : ∀ x ∈ gvs n o t, x ∉ gvs n t o := fun x h1 h2 => by
    have a := (mem_gvs.mp h1).2
    have b := (mem_gvs.mp h2).2
    omega
  have z : ∀ g ∈ gvs n o t, ∀ u ∈ gvs n t o, stay o t g u = 0 := fun g hg u hu => if_neg fun (e : u = g) => dis g hg (e ▸ hu)
  refine ⟨List.Nodup.sublist List.filter_sublist (nodup_range n), List.Nodup.sublist List.filter_sublist (nodup_range n), dis, fun g hg u hu => by rw [z g hg u hu]; exact Int.le_refl _, fun g hg => ?_, fun u hu => ?_, fun g hg => by have := (mem_gvs.mp hg).2; omega, fun u hu => by have := (mem_gvs.mp hu).2; omega, fun g hg => by have := (mem_gvs.mp hg).2; omega, fun _ => 0, fun g hg u hu => ⟨by have := hc g hg u hu; show (0 : Int) ≤ 0 + c g u; omega, fun h => by rw [z g hg u hu] at h; omega⟩⟩
  · rw [sm_congr (g := fun _ => 0) fun u hu => z g hg u hu, sm_zero]
    omega
  · rw [sm_congr (g := fun _ => 0) fun g hg => z g hg u hu, sm_zero]
    omega
/-- .. and the end -/
def Only (n : Nat) (o t : Nat → Int) (M : Mx) : Prop := ∀ i j, ¬ (i ∈ gvs n o t ∧ j ∈ gvs n t o) → M i j = stay o t i j
theorem fl_end {L : Nat → Int} (h : Fl (gvs n o t) (gvs n t o) (fun i => o i - t i) c M L) (on : Only n o t M) (h0 : ∀ i, i < n → 0 ≤ o i ∧ 0 ≤ t i) (hs : sm (List.range n) o = sm (List.range n) t) (z : ∀ g ∈ gvs n o t, L g = 0) : Flow n o t M ∧ ∃ π, Priced n o t c M π := by
  have es : sm (gvs n o t) (fun i => o i - t i) + sm (gvs n t o) (fun i => o i - t i) = 0 := by
    unfold gvs
    rw [sm_filter, sm_filter, ← sm_add, sm_congr (g := fun i => o i - t i) fun i _ => ?_, sm_sub]
    · omega
    · by_cases a : t i < o i
      · rw [if_pos (decide_eq_true a), if_neg (by rw [decide_eq_true_iff]; omega)]; omega
      · rw [if_neg (by rw [decide_eq_true_iff]; omega)]
        by_cases b : o i < t i
        · rw [if_pos (decide_eq_true b)]; omega
        · rw [if_neg (by rw [decide_eq_true_iff]; omega)]; omega
  have bl := h.bal
  rw [es, sm_congr (f := L) (g := fun _ => 0) (l := gvs n o t) fun g hg => z g hg, sm_zero] at bl
  have zt : ∀ u ∈ gvs n t o, L u = 0 := fun u hu => by
    have h1 := h.lt u hu
    by_cases k : L u < 0
    · have := sm_mem (f := fun u => - L u) (l := gvs n t o) (x := u) (fun y hy => by have := h.lt y hy; omega) hu
      have e : sm (gvs n t o) (fun u => - L u) = - sm (gvs n t o) L := by
        have := sm_mul (f := L) (m := -1) (gvs n t o)
        rw [sm_congr (f := fun u => - L u) (g := fun u => -1 * L u) fun x _ => by omega, this]
        omega
      omega
    · omega
  obtain ⟨π, hπ⟩ := h.pot
  have nn : ∀ i, i < n → ∀ j, j < n → 0 ≤ M i j := fun i hi j hj => by
    by_cases k : i ∈ gvs n o t ∧ j ∈ gvs n t o
    · exact h.nn i k.1 j k.2
    · rw [on i j k]
      unfold stay
      have := h0 i hi
      split <;> omega
  have di : ∀ i, M i i = min (o i) (t i) := fun i => by
    rw [on i i fun k => h.dis i k.1 k.2]
    exact if_pos rfl
  refine ⟨⟨nn, fun i hi => ?_, fun j hj => ?_, fun i _ => di i⟩, π, fun g hg u hu => by have := (hπ g hg u hu).1; omega, fun g hg u hu hm => by have := hπ g hg u hu; have := this.2 hm; omega⟩
  · have mi := List.mem_range.mpr hi
    rw [sm_split (nodup_range n) mi, di i]
    by_cases a : i ∈ gvs n o t
    · have h1 := h.go i a
      rw [z i a] at h1
      have h2 : sm (gvs n t o) (M i) = sm (List.range n) fun j => if j = i then 0 else M i j := by
        show sm ((List.range n).filter _) (M i) = _
        rw [sm_filter]
        refine sm_congr fun j hj => ?_
        by_cases b : o j < t j
        · have hj' : j ∈ gvs n t o := mem_gvs.mpr ⟨List.mem_range.mp hj, b⟩
          rw [if_pos (decide_eq_true b), if_neg (fun (e : j = i) => h.dis i a (e ▸ hj'))]
        · rw [if_neg (by rw [decide_eq_true_iff]; omega)]
          by_cases e : j = i
          · rw [if_pos e]
          · rw [if_neg e, on i j fun k => b (mem_gvs.mp k.2).2]
            exact (if_neg e).symm
      have := (mem_gvs.mp a).2
      rw [← h2]
      omega
    · rw [sm_congr (g := fun _ => 0) fun j hj => by
        by_cases e : j = i
        · rw [if_pos e]
        · rw [if_neg e, on i j fun k => a k.1]
          exact if_neg e, sm_zero]
      have : ¬ t i < o i := fun k => a (mem_gvs.mpr ⟨hi, k⟩)
      omega
  · have mj := List.mem_range.mpr hj
    rw [sm_split (nodup_range n) mj, di j]
    by_cases a : j ∈ gvs n t o
    · have h1 := h.gt j a
      rw [zt j a] at h1
      have h2 : sm (gvs n o t) (fun g => M g j) = sm (List.range n) fun i => if i = j then 0 else M i j := by
        show sm ((List.range n).filter _) _ = _
        rw [sm_filter]
        refine sm_congr fun i hi => ?_
        by_cases b : t i < o i
        · have hi' : i ∈ gvs n o t := mem_gvs.mpr ⟨List.mem_range.mp hi, b⟩
          rw [if_pos (decide_eq_true b), if_neg (fun (e : i = j) => h.dis i hi' (e ▸ a))]
        · rw [if_neg (by rw [decide_eq_true_iff]; omega)]
          by_cases e : i = j
          · rw [if_pos e]
          · rw [if_neg e, on i j fun k => b (mem_gvs.mp k.1).2]
            exact (if_neg (fun z => e z.symm)).symm
      have := (mem_gvs.mp a).2
      rw [← h2]
      omega
    · rw [sm_congr (g := fun _ => 0) fun i hi => by
        by_cases e : i = j
        · rw [if_pos e]
        · rw [if_neg e, on i j fun k => a k.2]
          exact if_neg fun z => e z.symm, sm_zero]
      have : ¬ o j < t j := fun k => a (mem_gvs.mpr ⟨hj, k⟩)
      omega
theorem Only.moved {l : List Nat} {m : Int} (h : Only n o t M) (ho : ∀ x ∈ evs l, x.1 ∈ gvs n o t ∧ x.2 ∈ gvs n t o) (hq : ∀ x ∈ ods l, x.2 ∈ gvs n o t ∧ x.1 ∈ gvs n t o) : Only n o t (mvM M l m) := fun i j k => by
  unfold mvM
  rw [cnt_none (l := evs l) fun z => k (ho _ z), cnt_none (l := ods l) fun z => k (hq _ z), Int.mul_zero, Int.add_zero, Int.sub_zero]
  exact h i j k
end
end FL
set_option maxHeartbeats 4000000
namespace SL
open PySem PySem.Spec PyProof.Rows L2 Evl NF WL
variable [PW]
def Run {α : Type} (m : W α) (S : Sto) (P : α → Sto → Prop) : Prop := ∀ Ψ Ξ, (∀ a S2, P a S2 → Ψ a S2) → m S Ψ Ξ
section
variable {α β A T : Type} {m : W α} {S S2 : Sto} {P P2 : α → Sto → Prop} {Q : β → Sto → Prop}
theorem Run.ret {a : α} (p : P a S) : Run (SL.ret a) S P := fun Ψ Ξ k => k a S p
theorem Run.bind {f : α → W β} (h : Run m S P) (k : ∀ a S2, P a S2 → Run (f a) S2 Q) : Run (SL.bind m f) S Q := fun Ψ Ξ z => h _ Ξ fun a S2 pa => k a S2 pa Ψ Ξ z
theorem Run.mono (h : Run m S P) (k : ∀ a S2, P a S2 → P2 a S2) : Run m S P2 := fun Ψ Ξ z => h Ψ Ξ fun a S2 pa => z a S2 (k a S2 pa)
theorem Run.lift {o : Option α} {a : α} (h : o = some a) (p : P a S) : Run (SL.lift o) S P := fun Ψ Ξ k => ⟨a, h, k a S p⟩
theorem Run.noX (h : Run m S P) : Run (SL.noX m) S P := fun Ψ Ξ z => h Ψ _ z
theorem Run.ans {R : α → Prop} (h : Ans m S R) : Run m S fun a S2 => R a ∧ S2 = S := fun Ψ Ξ z => h Ψ Ξ fun a pa => z a S ⟨pa, rfl⟩
theorem Run.bindA {R : α → Prop} {f : α → W β} (h : Ans m S R) (k : ∀ a, R a → Run (f a) S Q) : Run (SL.bind m f) S Q := fun Ψ Ξ z => h _ Ξ fun a pa => k a pa Ψ Ξ z
theorem Run.bindF {m : W (Fl A)} {k : A → W (Fl T)} {I : A → Sto → Prop} {P : Fl T → Sto → Prop} (h : Run m S fun fl S2 => ∃ s, fl = .nx s ∧ I s S2) (hk : ∀ s S2, I s S2 → Run (k s) S2 P) : Run (SL.bindF m k) S P := fun Ψ Ξ z => by
  refine use_bindF (h _ Ξ ?_)
  rintro _ S2 ⟨s, rfl, hs⟩
  exact hk s S2 hs Ψ Ξ z
theorem Run.runF {m : W (Fl Unit)} {P : RV → Sto → Prop} (h : Run m S fun fl S2 => (∃ r, fl = .rt r ∧ P r S2) ∨ (fl = .nx () ∧ P (.v .non) S2)) : Run (SL.runF m) S P := fun Ψ Ξ z => by
  refine use_runF (h _ Ξ ?_)
  rintro _ S2 (⟨r, rfl, hr⟩ | ⟨rfl, hr⟩)
  · exact z r S2 hr
  · exact z _ S2 hr
theorem Ans.look {f : Sto → Option α} {a : α} {P : α → Prop} (h : f S = some a) (p : P a) : Ans (SL.look f) S P := fun Ψ Ξ k => ⟨a, h, k a p⟩
/-- over a list, the state told -/
theorem run_for {F : A → T → W (Fl T)} {f : PV → Option A} {α : Type} {e : α → PV} (I : List α → T → Sto → Prop) (h : ∀ x xs s S, I (x :: xs) s S → ∃ y, f (e x) = some y ∧ Run (F y s) S fun fl S2 => ∃ s', fl = .nx s' ∧ I xs s' S2) : ∀ (xs : List α) (s : T) (S : Sto), I xs s S → Run (forW f F (xs.map e) s) S fun fl S2 => ∃ s', fl = .nx s' ∧ I [] s' S2
  | [], s, S, i => Run.ret ⟨s, rfl, i⟩
  | x :: xs, s, S, i => by
    obtain ⟨y, hy, hr⟩ := h x xs s S i
    rw [List.map_cons, forW]
    exact Run.bind (Run.lift (P := fun z S2 => z = y ∧ S2 = S) hy ⟨rfl, rfl⟩) fun z S2 pz => by
      obtain ⟨rfl, rfl⟩ := pz
      exact Run.bindF hr fun s' S2 i' => run_for I h xs s' S2 i'
end
def iLs (n : Nat) (f : Nat → Int) : List PV := (List.range n).map fun i => .int (f i)
def mat (n : Nat) (C : FL.Mx) : List PV := (List.range n).map fun i => .lst (iLs n (C i))
theorem iLs_len (n : Nat) (f : Nat → Int) : (iLs n f).length = n := by simp [iLs]
theorem iLs_get {n i : Nat} {f : Nat → Int} (h : i < n) : (iLs n f)[i]? = some (.int (f i)) := by simp [iLs, h]
theorem iLs_ext {n : Nat} {f g : Nat → Int} (h : ∀ i, i < n → f i = g i) : iLs n f = iLs n g := by
  unfold iLs
  exact List.map_congr_left fun i hi => by rw [h i (List.mem_range.mp hi)]
theorem range_ext {α : Type} {n : Nat} {l : List α} {f : Nat → α} (hl : l.length = n) (h : ∀ i, i < n → l[i]? = some (f i)) : l = (List.range n).map f := by
  apply List.ext_getElem?
  intro i
  by_cases hi : i < n
  · rw [h i hi]
    simp [hi]
  · rw [List.getElem?_eq_none (by omega), List.getElem?_eq_none (by simp; omega)]
end SL
set_option maxHeartbeats 4000000
namespace NT
open PySem SL NF
variable [PW]
variable {ca : Nat → Addr} {S : Sto} {n : Nat} {o t : Nat → Int} {gv tk : List Nat} {c M : FL.Mx}
theorem z_list (n : Nat) (o t : Nat → Int) : zipF (iLs n o) (iLs n t) = (List.range n).map fun i => .tup [.int (o i), .int (t i)] := by
  refine range_ext (by rw [zipF_len, iLs_len, iLs_len, Nat.min_self]) fun i hi => ?_
  exact zipF_get _ _ i _ _ (iLs_get hi) (iLs_get hi)
end NT
set_option maxHeartbeats 4000000
namespace NT
open PySem SL NF
variable [PW]
variable {ca : Nat → Addr} {S : Sto} {n : Nat} {gv tk : List Nat} {c M : FL.Mx}
structure KO (n : Nat) {α : Type} (l : List (Nat × α)) : Prop where
  nd : (l.map (·.1)).Nodup
  lt : ∀ x ∈ l, x.1 < n
theorem KO.len {α : Type} {l : List (Nat × α)} (h : KO n l) : l.length ≤ n := by
  have := nodup_few (f := l.map (·.1)) (n := n) h.nd fun t ht => by
    obtain ⟨x, hx, rfl⟩ := List.mem_map.mp ht
    exact h.lt x hx
  rw [List.length_map] at this
  exact this
theorem KO.put {α : Type} {l : List (Nat × α)} (h : KO n l) {v : Nat} {a : α} (hv : v < n) : KO n (FL.putK l v a) := by
  have e : (l.map fun x => if x.1 = v then (x.1, a) else x).map (·.1) = l.map (·.1) := by
    rw [List.map_map]
    refine List.map_congr_left fun x _ => ?_
    show (if x.1 = v then (x.1, a) else x).1 = x.1
    split <;> rfl
  unfold FL.putK
  by_cases c : FL.hasV l v = true
  · rw [if_pos c]
    refine ⟨by rw [e]; exact h.nd, fun x hx => ?_⟩
    obtain ⟨y, hy, rfl⟩ := List.mem_map.mp hx
    split
    · exact h.lt y hy
    · exact h.lt y hy
  · rw [if_neg c]
    have no : v ∉ l.map (·.1) := fun hm => c (by
      clear e h
      induction l with
      | nil => cases hm
      | cons x l ih =>
        show (decide (x.1 = v) || FL.hasV l v) = true
        rcases List.mem_cons.mp hm with e | e
        · rw [decide_eq_true e.symm]; rfl
        · rw [ih (fun z => c (by show (decide (x.1 = v) || FL.hasV l v) = true; rw [z, Bool.or_true])) e, Bool.or_true])
    refine ⟨?_, fun x hx => ?_⟩
    · rw [List.map_append]
      refine List.nodup_append.mpr ⟨h.nd, by simp, fun x hx y hy e => ?_⟩
      rw [List.map_cons, List.map_nil, List.mem_singleton] at hy
      rw [e, hy] at hx
      exact no hx
    · rcases List.mem_append.mp hx with hx | hx
      · exact h.lt x hx
      · rw [List.mem_singleton] at hx
        subst hx
        exact hv
end NT
set_option maxHeartbeats 4000000
namespace NT
open PySem SL NF
end NT
set_option maxHeartbeats 4000000
namespace SL
open PySem PySem.Spec PyProof.Rows L2 Evl NF WL
end SL
namespace NT
open PySem SL NF
variable [PW]
variable {ca : Nat → Addr} {S S0 : Sto} {n : Nat} {M : FL.Mx} {L : Nat → Int} {ps : Nat → Addr} {q : Addr}
structure Held (S0 S : Sto) (ps : Nat → Addr) (q : Addr) (n : Nat) (M : FL.Mx) (L : Nat → Int) : Prop where
  row : ∀ i, i < n → S (ps i) = some (.lst (iLs n (M i)))
  lef : S q = some (.lst (iLs n L))
  out : ∀ a, (∀ i, i < n → a ≠ ps i) → a ≠ q → S a = S0 a
theorem Held.ext {M' : FL.Mx} {L' : Nat → Int} (h : Held S0 S ps q n M L) (e : ∀ i, i < n → ∀ j, j < n → M i j = M' i j) (e2 : ∀ i, i < n → L i = L' i) : Held S0 S ps q n M' L' :=
  ⟨fun i hi => by rw [h.row i hi, iLs_ext (e i hi)], by rw [h.lef, iLs_ext e2], h.out⟩
theorem lights_iLs {f : Nat → Int} : ∀ l : List Nat, lights (l.map fun i => PV.int (f i)) = true
  | [] => rfl
  | x :: l => by
    show (true && lights (l.map fun i => PV.int (f i))) = true
    rw [lights_iLs l]
    rfl
theorem Held.light (h : Held S0 S ps q n M L) (hS : LightS S0) : LightS S := fun p c hp => by
  by_cases k : ∃ i, i < n ∧ p = ps i
  · obtain ⟨i, hi, rfl⟩ := k
    rw [h.row i hi] at hp
    cases hp
    exact lights_iLs _
  · by_cases e : p = q
    · subst e
      rw [h.lef] at hp
      cases hp
      exact lights_iLs _
    · rw [h.out p (fun i hi z => k ⟨i, hi, z⟩) e] at hp
      exact hS p c hp
end NT
set_option maxHeartbeats 4000000
namespace NT
open PySem SL NF
variable [PW]
variable {ca : Nat → Addr} {S S0 : Sto} {n : Nat} {M : FL.Mx} {L : Nat → Int} {ps : Nat → Addr} {q : Addr}
theorem ev_len {α : Type} (l : List α) : (FL.ev l).length ≤ l.length := (FL.ev_sub l).length_le
end NT
set_option maxHeartbeats 4000000
namespace NT
open PySem SL NF
variable [PW]
variable {ca : Nat → Addr} {S S0 : Sto} {n : Nat} {o t : Nat → Int} {gv tk : List Nat} {c M : FL.Mx} {L : Nat → Int} {ps : Nat → Addr} {q : Addr}
theorem Run.cell {m : W (List PV)} {P : List PV → Sto → Prop} {Q : PV → Sto → Prop} (h : Run m S P) (k : ∀ as S2 p, P as S2 → S2 p = none → Q (.ptr p) (put S2 p (.lst as))) : Run (cellW m) S Q := fun Ψ Ξ z => h _ _ fun as S2 pa p hp => z _ _ (k as S2 p pa hp)
end NT
set_option maxHeartbeats 4000000
namespace FL
theorem Alt.all {P Q : Nat → Nat → Prop} {R : Nat → Prop} {l : List Nat} (h : Alt P Q l) (hp : ∀ a b, P a b → R a ∧ R b) (hq : ∀ a b, Q a b → R a ∧ R b) : ∀ x ∈ l, R x := by
  induction h with
  | one p =>
    intro x hx
    rcases List.mem_cons.mp hx with rfl | hx
    · exact (hp _ _ p).1
    · rw [List.mem_singleton.mp hx]; exact (hp _ _ p).2
  | more p q _ ih =>
    intro x hx
    rcases List.mem_cons.mp hx with rfl | hx
    · exact (hp _ _ p).1
    · rcases List.mem_cons.mp hx with rfl | hx
      · exact (hp _ _ p).2
      · exact ih x hx
section
variable {n : Nat} {o t : Nat → Int} {c M : Mx} {L : Nat → Int}
theorem sum_off (hs : sm (List.range n) o = sm (List.range n) t) : sm (gvs n o t) (fun i => o i - t i) + sm (gvs n t o) (fun i => o i - t i) = 0 := by
  unfold gvs
  rw [sm_filter, sm_filter, ← sm_add, sm_congr (g := fun i => o i - t i) fun i _ => ?_, sm_sub]
  · omega
  · by_cases a : t i < o i
    · rw [if_pos (decide_eq_true a), if_neg (by rw [decide_eq_true_iff]; omega)]; omega
    · rw [if_neg (by rw [decide_eq_true_iff]; omega)]
      by_cases b : o i < t i
      · rw [if_pos (decide_eq_true b)]; omega
      · rw [if_neg (by rw [decide_eq_true_iff]; omega)]; omega
/-- as long as one has too much another has too little -/
theorem some_less (h : Fl (gvs n o t) (gvs n t o) (fun i => o i - t i) c M L) (hs : sm (List.range n) o = sm (List.range n) t) (h0 : starts (gvs n o t) L ≠ []) : ((gvs n t o).filter fun u => decide (L u < 0)) ≠ [] := by
  obtain ⟨s, hm⟩ := List.exists_mem_of_ne_nil _ h0
  unfold starts at hm
  obtain ⟨sg, sp⟩ := List.mem_filter.mp hm
  have sp := of_decide_eq_true sp
  have bl := h.bal
  rw [sum_off hs] at bl
  have p1 := sm_mem (f := L) (l := gvs n o t) (x := s) (fun y hy => h.lg y hy) sg
  have e : sm (gvs n t o) (fun u => - L u) = - sm (gvs n t o) L := by
    have := sm_mul (f := L) (m := -1) (gvs n t o)
    rw [sm_congr (f := fun u => - L u) (g := fun u => -1 * L u) fun x _ => by omega, this]
    omega
  obtain ⟨u, hu, up⟩ := sm_some (f := fun u => - L u) (l := gvs n t o) (by omega)
  exact List.ne_nil_of_mem (List.mem_filter.mpr ⟨hu, decide_eq_true (by omega)⟩)
end
end FL
namespace NT
open PySem SL NF
end NT
set_option maxHeartbeats 4000000
namespace NT
open PySem SL NF
end NT
set_option maxHeartbeats 4000000
namespace FL
section
variable {n : Nat} {o t : Nat → Int} {c C M : Mx} {L π : Nat → Int}
theorem flow_go (h0 : ∀ i, i < n → 0 ≤ o i ∧ 0 ≤ t i) (hs : sm (List.range n) o = sm (List.range n) t) : ∀ (k : Nat) (M : Mx) (L : Nat → Int), Fl (gvs n o t) (gvs n t o) (fun i => o i - t i) c M L → Only n o t M → (sm (gvs n o t) L).toNat = k → ∃ C, Flow n o t C ∧ ∃ π, Priced n o t c C π := fun k => by
  induction k using Nat.strongRecOn with
  | _ k ih =>
    intro M L F O e
    by_cases z : starts (gvs n o t) L = []
    · refine ⟨M, fl_end F O h0 hs fun g hg => ?_⟩
      have h1 := F.lg g hg
      by_cases h2 : 0 < L g
      · have : g ∈ starts (gvs n o t) L := List.mem_filter.mpr ⟨hg, decide_eq_true h2⟩
        rw [z] at this
        cases this
      · omega
    · have sub : ∀ s ∈ starts (gvs n o t) L, s ∈ gvs n o t := fun s hs => (List.mem_filter.mp hs).1
      obtain ⟨π, B, G, iv0⟩ := F.ways sub
      obtain ⟨R2, a2, hr, iv, d⟩ := rounds_end G _ _ iv0
      have d : Done (stepsOf (gvs n o t) (gvs n t o) M c) R2 := d
      obtain ⟨hta, hga⟩ := F.all iv d sub z fun g hg hn => by
        have h1 := F.lg g hg
        have h2 : ¬ 0 < L g := fun z => hn (List.mem_filter.mpr ⟨hg, decide_eq_true z⟩)
        omega
      obtain ⟨u, hm⟩ := List.exists_mem_of_ne_nil _ (some_less F hs z)
      obtain ⟨hu, lu⟩ := List.mem_filter.mp hm
      have lu := of_decide_eq_true lu
      obtain ⟨p, hp⟩ := hta u hu
      obtain ⟨l, s, w, e1, e2, e3, nd, al⟩ := F.way iv d sub hu hp
      obtain ⟨_, _, _, _, _, _, hev, hod⟩ := alt_bal al
      have sg := sub s e2
      have sp : 0 < L s := of_decide_eq_true (List.mem_filter.mp e2).2
      have nd' := (List.reverse_perm l).nodup_iff.mpr nd
      have h1 := sm_mem (f := L) (l := gvs n o t) (x := s) (fun y hy => F.lg y hy) sg
      have h2 := mvL_sum (L := L) (s := s) (t := u) (m := 1) F.ng sg (fun z => F.dis u z hu)
      exact ih (sm (gvs n o t) (mvL L s u 1)).toNat (by omega) _ _ (F.moved d hta hga al nd' e1 e3 sg hu (m := 1) (by omega) (by omega) (by omega) fun x hx => by
        have := (hod x hx).2.2
        omega) (O.moved (fun x hx => ⟨(hev x hx).1, (hev x hx).2.1⟩) fun x hx => ⟨(hod x hx).1, (hod x hx).2.1⟩) rfl
theorem only_stay : Only n o t (stay o t) := fun i j _ => rfl
theorem flow_ex (h0 : ∀ i, i < n → 0 ≤ o i ∧ 0 ≤ t i) (hs : sm (List.range n) o = sm (List.range n) t) (hc : ∀ i, i < n → ∀ j, j < n → 0 ≤ c i j) : ∃ C, Flow n o t C ∧ ∃ π, Priced n o t c C π :=
  flow_go h0 hs _ _ _ (fl_start fun g hg u hu => hc g (mem_gvs.mp hg).1 u (mem_gvs.mp hu).1) only_stay rfl
structure Met (n : Nat) (c : Mx) : Prop where
  z : ∀ i, i < n → c i i = 0
  sy : ∀ i, i < n → ∀ j, j < n → c i j = c j i
  tr : ∀ i, i < n → ∀ j, j < n → ∀ k, k < n → c i j ≤ c i k + c k j
theorem Met.nn (h : Met n c) {i j : Nat} (hi : i < n) (hj : j < n) : 0 ≤ c i j := by
  have h1 := h.tr i hi i hi j hj
  rw [h.z i hi, h.sy j hj i hi] at h1
  omega
/-- the least of some -/
def mn : List Nat → (Nat → Int) → Int
  | [], _ => 0
  | [x], f => f x
  | x :: y :: l, f => min (f x) (mn (y :: l) f)
theorem mn_le {f : Nat → Int} : ∀ {l : List Nat} {x : Nat}, x ∈ l → mn l f ≤ f x
  | [y], x, h => by rw [List.mem_singleton.mp h]; exact Int.le_refl _
  | y :: z :: l, x, h => by
    show min (f y) (mn (z :: l) f) ≤ f x
    rcases List.mem_cons.mp h with rfl | h
    · omega
    · have := mn_le (f := f) h
      omega
theorem mn_at {f : Nat → Int} : ∀ {l : List Nat}, l ≠ [] → ∃ x ∈ l, mn l f = f x
  | [x], _ => ⟨x, List.mem_cons_self, rfl⟩
  | x :: y :: l, _ => by
    obtain ⟨z, hz, e⟩ := mn_at (f := f) (l := y :: l) (by simp)
    by_cases h : f x ≤ mn (y :: l) f
    · exact ⟨x, List.mem_cons_self, by show min (f x) (mn (y :: l) f) = _; omega⟩
    · exact ⟨z, List.mem_cons_of_mem _ hz, by show min (f x) (mn (y :: l) f) = _; omega⟩
theorem mn_is {f : Nat → Int} {l : List Nat} {x : Nat} {m : Int} (hx : x ∈ l) (e : f x = m) (h : ∀ y ∈ l, m ≤ f y) : mn l f = m := by
  obtain ⟨z, hz, ez⟩ := mn_at (f := f) (l := l) (List.ne_nil_of_mem hx)
  have h1 := mn_le (f := f) hx
  have h2 := h z hz
  omega
/-- what a place is worth, by what it costs to come to the takers -/
def prc (n : Nat) (o t : Nat → Int) (c : Mx) (π : Nat → Int) (i : Nat) : Int := mn (gvs n t o) fun u => c i u - π u
theorem prc_lip (h : Met n c) (ne : gvs n t o ≠ []) {i j : Nat} (hi : i < n) (hj : j < n) : prc n o t c π i - prc n o t c π j ≤ c i j := by
  unfold prc
  obtain ⟨u, hu, e⟩ := mn_at (f := fun u => c j u - π u) ne
  have h1 := mn_le (f := fun u => c i u - π u) hu
  have h2 := h.tr i hi u (mem_gvs.mp hu).1 j hj
  rw [e]
  omega
theorem prc_giver (F : Flow n o t C) (P : Priced n o t c C π) {g : Nat} (hg : g ∈ gvs n o t) : prc n o t c π g = - π g := by
  obtain ⟨gn, gt⟩ := mem_gvs.mp hg
  have h1 := F.row g gn
  rw [sm_split (nodup_range n) (f := C g) (List.mem_range.mpr gn), F.di g gn] at h1
  obtain ⟨u, hu, p⟩ := sm_some (l := List.range n) (f := fun j => if j = g then 0 else C g j) (by omega)
  have un := List.mem_range.mp hu
  by_cases e : u = g
  · rw [if_pos e] at p
    omega
  · rw [if_neg e] at p
    obtain ⟨_, ut⟩ := F.off gn un (fun z => e z.symm) p
    have q := P.eq g hg u ut p
    exact mn_is ut (by omega) fun v hv => by
      have := P.le g hg v hv
      omega
theorem prc_taker (h : Met n c) (F : Flow n o t C) (P : Priced n o t c C π) {u : Nat} (hu : u ∈ gvs n t o) : prc n o t c π u = - π u := by
  obtain ⟨un, ut⟩ := mem_gvs.mp hu
  have h1 := F.col u un
  rw [sm_split (nodup_range n) (f := fun i => C i u) (List.mem_range.mpr un), F.di u un] at h1
  obtain ⟨g, hg, p⟩ := sm_some (l := List.range n) (f := fun i => if i = u then 0 else C i u) (by omega)
  have gn := List.mem_range.mp hg
  by_cases e : g = u
  · rw [if_pos e] at p
    omega
  · rw [if_neg e] at p
    obtain ⟨gt, _⟩ := F.off gn un e p
    have q := P.eq g gt u hu p
    refine mn_is hu (by rw [h.z u un]; omega) fun v hv => ?_
    have h2 := P.le g gt v hv
    have h3 := h.tr g gn v (mem_gvs.mp hv).1 u un
    omega
/-- what prices earn -/
def ern (n : Nat) (o t p : Nat → Int) : Int := sm (List.range n) fun i => p i * (o i - t i)
theorem prc_earns (h : Met n c) (F : Flow n o t C) (P : Priced n o t c C π) : ern n o t (prc n o t c π) = cost n c C := by
  rw [F.is P]
  unfold worth ern
  rw [sm_congr (f := fun i => c i i * min (o i) (t i)) (g := fun _ => 0) fun i hi => by rw [h.z i (List.mem_range.mp hi), Int.zero_mul], sm_zero, Int.zero_add, ← sm_sub]
  refine sm_congr fun i hi => ?_
  have hi := List.mem_range.mp hi
  by_cases a : t i < o i
  · rw [prc_giver F P (mem_gvs.mpr ⟨hi, a⟩), Int.neg_mul, Int.mul_sub]
    omega
  · by_cases b : o i < t i
    · rw [prc_taker h F P (mem_gvs.mpr ⟨hi, b⟩), Int.neg_mul, Int.mul_sub]
      omega
    · rw [show o i = t i by omega, Int.sub_self, Int.mul_zero, Int.sub_self]
theorem no_takers (F : Flow n o t C) (hs : sm (List.range n) o = sm (List.range n) t) (ne : gvs n t o = []) : ∀ i, i < n → o i = t i := by
  have le : ∀ i, i < n → t i ≤ o i := fun i hi => by
    by_cases z : o i < t i
    · have := mem_gvs.mpr ⟨hi, z⟩
      rw [ne] at this
      cases this
    · omega
  intro i hi
  have h1 := sm_mem (f := fun i => o i - t i) (l := List.range n) (x := i) (fun y hy => by have := le y (List.mem_range.mp hy); omega) (List.mem_range.mpr hi)
  rw [sm_sub, hs] at h1
  have := le i hi
  omega
end
end FL
namespace BA
open FL
abbrev Row := Nat → Int
def lap (f : List Row → Int) (c : Nat) : Int → List Row → List Row → Int
  | _, _, [] => 0
  | s, pre, r :: suf => s * r c * f (pre ++ suf) + lap f c (-s) (pre ++ [r]) suf
def det : List Row → List Nat → Int
  | rows, [] => if rows.isEmpty = true then 1 else 0
  | rows, c :: cs => lap (fun rs => det rs cs) c 1 [] rows
def alt : Int → Nat → Int
  | s, 0 => s
  | s, n + 1 => alt (-s) n
section
variable {f g : List Row → Int} {c : Nat} {x y w u v : Row}
theorem lap_app : ∀ (a b : List Row) (s : Int) (p : List Row), lap f c s p (a ++ b) = lap (fun rs => f (rs ++ b)) c s p a + lap f c (alt s a.length) (p ++ a) b
  | [], b, s, p => by simp [lap, alt]
  | r :: a, b, s, p => by
    rw [List.cons_append, lap, lap_app a b, lap, List.length_cons, alt]
    simp only [List.append_assoc, List.cons_append, List.nil_append]
    omega
theorem lap_congr : ∀ (suf : List Row) (s : Int) (p : List Row), (∀ rs : List Row, rs.length + 1 = p.length + suf.length → f rs = g rs) → lap f c s p suf = lap g c s p suf
  | [], _, _, _ => rfl
  | r :: suf, s, p, h => by
    rw [lap, lap, h (p ++ suf) (by simp; omega), lap_congr suf (-s) (p ++ [r]) fun rs e => h rs (by simp at e ⊢; omega)]
theorem lap_lin {a b : Int} : ∀ (suf : List Row) (s : Int) (p : List Row), lap (fun rs => a * f rs + b * g rs) c s p suf = a * lap f c s p suf + b * lap g c s p suf
  | [], _, _ => by simp [lap]
  | r :: suf, s, p => by
    rw [lap, lap, lap, lap_lin suf]
    grind
theorem lap_mul {a : Int} : ∀ (suf : List Row) (s : Int) (p : List Row), lap (fun rs => f rs * a) c s p suf = lap f c s p suf * a
  | [], _, _ => by simp [lap]
  | r :: suf, s, p => by
    rw [lap, lap, lap_mul suf]
    grind
theorem lap_neg : ∀ (suf : List Row) (s : Int) (p : List Row), lap (fun rs => - f rs) c s p suf = - lap f c s p suf
  | [], _, _ => by simp [lap]
  | r :: suf, s, p => by
    rw [lap, lap, lap_neg suf]
    grind
theorem lap_pre {q q2 : List Row} : ∀ (suf : List Row) (s : Int) (z : List Row), (∀ m, f (q ++ m) = - f (q2 ++ m)) → lap f c s (q ++ z) suf = - lap f c s (q2 ++ z) suf
  | [], _, _, _ => by simp [lap]
  | r :: suf, s, z, h => by
    rw [lap, lap, List.append_assoc, List.append_assoc, List.append_assoc, List.append_assoc, h, lap_pre suf (-s) (z ++ [r]) h]
    grind
theorem det_last (rows : List Row) (c : Nat) (cs : List Nat) : det (rows ++ [w]) (c :: cs) = lap (fun rs => det (rs ++ [w]) cs) c 1 [] rows + alt 1 rows.length * w c * det rows cs := by
  rw [det, lap_app, lap, lap, List.nil_append, List.append_nil]
  omega
theorem det_lin {a b : Int} : ∀ (cs : List Nat) (rows : List Row), det (rows ++ [fun j => a * u j + b * v j]) cs = a * det (rows ++ [u]) cs + b * det (rows ++ [v]) cs
  | [], rows => by simp [det]
  | c :: cs, rows => by
    rw [det_last, det_last, det_last, lap_congr (g := fun rs => a * det (rs ++ [u]) cs + b * det (rs ++ [v]) cs) rows 1 [] fun rs _ => det_lin cs rs, lap_lin]
    grind
theorem det_swap : ∀ (cs : List Nat) (pre suf : List Row), det (pre ++ x :: y :: suf) cs = - det (pre ++ y :: x :: suf) cs
  | [], pre, suf => by simp [det]
  | c :: cs, pre, suf => by
    rw [det, det, lap_app, lap_app, lap_congr (g := fun rs => - det (rs ++ y :: x :: suf) cs) pre 1 [] fun rs _ => det_swap cs rs suf, lap_neg, lap, lap, lap, lap]
    have e := lap_pre (f := fun rs => det rs cs) (c := c) (q := [] ++ pre ++ [x] ++ [y]) (q2 := [] ++ pre ++ [y] ++ [x]) suf (- - alt 1 pre.length) [] fun m => by
      have := det_swap cs pre m
      simpa using this
    rw [List.append_nil, List.append_nil] at e
    rw [e]
    simp only [List.nil_append, List.append_assoc, List.cons_append]
    grind
theorem det_same : ∀ (mid : List Row) (cs : List Nat) (pre suf : List Row), det (pre ++ x :: (mid ++ x :: suf)) cs = 0
  | [], cs, pre, suf => by
    have := det_swap (x := x) (y := x) cs pre suf
    rw [List.nil_append]
    omega
  | m :: mid, cs, pre, suf => by
    rw [List.cons_append, det_swap]
    have := det_same mid cs (pre ++ [m]) suf
    rw [List.append_assoc, List.cons_append, List.nil_append] at this
    omega
theorem det_end {j : Nat} : ∀ (cs : List Nat) (rows : List Row), rows.length = cs.length → (∀ c ∈ cs, w c = 0) → det (rows ++ [w]) (cs ++ [j]) = det rows cs * w j
  | [], rows, hl, _ => by
    have : rows = [] := List.eq_nil_of_length_eq_zero hl
    subst this
    simp [det, lap]
  | c :: cs, rows, hl, h => by
    rw [List.cons_append, det_last, h c List.mem_cons_self, lap_congr (g := fun rs => det rs cs * w j) rows 1 [] fun rs e => det_end cs rs (by simp at e hl; omega) fun c hc => h c (List.mem_cons_of_mem _ hc), lap_mul]
    show _ = det rows (c :: cs) * w j
    rw [det]
    simp
def S (r : Row) : List Nat → Nat
  | [] => 0
  | c :: cs => (r c).natAbs + S r cs
def P (cs : List Nat) : List Row → Nat
  | [] => 1
  | r :: rs => S r cs * P cs rs
end
end BA
namespace BA
open FL
abbrev lead (A : Nat → Row) (k : Nat) : List Row := (List.range k).map A
/-- what lies in the rows rs, as far as determinants see -/
def In (rs : List Row) (v : Row) : Prop := ∀ mid cs, det (rs ++ mid ++ [v]) cs = 0
theorem In.lin {rs : List Row} {u v : Row} {a b : Int} (hu : In rs u) (hv : In rs v) : In rs fun j => a * u j + b * v j := fun mid cs => by
  rw [det_lin, hu, hv]
  omega
theorem In.up {rs : List Row} {v : Row} {x : Row} (h : In rs v) : In (rs ++ [x]) v := fun mid cs => by
  have := h ([x] ++ mid) cs
  rw [← List.append_assoc rs] at this
  exact this
theorem In.mem {A : Nat → Row} {k i : Nat} (h : i < k) : In (lead A k) (A i) := fun mid cs => by
  obtain ⟨s, t, e⟩ := List.append_of_mem (List.mem_range.mpr h)
  show det ((List.range k).map A ++ mid ++ [A i]) cs = 0
  rw [e, List.map_append, List.map_cons, List.append_assoc, List.append_assoc, List.cons_append, ← List.append_assoc (List.map A _) mid]
  exact det_same _ _ _ _
theorem det_sm {rows : List Row} {cs : List Nat} {a : Nat → Int} {R : Nat → Row} : ∀ l : List Nat, det (rows ++ [fun j => sm l fun m => a m * R m j]) cs = sm l fun m => a m * det (rows ++ [R m]) cs
  | [] => by
    have := det_lin (u := fun _ => 0) (v := fun _ => 0) (a := 0) (b := 0) cs rows
    simp only [Int.zero_mul, Int.add_zero] at this
    exact this
  | m :: l => by
    have := det_lin (u := R m) (v := fun j => sm l fun m => a m * R m j) (a := a m) (b := 1) cs rows
    rw [det_sm l] at this
    simp only [sm, Int.one_mul] at this ⊢
    exact this
theorem sm_one_range {k i : Nat} {f : Nat → Int} (h : i < k) : sm (List.range k) (fun m => if m = i then f m else 0) = f i := by
  rw [sm_congr (g := fun m => if m = i then f i else 0) fun m _ => by
    by_cases e : m = i
    · rw [if_pos e, if_pos e, e]
    · rw [if_neg e, if_neg e], sm_one (nodup_range k), if_pos (List.mem_range.mpr h)]
/-- what a determinant with one more row tells, by rows that are cleared -/
theorem form {A : Nat → Row} {k : Nat} {X : Nat → Row} {e D : Int} (hD : D = det (lead A k) (List.range k)) (un : ∀ i, i < k → ∀ m, m < k → X i m = if i = m then e else 0) (sp : ∀ i, i < k → In (lead A k) (X i)) (w : Row) (j : Nat) :
    e * det (lead A k ++ [w]) (List.range k ++ [j]) = D * (e * w j - sm (List.range k) fun m => w m * X m j) := by
  have h1 : det (lead A k ++ [fun j => e * w j + (-1) * sm (List.range k) fun m => w m * X m j]) (List.range k ++ [j]) = e * det (lead A k ++ [w]) (List.range k ++ [j]) := by
    rw [det_lin, det_sm, sm_congr (g := fun _ => 0) fun m hm => by
      have := sp m (List.mem_range.mp hm) [] (List.range k ++ [j])
      rw [List.append_nil] at this
      rw [this, Int.mul_zero], sm_zero]
    omega
  rw [← h1, det_end _ _ (by simp) fun c hc => ?_, ← hD]
  · congr 1
    omega
  · have hc' := List.mem_range.mp hc
    rw [sm_congr (g := fun m => if m = c then w c * e else 0) fun m hm => by
      rw [un m (List.mem_range.mp hm) c hc']
      by_cases z : m = c
      · rw [if_pos z, if_pos z, z]
      · rw [if_neg z, if_neg z, Int.mul_zero], sm_one_range hc', Int.mul_comm]
    omega
structure Cl (A : Nat → Row) (N k : Nat) (d : Int) (R : Nat → Row) : Prop where
  d0 : d ≠ 0
  dd : d = det (lead A k) (List.range k)
  un : ∀ i, i < k → ∀ m, m < k → R i m = if i = m then d else 0
  sp : ∀ i, i < k → In (lead A k) (R i)
  lo : ∀ i, k ≤ i → i < N → ∀ j, R i j = d * A i j - sm (List.range k) fun m => A i m * R m j
section
variable {A : Nat → Row} {N k : Nat} {d : Int} {R : Nat → Row}
theorem Cl.form (h : Cl A N k d R) (w : Row) (j : Nat) : det (lead A k ++ [w]) (List.range k ++ [j]) = d * w j - sm (List.range k) fun m => w m * R m j := by
  have := BA.form (e := d) h.dd h.un h.sp w j
  exact Int.eq_of_mul_eq_mul_left h.d0 this
theorem Cl.start : Cl A N 0 1 A := ⟨by decide, rfl, fun i hi => absurd hi (Nat.not_lt_zero _), fun i hi => absurd hi (Nat.not_lt_zero _), fun i _ _ j => by
  show A i j = 1 * A i j - 0
  omega⟩
/-- the lower rows have noughts where it is cleared -/
theorem Cl.nought (h : Cl A N k d R) {i m : Nat} (hi : k ≤ i) (hn : i < N) (hm : m < k) : R i m = 0 := by
  rw [h.lo i hi hn m, sm_congr (g := fun q => if q = m then A i m * d else 0) fun q hq => by
    rw [h.un q (List.mem_range.mp hq) m hm]
    by_cases z : q = m
    · rw [if_pos z, if_pos z, z]
    · rw [if_neg z, if_neg z, Int.mul_zero], sm_one_range hm, Int.mul_comm]
  omega
def unit (i : Nat) : Row := fun j => if j = i then 1 else 0
theorem range_snoc (k : Nat) : List.range (k + 1) = List.range k ++ [k] := List.range_succ
theorem lead_snoc (A : Nat → Row) (k : Nat) : lead A (k + 1) = lead A k ++ [A k] := by
  show (List.range (k + 1)).map A = _
  rw [range_snoc, List.map_append]
  rfl
theorem sm_app {f : Nat → Int} : ∀ a b : List Nat, sm (a ++ b) f = sm a f + sm b f
  | [], b => by simp [sm]
  | x :: a, b => by
    rw [List.cons_append]
    simp only [sm]
    rw [sm_app a b]
    omega
/-- the step -/
theorem Cl.step (h : Cl A N k d R) (hk : k < N) (p0 : R k k ≠ 0) :
    ∃ R' : Nat → Row, Cl A N (k + 1) (R k k) R' ∧ R' k = R k ∧ ∀ i, i < N → i ≠ k → ∀ j, R k k * R i j - R i k * R k j = d * R' i j := by
  generalize hp : R k k = p at *
  have rk : ∀ m, m < k → R k m = 0 := fun m hm => h.nought (Nat.le_refl k) hk hm
  have dp : p = det (lead A (k + 1)) (List.range (k + 1)) := by
    rw [lead_snoc, range_snoc, h.form, ← h.lo k (Nat.le_refl k) hk, hp]
  -- the rows, d times too great
  let X : Nat → Row := fun i j => if i = k then d * R k j else p * R i j - R i k * R k j
  have xk : X k = fun j => d * R k j := by funext j; exact if_pos rfl
  have xn : ∀ i, i ≠ k → X i = fun j => p * R i j - R i k * R k j := fun i hi => by funext j; exact if_neg hi
  have ik : In (lead A (k + 1)) (R k) := by
    have e : R k = fun j => d * A k j + (-1) * sm (List.range k) fun m => A k m * R m j := by
      funext j
      rw [h.lo k (Nat.le_refl k) hk j]
      omega
    rw [e]
    refine In.lin (In.mem (Nat.lt_succ_self k)) fun mid cs => ?_
    rw [det_sm, sm_congr (g := fun _ => 0) fun m hm => by
      have := h.sp m (List.mem_range.mp hm)
      rw [lead_snoc, this.up, Int.mul_zero], sm_zero]
  have un : ∀ i, i < k + 1 → ∀ m, m < k + 1 → X i m = if i = m then p * d else 0 := fun i hi m hm => by
    by_cases e : i = k
    · subst e
      rw [xk]
      by_cases e2 : m = i
      · rw [e2, if_pos rfl]
        show d * R i i = p * d
        rw [hp, Int.mul_comm]
      · rw [if_neg (fun z => e2 z.symm)]
        simp only
        rw [rk m (by omega), Int.mul_zero]
    · rw [xn i e]
      simp only
      by_cases e2 : m = k
      · subst e2
        rw [if_neg e, hp, Int.mul_comm p]
        omega
      · rw [rk m (by omega), Int.mul_zero, h.un i (by omega) m (by omega)]
        by_cases e3 : i = m
        · rw [if_pos e3, if_pos e3]; omega
        · rw [if_neg e3, if_neg e3]; omega
  have sp : ∀ i, i < k + 1 → In (lead A (k + 1)) (X i) := fun i hi => by
    by_cases e : i = k
    · subst e
      rw [xk]
      have := In.lin (a := d) (b := 0) ik ik
      simpa using this
    · rw [xn i e]
      have h1 : In (lead A (k + 1)) (R i) := by rw [lead_snoc]; exact (h.sp i (by omega)).up
      have := In.lin (a := p) (b := - R i k) h1 ik
      have e2 : (fun j => p * R i j - R i k * R k j) = fun j => p * R i j + (- R i k) * R k j := by
        funext j
        rw [Int.neg_mul]
        omega
      rw [e2]
      exact this
  have F : ∀ w j, d * det (lead A (k + 1) ++ [w]) (List.range (k + 1) ++ [j]) = p * d * w j - sm (List.range (k + 1)) fun m => w m * X m j := fun w j => by
    have := BA.form (e := p * d) dp un sp w j
    rw [Int.mul_assoc] at this
    exact Int.eq_of_mul_eq_mul_left p0 this
  let R1 : Nat → Row := fun i j => if i = k then R k j else p * unit i j - det (lead A (k + 1) ++ [unit i]) (List.range (k + 1) ++ [j])
  let R' : Nat → Row := fun i j => if i ≤ k then R1 i j else p * A i j - sm (List.range (k + 1)) fun m => A i m * R1 m j
  have r1k : R1 k = R k := by funext j; exact if_pos rfl
  have rlow : ∀ i, i ≤ k → R' i = R1 i := fun i hi => by funext j; exact if_pos hi
  have up : ∀ i, i < k → ∀ j, p * R i j - R i k * R k j = d * R1 i j := fun i hi j => by
    have e1 : R1 i j = p * unit i j - det (lead A (k + 1) ++ [unit i]) (List.range (k + 1) ++ [j]) := if_neg (by omega)
    have e2 := F (unit i) j
    have e3 : sm (List.range (k + 1)) (fun m => unit i m * X m j) = X i j := by
      rw [sm_congr (g := fun m => if m = i then X m j else 0) fun m _ => by
        unfold unit
        by_cases z : m = i
        · rw [if_pos z, if_pos z, Int.one_mul]
        · rw [if_neg z, if_neg z, Int.zero_mul], sm_one_range (by omega)]
    rw [e3, xn i (by omega)] at e2
    simp only at e2
    rw [e1, Int.mul_sub, e2, Int.mul_comm p d, Int.mul_assoc]
    omega
  have dn : ∀ i, k < i → i < N → ∀ j, p * R i j - R i k * R k j = d * R' i j := fun i hi hn j => by
    have e1 : R' i j = p * A i j - sm (List.range (k + 1)) fun m => A i m * R1 m j := if_neg (by omega)
    have l1 := h.lo i (by omega) hn j
    have l2 := h.lo i (by omega) hn k
    rw [e1, range_snoc, sm_app]
    simp only [sm, Int.add_zero]
    rw [r1k]
    have e4 : d * sm (List.range k) (fun m => A i m * R1 m j) = p * sm (List.range k) (fun m => A i m * R m j) - sm (List.range k) (fun m => A i m * R m k) * R k j := by
      rw [← sm_mul, ← sm_mul, Int.mul_comm _ (R k j), ← sm_mul, ← sm_sub]
      refine sm_congr fun m hm => ?_
      have := up m (List.mem_range.mp hm) j
      grind
    rw [l1, l2]
    grind
  refine ⟨R', ⟨p0, dp, fun i hi m hm => ?_, fun i hi => ?_, fun i hi hn j => ?_⟩, by rw [rlow k (Nat.le_refl k), r1k], fun i hn hik j => ?_⟩
  · rw [rlow i (by omega)]
    by_cases e : i = k
    · subst e
      rw [r1k]
      by_cases e2 : m = i
      · rw [e2, if_pos rfl, hp]
      · rw [if_neg (fun z => e2 z.symm), rk m (by omega)]
    · have e1 := un i hi m hm
      rw [xn i e] at e1
      simp only at e1
      rw [up i (by omega) m] at e1
      refine Int.eq_of_mul_eq_mul_left h.d0 ?_
      rw [e1]
      by_cases e2 : i = m
      · rw [if_pos e2, if_pos e2, Int.mul_comm]
      · rw [if_neg e2, if_neg e2, Int.mul_zero]
  · rw [rlow i (by omega)]
    by_cases e : i = k
    · subst e
      rw [r1k]
      exact ik
    · intro mid cs
      have e1 := sp i hi mid cs
      have e2 : X i = fun j => d * R1 i j + 0 * R1 i j := by
        rw [xn i e]
        funext j
        rw [up i (by omega) j]
        omega
      rw [e2, det_lin] at e1
      have : d * det (lead A (k + 1) ++ mid ++ [R1 i]) cs = d * 0 := by omega
      exact Int.eq_of_mul_eq_mul_left h.d0 this
  · have e1 : R' i j = p * A i j - sm (List.range (k + 1)) fun m => A i m * R1 m j := if_neg (by omega)
    rw [e1]
    congr 1
    exact sm_congr fun m hm => by rw [rlow m (by have := List.mem_range.mp hm; omega)]
  · by_cases e : i < k
    · rw [up i e j, rlow i (by omega)]
    · exact dn i (by omega) hn j
end
end BA
namespace BA
open FL
abbrev ab (x : Int) : Int := (x.natAbs : Int)
section
variable {A : Nat → Row} {N k : Nat} {d : Int} {R : Nat → Row}
/-- at the end each row tells what its own one is -/
theorem Cl.solves (h : Cl A N N d R) {l : Nat} (hl : l < N) (j : Nat) : sm (List.range N) (fun m => A l m * R m j) = d * A l j := by
  have e2 := h.form (A l) j
  have e3 := (In.mem (A := A) hl) [] (List.range N ++ [j])
  rw [List.append_nil] at e3
  rw [e3] at e2
  omega
end
end BA
namespace PO
open FL
def sr : Nat → (Nat → Rat) → Rat
  | 0, _ => 0
  | n + 1, f => sr n f + f n
section
variable {f g : Nat → Rat} {a : Rat} {n : Nat}
theorem sr_add : ∀ n, sr n (fun i => f i + g i) = sr n f + sr n g
  | 0 => by simp [sr]; grind
  | n + 1 => by rw [sr, sr, sr, sr_add n]; grind
theorem sr_sub : ∀ n, sr n (fun i => f i - g i) = sr n f - sr n g
  | 0 => by simp [sr]; grind
  | n + 1 => by rw [sr, sr, sr, sr_sub n]; grind
theorem sr_mul : ∀ n, sr n (fun i => f i * a) = sr n f * a
  | 0 => by simp [sr]
  | n + 1 => by rw [sr, sr, sr_mul n]; grind
theorem sr_congr : ∀ {n}, (∀ i, i < n → f i = g i) → sr n f = sr n g
  | 0, _ => rfl
  | n + 1, h => by rw [sr, sr, sr_congr fun i hi => h i (by omega), h n (by omega)]
theorem sr_le : ∀ {n}, (∀ i, i < n → f i ≤ g i) → sr n f ≤ sr n g
  | 0, _ => Rat.le_refl
  | n + 1, h => by
    have h1 := sr_le (n := n) fun i hi => h i (by omega)
    have h2 := h n (by omega)
    rw [sr, sr]
    grind
theorem sr_zero : ∀ n, sr n (fun _ => 0) = 0
  | 0 => rfl
  | n + 1 => by rw [sr, sr_zero n]; grind
theorem sr_nn (h : ∀ i, i < n → 0 ≤ f i) : 0 ≤ sr n f := by
  have := sr_le (n := n) h
  rw [sr_zero] at this
  exact this
theorem sr_cast {f : Nat → Int} : ∀ n, ((sm (List.range n) f : Int) : Rat) = sr n fun i => (f i : Rat)
  | 0 => rfl
  | n + 1 => by
    rw [List.range_succ, BA.sm_app, sr, ← sr_cast n]
    simp only [sm, Int.add_zero]
    exact Rat.intCast_add _ _
theorem most (f : Nat → Rat) : ∀ n, 0 < n → ∃ i, i < n ∧ ∀ m, m < n → f m ≤ f i
  | 0, h => absurd h (Nat.lt_irrefl _)
  | n + 1, _ => by
    rcases Nat.eq_zero_or_pos n with z | z
    · refine ⟨0, by omega, fun m hm => ?_⟩
      rw [show m = 0 by omega]
      exact Rat.le_refl
    · obtain ⟨i, hi, h⟩ := most f n z
      by_cases c : f i ≤ f n
      · refine ⟨n, by omega, fun m hm => ?_⟩
        rcases Nat.lt_or_ge m n with z | z
        · exact Rat.le_trans (h m z) c
        · rw [show m = n by omega]; exact Rat.le_refl
      · refine ⟨i, by omega, fun m hm => ?_⟩
        rcases Nat.lt_or_ge m n with z | z
        · exact h m z
        · rw [show m = n by omega]
          grind
end
/-- what one choice comes to -/
structure Op (N : Nat) (w : Rat) (m : Nat → Rat) (b : Rat) : Prop where
  nn : ∀ q, q < N → 0 ≤ m q
  b0 : 0 ≤ b
  le : sr N m + b ≤ w
def vl (N : Nat) (m : Nat → Rat) (b : Rat) (x : Nat → Rat) : Rat := sr N (fun q => m q * x q) + b
section
variable {N : Nat} {w : Nat → Rat} {f0 f1 : Rat} {m : Nat → Nat → Rat} {b : Nat → Rat} {x y : Nat → Rat}
/-- the comparison that all rests on -/
theorem compare (g0 : 0 ≤ f0) (g1 : f0 < f1) (hw : ∀ p, p < N → 0 < w p) (op : ∀ p, p < N → Op N (w p) (m p) (b p)) (hx : ∀ p, p < N → f1 * w p * x p ≤ f0 * vl N (m p) (b p) x) (hy : ∀ p, p < N → f0 * vl N (m p) (b p) y ≤ f1 * w p * y p) : ∀ p, p < N → x p ≤ y p := by
  intro p hp
  obtain ⟨q, hq, hm⟩ := most (fun p => x p - y p) N (by omega)
  have key : x q - y q ≤ 0 := by
    by_cases c : x q - y q ≤ 0
    · exact c
    · have dp : 0 < x q - y q := by grind
      have h1 := hx q hq
      have h2 := hy q hq
      have o := op q hq
      have e1 : vl N (m q) (b q) x - vl N (m q) (b q) y = sr N fun k => m q k * (x k - y k) := by
        unfold vl
        have := sr_sub (f := fun k => m q k * x k) (g := fun k => m q k * y k) N
        rw [sr_congr (f := fun k => m q k * (x k - y k)) (g := fun k => m q k * x k - m q k * y k) fun k _ => by grind, this]
        grind
      have e2 : sr N (fun k => m q k * (x k - y k)) ≤ sr N (m q) * (x q - y q) := by
        rw [← sr_mul]
        exact sr_le fun k hk => Rat.mul_le_mul_of_nonneg_left (hm k hk) (o.nn k hk)
      have e3 : sr N (m q) ≤ w q := by have := o.le; have := o.b0; grind
      have e4 : sr N (m q) * (x q - y q) ≤ w q * (x q - y q) := Rat.mul_le_mul_of_nonneg_right e3 (by grind)
      have e5 : f0 * (vl N (m q) (b q) x - vl N (m q) (b q) y) ≤ f0 * (w q * (x q - y q)) := Rat.mul_le_mul_of_nonneg_left (by grind) g0
      have e6 : f1 * (w q * (x q - y q)) ≤ f0 * (w q * (x q - y q)) := by grind
      have e7 : 0 < w q * (x q - y q) := Rat.mul_pos (hw q hq) dp
      have e8 : 0 < (f1 - f0) * (w q * (x q - y q)) := Rat.mul_pos (by grind) e7
      exfalso
      grind
  have := hm p hp
  grind
end
end PO
namespace PO
open FL
open Classical
abbrev key (i j : Nat) : Nat × Nat := (min i j, max i j)
noncomputable def ind (pr : Nat → Nat × Nat) (k i j : Nat) : Int := if pr k = key i j then 1 else 0
noncomputable def un (pr : Nat → Nat × Nat) (N i j : Nat) : Int := if i ≠ j ∧ ∀ k, k < N → pr k ≠ key i j then 1 else 0
noncomputable def gap (pr : Nat → Nat × Nat) (N : Nat) (tops : Nat → Int) (bottom : Int) : Mx := fun i j => sm (List.range N) (fun k => ind pr k i j * tops k) + un pr N i j * bottom
noncomputable def mu (pr : Nat → Nat × Nat) (n : Nat) (C : Mx) (k : Nat) : Int := sm (List.range n) fun i => sm (List.range n) fun j => ind pr k i j * C i j
noncomputable def rest (pr : Nat → Nat × Nat) (N n : Nat) (C : Mx) : Int := sm (List.range n) fun i => sm (List.range n) fun j => un pr N i j * C i j
structure Prs (pr : Nat → Nat × Nat) (N n : Nat) : Prop where
  inj : ∀ k, k < N → ∀ l, l < N → pr k = pr l → k = l
  ord : ∀ k, k < N → (pr k).1 < (pr k).2 ∧ (pr k).2 < n
section
variable {pr : Nat → Nat × Nat} {N n : Nat} {tops : Nat → Int} {bottom : Int} {C D c : Mx} {o t : Nat → Int}
theorem ind_nn {k i j : Nat} : 0 ≤ ind pr k i j := by unfold ind; split <;> decide
theorem un_nn {i j : Nat} : 0 ≤ un pr N i j := by unfold un; split <;> decide
theorem sm_none {f : Nat → Int} {l : List Nat} (h : ∀ x ∈ l, f x = 0) : sm l f = 0 := by
  rw [sm_congr (g := fun _ => 0) h, sm_zero]
/-- a sum over the pairs of which one is meant -/
theorem ind_one (P : Prs pr N n) {k i j : Nat} (hk : k < N) (e : pr k = key i j) (f : Nat → Int) : sm (List.range N) (fun l => ind pr l i j * f l) = f k ∧ un pr N i j = 0 := by
  constructor
  · rw [sm_congr (g := fun l => if l = k then f l else 0) fun l hl => ?_, BA.sm_one_range hk]
    unfold ind
    by_cases c : l = k
    · rw [if_pos c, c, if_pos e, Int.one_mul]
    · rw [if_neg c, if_neg fun z => c (P.inj l (List.mem_range.mp hl) k hk (z.trans e.symm)), Int.zero_mul]
  · exact if_neg fun z => z.2 k hk e
theorem ind_no {i j : Nat} (h : ∀ k, k < N → pr k ≠ key i j) (f : Nat → Int) : sm (List.range N) (fun l => ind pr l i j * f l) = 0 := sm_none fun l hl => by
  unfold ind
  rw [if_neg (h l (List.mem_range.mp hl)), Int.zero_mul]
theorem gap_pair (P : Prs pr N n) {k i j : Nat} (hk : k < N) (e : pr k = key i j) : gap pr N tops bottom i j = tops k := by
  obtain ⟨h1, h2⟩ := ind_one P hk e tops
  unfold gap
  rw [h1, h2]
  omega
theorem gap_no {i j : Nat} (h : ∀ k, k < N → pr k ≠ key i j) : gap pr N tops bottom i j = if i = j then 0 else bottom := by
  unfold gap un
  rw [ind_no h]
  by_cases c : i = j
  · rw [if_neg fun z => z.1 c, if_pos c]; omega
  · rw [if_pos ⟨c, h⟩, if_neg c]; omega
/-- what a carrying costs, pair by pair -/
theorem cost_gap : cost n (gap pr N tops bottom) C = sm (List.range N) (fun k => mu pr n C k * tops k) + rest pr N n C * bottom := by
  have e1 : ∀ i, sm (List.range n) (fun j => gap pr N tops bottom i j * C i j) = sm (List.range N) (fun k => tops k * sm (List.range n) fun j => ind pr k i j * C i j) + bottom * sm (List.range n) fun j => un pr N i j * C i j := fun i => by
    have a : sm (List.range n) (fun j => gap pr N tops bottom i j * C i j) = sm (List.range n) fun j => sm (List.range N) (fun k => tops k * (ind pr k i j * C i j)) + bottom * (un pr N i j * C i j) := sm_congr fun j _ => by
      unfold gap
      rw [Int.add_mul, Int.mul_comm (sm _ _), ← sm_mul, sm_congr (g := fun k => tops k * (ind pr k i j * C i j)) fun k _ => by grind]
      grind
    rw [a, sm_add, sm_mul, sm_swap (f := fun j k => tops k * (ind pr k i j * C i j))]
    congr 1
    exact sm_congr fun k _ => sm_mul _
  unfold cost
  rw [sm_congr fun i _ => e1 i, sm_add, sm_mul, sm_swap (f := fun i k => tops k * sm (List.range n) fun j => ind pr k i j * C i j)]
  unfold mu rest
  rw [Int.mul_comm bottom]
  congr 1
  exact sm_congr fun k _ => by rw [sm_mul, Int.mul_comm]
theorem mu_nn (h : Flow n o t C) (k : Nat) : 0 ≤ mu pr n C k := sm_nn fun i hi => sm_nn fun j hj => Int.mul_nonneg ind_nn (h.nn i (List.mem_range.mp hi) j (List.mem_range.mp hj))
theorem rest_nn (h : Flow n o t C) : 0 ≤ rest pr N n C := sm_nn fun i hi => sm_nn fun j hj => Int.mul_nonneg un_nn (h.nn i (List.mem_range.mp hi) j (List.mem_range.mp hj))
theorem mu_sum (P : Prs pr N n) (h : Flow n o t C) : sm (List.range N) (mu pr n C) + rest pr N n C ≤ sm (List.range n) o := by
  have e1 : sm (List.range N) (mu pr n C) = sm (List.range n) fun i => sm (List.range n) fun j => sm (List.range N) fun k => ind pr k i j * C i j := by
    unfold mu
    rw [sm_swap (f := fun k i => sm (List.range n) fun j => ind pr k i j * C i j)]
    exact sm_congr fun i _ => sm_swap (f := fun k j => ind pr k i j * C i j) _ _
  rw [e1]
  unfold rest
  rw [← sm_add]
  refine sm_le fun i hi => ?_
  rw [← sm_add, ← h.row i (List.mem_range.mp hi)]
  refine sm_le fun j hj => ?_
  have nn := h.nn i (List.mem_range.mp hi) j (List.mem_range.mp hj)
  by_cases q : ∃ k, k < N ∧ pr k = key i j
  · obtain ⟨k, hk, e⟩ := q
    obtain ⟨h1, h2⟩ := ind_one P hk e fun _ => C i j
    rw [h1, h2]
    omega
  · have q' : ∀ k, k < N → pr k ≠ key i j := fun k hk e => q ⟨k, hk, e⟩
    rw [ind_no q' fun _ => C i j]
    unfold un
    split <;> omega
/-- as a choice -/
theorem Op.of (P : Prs pr N n) (h : Flow n o t C) : Op N ((sm (List.range n) o : Int) : Rat) (fun k => (mu pr n C k : Rat)) (rest pr N n C : Rat) := by
  refine ⟨fun q _ => Rat.intCast_le_intCast.mpr (mu_nn h q), Rat.intCast_le_intCast.mpr (rest_nn h), ?_⟩
  rw [← sr_cast, ← Rat.intCast_add]
  exact Rat.intCast_le_intCast.mpr (mu_sum P h)
noncomputable def vc (pr : Nat → Nat × Nat) (N n : Nat) (C : Mx) (x : Nat → Rat) : Rat := vl N (fun k => (mu pr n C k : Rat)) (rest pr N n C : Rat) x
theorem cost_vc {x : Nat → Rat} (hb : 0 < bottom) (hx : ∀ k, k < N → (tops k : Rat) = x k * bottom) : ((cost n (gap pr N tops bottom) C : Int) : Rat) = vc pr N n C x * bottom := by
  rw [cost_gap, Rat.intCast_add, sr_cast, Rat.intCast_mul]
  unfold vc vl
  rw [Rat.add_mul, ← sr_mul]
  congr 1
  exact sr_congr fun k hk => by
    rw [Rat.intCast_mul, hx k hk]
    grind
end
section
variable {pr : Nat → Nat × Nat} {N n : Nat} {o t : Nat → Nat → Int} {f0 f1 : Int} {x y : Nat → Rat} {C : Nat → Mx}
theorem compareC (P : Prs pr N n) (g0 : 0 ≤ f0) (g1 : f0 < f1) (hw : ∀ p, p < N → 0 < sm (List.range n) (o p)) (fl : ∀ p, p < N → Flow n (o p) (t p) (C p)) (hx : ∀ p, p < N → (f1 : Rat) * ((sm (List.range n) (o p) : Int) : Rat) * x p ≤ f0 * vc pr N n (C p) x) (hy : ∀ p, p < N → (f0 : Rat) * vc pr N n (C p) y ≤ f1 * ((sm (List.range n) (o p) : Int) : Rat) * y p) : ∀ p, p < N → x p ≤ y p :=
  compare (w := fun p => ((sm (List.range n) (o p) : Int) : Rat)) (m := fun p k => (mu pr n (C p) k : Rat)) (b := fun p => (rest pr N n (C p) : Rat)) (Rat.intCast_le_intCast.mpr g0) (Rat.intCast_lt_intCast.mpr g1) (fun p hp => Rat.intCast_lt_intCast.mpr (hw p hp)) (fun p hp => Op.of P (fl p hp)) hx hy
end
end PO
namespace PO
open FL BA
noncomputable def eqA (pr : Nat → Nat × Nat) (N n : Nat) (f0 f1 : Int) (w : Nat → Int) (C : Nat → Mx) (p : Nat) : Row := fun j => if j < N then (if j = p then f1 * w p else 0) - f0 * mu pr n (C p) j else f0 * rest pr N n (C p)
section
variable {pr : Nat → Nat × Nat} {N n : Nat} {o t : Nat → Nat → Int} {f0 f1 : Int} {x y : Nat → Rat} {C : Nat → Mx} {w : Nat → Int}
theorem eqA_lt {p j : Nat} (h : j < N) : eqA pr N n f0 f1 w C p j = (if j = p then f1 * w p else 0) - f0 * mu pr n (C p) j := if_pos h
theorem eqA_last {p : Nat} : eqA pr N n f0 f1 w C p N = f0 * rest pr N n (C p) := if_neg (Nat.lt_irrefl N)
structure Sys (pr : Nat → Nat × Nat) (N n : Nat) (o t : Nat → Nat → Int) (f0 f1 : Int) (w : Nat → Int) (C : Nat → Mx) : Prop where
  P : Prs pr N n
  g0 : 0 ≤ f0
  g1 : f0 < f1
  hw : ∀ p, p < N → sm (List.range n) (o p) = w p ∧ 0 < w p
  fl : ∀ p, p < N → Flow n (o p) (t p) (C p)
theorem Sys.off (s : Sys pr N n o t f0 f1 w C) {p : Nat} (hp : p < N) : sm (List.range N) (fun m => if m = p then 0 else ab (eqA pr N n f0 f1 w C p m)) = f0 * sm (List.range N) fun m => if m = p then 0 else mu pr n (C p) m := by
  rw [← sm_mul]
  refine sm_congr fun m hm => ?_
  by_cases c : m = p
  · rw [if_pos c, if_pos c, Int.mul_zero]
  · rw [if_neg c, if_neg c, eqA_lt (List.mem_range.mp hm), if_neg c]
    have := Int.mul_nonneg s.g0 (mu_nn (pr := pr) (s.fl p hp) m)
    simp only [ab]
    omega
theorem Sys.own (s : Sys pr N n o t f0 f1 w C) {p : Nat} (hp : p < N) : eqA pr N n f0 f1 w C p p = f1 * w p - f0 * mu pr n (C p) p := by rw [eqA_lt hp, if_pos rfl]
/-- what solves them -/
theorem Sys.solved (s : Sys pr N n o t f0 f1 w C) {d : Int} {R : Nat → Row} (c : Cl (eqA pr N n f0 f1 w C) N N d R) : ∀ p, p < N → (f1 : Rat) * (w p : Rat) * Rat.divInt (R p N) d = f0 * vc pr N n (C p) fun k => Rat.divInt (R k N) d := fun p hp => by
  have d0 : (d : Rat) ≠ 0 := by
    intro z
    exact c.d0 (Rat.intCast_inj.mp z)
  have e0 := c.solves hp N
  have ex : ∀ k, Rat.divInt (R k N) d * (d : Rat) = (R k N : Rat) := fun k => by
    rw [Rat.divInt_eq_div]
    exact Rat.div_mul_cancel d0
  rw [eqA_last, sm_congr (g := fun m => (if m = p then f1 * w p * R m N else 0) - f0 * (mu pr n (C p) m * R m N)) fun m hm => by
    rw [eqA_lt (List.mem_range.mp hm)]
    by_cases z : m = p
    · rw [if_pos z, if_pos z]; grind
    · rw [if_neg z, if_neg z]; grind, sm_sub, BA.sm_one_range hp, sm_mul] at e0
  have e1 := congrArg (fun z : Int => (z : Rat)) e0
  simp only [Rat.intCast_sub, Rat.intCast_mul, sr_cast] at e1
  have e2 : sr N (fun i => (mu pr n (C p) i : Rat) * (R i N : Rat)) = sr N (fun i => (mu pr n (C p) i : Rat) * Rat.divInt (R i N) d) * d := by
    rw [← sr_mul]
    exact sr_congr fun k _ => by rw [← ex k]; grind
  rw [e2, ← ex p] at e1
  unfold vc vl
  have e3 : (d : Rat) * ((f1 : Rat) * (w p : Rat) * Rat.divInt (R p N) d) = d * (f0 * (sr N (fun i => (mu pr n (C p) i : Rat) * Rat.divInt (R i N) d) + (rest pr N n (C p) : Rat))) := by grind
  grind
/-- choosing anew makes nothing greater -/
theorem Sys.less (s : Sys pr N n o t f0 f1 w C) (hx : ∀ p, p < N → (f0 : Rat) * vc pr N n (C p) x ≤ f1 * (w p : Rat) * x p) (hy : ∀ p, p < N → (f1 : Rat) * (w p : Rat) * y p = f0 * vc pr N n (C p) y) : (∀ p, p < N → y p ≤ x p) ∧ ∀ p, p < N → 0 ≤ y p := by
  have hw : ∀ p, p < N → 0 < sm (List.range n) (o p) := fun p hp => by rw [(s.hw p hp).1]; exact (s.hw p hp).2
  refine ⟨compareC s.P s.g0 s.g1 hw s.fl (fun p hp => ?_) fun p hp => ?_, compareC (x := fun _ => 0) s.P s.g0 s.g1 hw s.fl (fun p hp => ?_) fun p hp => ?_⟩
  · rw [(s.hw p hp).1, hy p hp]; exact Rat.le_refl
  · rw [(s.hw p hp).1]; exact hx p hp
  · have : (0 : Rat) ≤ f0 * vc pr N n (C p) fun _ => 0 := by
      refine Rat.mul_nonneg (Rat.intCast_le_intCast.mpr s.g0) ?_
      unfold vc vl
      rw [sr_congr (g := fun _ => 0) fun k _ => by grind, sr_zero]
      have : (0 : Rat) ≤ (rest pr N n (C p) : Rat) := Rat.intCast_le_intCast.mpr (rest_nn (s.fl p hp))
      grind
    grind
  · rw [(s.hw p hp).1, hy p hp]; exact Rat.le_refl
end
end PO
set_option maxHeartbeats 4000000
namespace NT
open PySem SL NF
end NT
set_option maxHeartbeats 4000000
namespace NT
open PySem SL NF
variable [PW]
variable {ca : Nat → Addr} {S : Sto} {n N : Nat}
def lcmL (b : Nat) (xs : List Rat) : Nat := xs.foldl (fun b x => Nat.lcm b x.den) b
theorem lcmL_dvd : ∀ (xs : List Rat) (b D : Nat), b ∣ D → (∀ x ∈ xs, x.den ∣ D) → lcmL b xs ∣ D
  | [], b, D, h, _ => h
  | x :: xs, b, D, h, k => lcmL_dvd xs (Nat.lcm b x.den) D (Nat.lcm_dvd h (k x List.mem_cons_self)) fun y hy => k y (List.mem_cons_of_mem _ hy)
theorem dvd_lcmL : ∀ (xs : List Rat) (b : Nat), b ∣ lcmL b xs ∧ ∀ x ∈ xs, x.den ∣ lcmL b xs
  | [], b => ⟨Nat.dvd_refl b, fun x h => nomatch h⟩
  | x :: xs, b => by
    obtain ⟨h1, h2⟩ := dvd_lcmL xs (Nat.lcm b x.den)
    refine ⟨Nat.dvd_trans (Nat.dvd_lcm_left b x.den) h1, fun y hy => ?_⟩
    rcases List.mem_cons.mp hy with rfl | hy
    · exact Nat.dvd_trans (Nat.dvd_lcm_right b _) h1
    · exact h2 y hy
theorem den_pos (x : Rat) : 0 < x.den := Nat.pos_of_ne_zero x.den_nz
theorem lcmL_pos : ∀ (xs : List Rat) (b : Nat), 0 < b → 0 < lcmL b xs
  | [], b, h => h
  | x :: xs, b, h => lcmL_pos xs _ (Nat.lcm_pos h (den_pos x))
theorem top_cast {x : Rat} {c : Nat} (h : x.den ∣ c) (c0 : 0 < c) : ((x.num * ((c / x.den : Nat) : Int) : Int) : Rat) = x * (c : Rat) := by
  obtain ⟨k, rfl⟩ := h
  have dz : (x.den : Rat) ≠ 0 := by
    intro z
    exact x.den_nz (Rat.natCast_inj.mp z)
  rw [Nat.mul_div_cancel_left _ (den_pos x), Rat.intCast_mul, Rat.natCast_mul]
  have e2 : x * x.den = x.num := by
    have e := Rat.num_divInt_den x
    rw [Rat.divInt_eq_div, Rat.intCast_natCast] at e
    conv => lhs; arg 1; rw [← e]
    exact Rat.div_mul_cancel dz
  rw [Rat.intCast_natCast]
  grind
def wh (qs rs : List Rat) : Nat := lcmL 1 (qs ++ rs)
def tp (c : Nat) (xs : List Rat) (i : Nat) : Int := (xs.getD i 0).num * ((c / (xs.getD i 0).den : Nat) : Int)
def lkp (n : Nat) (lk : Nat → Nat → Bool) : List (Nat × Nat) := (List.range n).flatMap fun i => ((List.range n).filter fun j => decide (i < j) && lk i j).map fun j => (i, j)
theorem mem_lkp {lk : Nat → Nat → Bool} {x : Nat × Nat} : x ∈ lkp n lk ↔ x.1 < x.2 ∧ x.2 < n ∧ lk x.1 x.2 = true := by
  obtain ⟨i, j⟩ := x
  unfold lkp
  rw [List.mem_flatMap]
  constructor
  · rintro ⟨a, ha, h⟩
    obtain ⟨b, hb, e⟩ := List.mem_map.mp h
    cases e
    obtain ⟨h1, h2⟩ := List.mem_filter.mp hb
    rw [Bool.and_eq_true, decide_eq_true_iff] at h2
    exact ⟨h2.1, List.mem_range.mp h1, h2.2⟩
  · rintro ⟨h1, h2, h3⟩
    refine ⟨i, List.mem_range.mpr (by simp only at *; omega), List.mem_map.mpr ⟨j, List.mem_filter.mpr ⟨List.mem_range.mpr h2, ?_⟩, rfl⟩⟩
    rw [Bool.and_eq_true, decide_eq_true_iff]
    exact ⟨h1, h3⟩
theorem lkp_nodup (n : Nat) (lk : Nat → Nat → Bool) : (lkp n lk).Nodup := by
  unfold lkp List.Nodup
  rw [List.pairwise_flatMap]
  refine ⟨fun i _ => ?_, ?_⟩
  · rw [List.pairwise_map]
    exact List.Pairwise.imp (fun h z => h (by injection z)) (List.Pairwise.sublist List.filter_sublist List.nodup_range)
  · refine List.Pairwise.imp (fun {a b} h x hx y hy z => ?_) List.nodup_range
    obtain ⟨_, _, rfl⟩ := List.mem_map.mp hx
    obtain ⟨_, _, rfl⟩ := List.mem_map.mp hy
    exact h (by injection z)
end NT
set_option maxHeartbeats 4000000
namespace NT
open PySem SL NF
variable [PW]
variable {ca : Nat → Addr} {S : Sto} {n N : Nat} {p : Addr} {ps : List (Nat × Nat)} {f : Nat × Nat → PV} {x : Nat × Nat}
def kP (x : Nat × Nat) : NestedKey := .tup [.num x.1, .num x.2]
theorem kP_inj {x y : Nat × Nat} : kP x = kP y ↔ x = y := by
  constructor
  · intro h
    unfold kP at h
    injection h with h
    injection h with h1 h
    injection h with h2 _
    injection h1 with h1
    injection h2 with h2
    exact Prod.ext (by omega) (by omega)
  · intro h
    rw [h]
theorem hasN : ∀ ps : List (Nat × Nat), hasK (ps.map kP) (kP x) = decide (x ∈ ps)
  | [] => rfl
  | y :: ps => by
    rw [List.map_cons, hasK_cons, hasN ps]
    by_cases e : y = x
    · rw [decide_eq_true (kP_inj.mpr e), Bool.true_or, decide_eq_true (by rw [e]; exact List.mem_cons_self)]
    · rw [decide_eq_false (fun z => e (kP_inj.mp z)), Bool.false_or]
      by_cases m : x ∈ ps
      · rw [decide_eq_true m, decide_eq_true (List.mem_cons_of_mem _ m)]
      · rw [decide_eq_false m, decide_eq_false fun z => (List.mem_cons.mp z).elim (fun z => e z.symm) m]
abbrev vsN (ps : List (Nat × Nat)) (f : Nat × Nat → PV) : List PV := ps.map f
theorem putN {v : PV} (h : x ∈ ps) : dputK (ps.map kP) (kP x) = ps.map kP ∧ dputA (ps.map kP) (vsN ps f) (kP x) v = vsN ps fun y => if y = x then v else f y := by
  unfold dputK dputA
  rw [hasN, decide_eq_true h, if_pos rfl, if_pos rfl]
  refine ⟨rfl, ?_⟩
  have go : ∀ ps : List (Nat × Nat), List.zipWith (fun j a => if j = kP x then v else a) (ps.map kP) (vsN ps f) = vsN ps fun y => if y = x then v else f y := fun ps => by
    induction ps with
    | nil => rfl
    | cons y ps ih =>
      show List.zipWith _ (kP y :: ps.map kP) (f y :: vsN ps f) = (if y = x then v else f y) :: vsN ps _
      rw [List.zipWith_cons_cons, ih]
      congr 1
      by_cases e : y = x
      · rw [if_pos (kP_inj.mpr e), if_pos e]
      · rw [if_neg (fun z => e (kP_inj.mp z)), if_neg e]
  exact go ps
end NT
set_option maxHeartbeats 4000000
namespace NT
open PySem SL NF
end NT
set_option maxHeartbeats 4000000
namespace NT
open PySem SL NF
variable [PW]
variable {ca : Nat → Addr} {S S0 : Sto} {n N : Nat} {pr : Nat → Nat × Nat} {tops : Nat → Int} {bottom : Int} {M : FL.Mx} {ps : Nat → Addr}
structure HR (S0 S : Sto) (ps : Nat → Addr) (n : Nat) (M : FL.Mx) : Prop where
  row : ∀ i, i < n → S (ps i) = some (.lst (iLs n (M i)))
  out : ∀ a, (∀ i, i < n → a ≠ ps i) → S a = S0 a
theorem HR.light (h : HR S0 S ps n M) (hS : LightS S0) : LightS S := fun p c hp => by
  by_cases k : ∃ i, i < n ∧ p = ps i
  · obtain ⟨i, hi, rfl⟩ := k
    rw [h.row i hi] at hp
    cases hp
    exact lights_iLs _
  · rw [h.out p (fun i hi z => k ⟨i, hi, z⟩)] at hp
    exact hS p c hp
theorem HR.put (inj : ∀ i, i < n → ∀ j, j < n → ps i = ps j → i = j) (h : HR S0 S ps n M) {g : Nat} (hg : g < n) {F : Nat → Int} : HR S0 (put S (ps g) (.lst (iLs n F))) ps n (fun i => if i = g then F else M i) := by
  refine ⟨fun i hi => ?_, fun a ha => ?_⟩
  · by_cases e : i = g
    · rw [e, put_same, if_pos rfl]
    · rw [put_ne (fun z => e (inj i hi g hg z)), h.row i hi, if_neg e]
  · rw [put_ne (ha g hg)]
    exact h.out a ha
theorem HR.ext {M' : FL.Mx} (h : HR S0 S ps n M) (e : ∀ i, i < n → ∀ j, j < n → M i j = M' i j) : HR S0 S ps n M' := ⟨fun i hi => by rw [h.row i hi, iLs_ext (e i hi)], h.out⟩
def fin (pr : Nat → Nat × Nat) (tops : Nat → Int) : List Nat → FL.Mx → FL.Mx
  | [], M => M
  | k :: ks, M => fin pr tops ks fun i j => if pr k = PO.key i j then tops k else M i j
end NT
set_option maxHeartbeats 4000000
namespace PO
open FL
section
variable {pr : Nat → Nat × Nat} {N n : Nat} {x y : Nat → Rat} {tops : Nat → Int} {bottom : Int}
theorem sr_none {f : Nat → Rat} (h : ∀ k, k < N → f k = 0) : sr N f = 0 := by rw [sr_congr h, sr_zero]
theorem sr_one {f : Nat → Rat} {k : Nat} : ∀ {N : Nat}, k < N → sr N (fun l => if l = k then f l else 0) = f k
  | 0, h => absurd h (Nat.not_lt_zero _)
  | N + 1, h => by
    rw [sr]
    rcases Nat.lt_or_ge k N with z | z
    · rw [sr_one z, if_neg (by omega)]
      grind
    · have : k = N := by omega
      subst this
      rw [sr_none fun l hl => if_neg (by omega), if_pos rfl]
      grind
end
def Whole (D : Nat) (x : Rat) : Prop := ∃ t : Int, x * (D : Rat) = (t : Rat)
theorem Whole.sum {D : Nat} {x : Nat → Rat} : ∀ {N : Nat}, (∀ k, k < N → Whole D (x k)) → ∃ t : Int, sr N (fun k => x k * (D : Rat)) = (t : Rat)
  | 0, _ => ⟨0, rfl⟩
  | N + 1, h => by
    obtain ⟨t, ht⟩ := Whole.sum fun k hk => h k (Nat.lt_succ_of_lt hk)
    obtain ⟨u, hu⟩ := h N (Nat.lt_succ_self N)
    exact ⟨t + u, by rw [sr, ht, hu, Rat.intCast_add]⟩
theorem Whole.div {D : Nat} {a d : Int} (h : d.natAbs ∣ D) (d0 : d ≠ 0) : Whole D (Rat.divInt a d) := by
  obtain ⟨q, rfl⟩ := h
  have dz : (d : Rat) ≠ 0 := fun z => d0 (Rat.intCast_inj.mp z)
  have e : Rat.divInt a d * (d : Rat) = (a : Rat) := by
    rw [Rat.divInt_eq_div]
    exact Rat.div_mul_cancel dz
  rcases Int.natAbs_eq d with c | c
  · refine ⟨a * q, ?_⟩
    have : ((d.natAbs : Nat) : Rat) = (d : Rat) := by
      rw [← Rat.intCast_natCast, ← c]
    rw [Rat.natCast_mul, this, Rat.intCast_mul, Rat.intCast_natCast]
    grind
  · refine ⟨- (a * q), ?_⟩
    have : ((d.natAbs : Nat) : Rat) = - (d : Rat) := by
      rw [← Rat.intCast_natCast, ← Rat.intCast_neg]
      congr 1
      omega
    rw [Rat.natCast_mul, this, Rat.intCast_neg, Rat.intCast_mul, Rat.intCast_natCast]
    grind
end PO
namespace NT
open PySem SL NF
end NT
set_option maxHeartbeats 4000000
namespace KA
open FL PO
abbrev Tb := Nat → Nat → Rat
section
variable {n m : Nat} {d e K : Tb} {p q r u : Nat → Rat} {f g : Nat → Rat} {w v a : Rat}
theorem sr_swap (f : Tb) (n : Nat) : ∀ m, sr n (fun i => sr m (f i)) = sr m fun j => sr n fun i => f i j
  | 0 => sr_zero n
  | m + 1 => by
    show sr n (fun i => sr m (f i) + f i m) = sr m (fun j => sr n fun i => f i j) + sr n (fun i => f i m)
    rw [sr_add, sr_swap f n m]
theorem sr_mulL (a : Rat) (n : Nat) : sr n (fun i => a * f i) = a * sr n f := by
  rw [sr_congr (g := fun i => f i * a) fun i _ => Rat.mul_comm .., sr_mul, Rat.mul_comm]
theorem sr_at (h : ∀ i, i < n → 0 ≤ f i) {k : Nat} (hk : k < n) : f k ≤ sr n f := by
  by_cases z : f k ≤ sr n f
  · exact z
  · exfalso
    have h1 := sr_one (f := f) hk
    have h2 : sr n (fun l => if l = k then f l else 0) ≤ sr n f := sr_le fun i hi => by
      by_cases e : i = k
      · rw [if_pos e]; exact Rat.le_refl
      · rw [if_neg e]; exact h i hi
    rw [h1] at h2
    exact z h2
structure Met (n : Nat) (d : Tb) : Prop where
  z : ∀ i, i < n → d i i = 0
  sy : ∀ i, i < n → ∀ j, j < n → d i j = d j i
  tr : ∀ i, i < n → ∀ j, j < n → ∀ k, k < n → d i j ≤ d i k + d k j
theorem Met.nn (h : Met n d) {i j : Nat} (hi : i < n) (hj : j < n) : 0 ≤ d i j := by
  have h1 := h.tr i hi i hi j hj
  rw [h.z i hi, h.sy j hj i hi] at h1
  grind
structure Cpl (n : Nat) (p q : Nat → Rat) (K : Tb) : Prop where
  nn : ∀ i, i < n → ∀ j, j < n → 0 ≤ K i j
  row : ∀ i, i < n → sr n (K i) = p i
  col : ∀ j, j < n → sr n (fun i => K i j) = q j
def cst (n : Nat) (d K : Tb) : Rat := sr n fun i => sr n fun j => d i j * K i j
def ern (n : Nat) (p q u : Nat → Rat) : Rat := sr n fun i => u i * (p i - q i)
def Lip (n : Nat) (d : Tb) (u : Nat → Rat) : Prop := ∀ i, i < n → ∀ j, j < n → u i - u j ≤ d i j
theorem weak (c : Cpl n p q K) (l : Lip n d u) : ern n p q u ≤ cst n d K := by
  have e : ern n p q u = sr n fun i => sr n fun j => (u i - u j) * K i j := by
    have e1 : sr n (fun i => u i * p i) = sr n fun i => sr n fun j => u i * K i j := sr_congr fun i hi => by rw [sr_mulL, c.row i hi]
    have e2 : sr n (fun j => u j * q j) = sr n fun i => sr n fun j => u j * K i j := by
      rw [sr_swap]
      exact sr_congr fun j hj => by rw [sr_mulL, c.col j hj]
    unfold ern
    rw [sr_congr (g := fun i => u i * p i - u i * q i) fun i _ => by grind, sr_sub, e1, e2, ← sr_sub]
    exact sr_congr fun i _ => by rw [← sr_sub]; exact sr_congr fun j _ => by grind
  rw [e]
  exact sr_le fun i hi => sr_le fun j hj => Rat.mul_le_mul_of_nonneg_right (l i hi j hj) (c.nn i hi j hj)
structure Opt (n : Nat) (d : Tb) (p q : Nat → Rat) (w : Rat) : Prop where
  c : ∃ K, Cpl n p q K ∧ cst n d K = w
  u : ∃ u, Lip n d u ∧ ern n p q u = w
theorem Opt.le (h : Opt n d p q w) (c : Cpl n p q K) : w ≤ cst n d K := by
  obtain ⟨u, l, e⟩ := h.u
  rw [← e]
  exact weak c l
theorem Opt.ge (h : Opt n d p q w) (l : Lip n d u) : ern n p q u ≤ w := by
  obtain ⟨K, c, e⟩ := h.c
  rw [← e]
  exact weak c l
theorem Opt.one (h : Opt n d p q w) (k : Opt n d p q v) : w = v := by
  obtain ⟨K, c, e⟩ := h.c
  obtain ⟨K', c', e'⟩ := k.c
  have h1 := h.le c'
  have h2 := k.le c
  grind
theorem Opt.is (c : Cpl n p q K) (l : Lip n d u) (e1 : cst n d K = w) (e2 : ern n p q u = w) : Opt n d p q w := ⟨⟨K, c, e1⟩, ⟨u, l, e2⟩⟩
theorem cst_le (h : ∀ i, i < n → ∀ j, j < n → d i j ≤ e i j) (c : ∀ i, i < n → ∀ j, j < n → 0 ≤ K i j) : cst n d K ≤ cst n e K :=
  sr_le fun i hi => sr_le fun j hj => Rat.mul_le_mul_of_nonneg_right (h i hi j hj) (c i hi j hj)
theorem Cpl.all (c : Cpl n p q K) : (sr n fun i => sr n fun j => K i j) = sr n p := sr_congr fun i hi => c.row i hi
theorem cst_add (c : Cpl n p q K) (a : Rat) : cst n (fun i j => d i j + a) K = cst n d K + a * sr n p := by
  unfold cst
  rw [← c.all, ← sr_mulL, ← sr_add]
  exact sr_congr fun i _ => by
    rw [← sr_mulL, ← sr_add]
    exact sr_congr fun j _ => by grind
theorem Opt.mono (h : Opt n d p q w) (k : Opt n e p q v) (le : ∀ i, i < n → ∀ j, j < n → d i j ≤ e i j) : w ≤ v := by
  obtain ⟨K, c, x⟩ := k.c
  have h1 := h.le c
  have h2 := cst_le le c.nn
  grind
theorem Opt.near (h : Opt n d p q w) (k : Opt n e p q v) {a : Rat} (s : sr n p = 1) (le : ∀ i, i < n → ∀ j, j < n → d i j ≤ e i j + a) : w ≤ v + a := by
  obtain ⟨K, c, x⟩ := k.c
  have h1 := h.le c
  have h2 := cst_le le c.nn
  rw [cst_add c, s] at h2
  grind
theorem Opt.tri (h : Opt n d p q w) (k : Opt n d q r v) (l : Opt n d p r a) : a ≤ w + v := by
  obtain ⟨u, x, e⟩ := l.u
  have h1 := h.ge x
  have h2 := k.ge x
  have h3 : ern n p r u = ern n p q u + ern n q r u := by
    unfold ern
    rw [← sr_add]
    exact sr_congr fun i _ => by grind
  grind
theorem Opt.swap (M : Met n d) (h : Opt n d p q w) : Opt n d q p w := by
  obtain ⟨K, c, e⟩ := h.c
  obtain ⟨u, l, x⟩ := h.u
  refine Opt.is (K := fun i j => K j i) (u := fun i => - u i) ⟨fun i hi j hj => c.nn j hj i hi, fun i hi => c.col i hi, fun j hj => c.row j hj⟩ (fun i hi j hj => ?_) ?_ ?_
  · have := l j hj i hi
    rw [M.sy j hj i hi] at this
    grind
  · rw [← e]
    unfold cst
    rw [sr_swap]
    exact sr_congr fun i hi => sr_congr fun j hj => by rw [M.sy j hj i hi]
  · rw [← x]
    unfold ern
    exact sr_congr fun i _ => by grind
theorem Opt.nn (h : Opt n d p q w) (M : Met n d) : 0 ≤ w := by
  obtain ⟨K, c, e⟩ := h.c
  rw [← e]
  exact sr_nn fun i hi => sr_nn fun j hj => Rat.mul_nonneg (M.nn hi hj) (c.nn i hi j hj)
theorem Opt.top (h : Opt n d p q w) {a : Rat} (s : sr n p = 1) (le : ∀ i, i < n → ∀ j, j < n → d i j ≤ a) : w ≤ a := by
  obtain ⟨K, c, e⟩ := h.c
  have h2 : cst n d K ≤ cst n (fun i j => (fun _ _ => (0 : Rat)) i j + a) K := cst_le (fun i hi j hj => by have := le i hi j hj; grind) c.nn
  rw [cst_add c, s] at h2
  have h3 : cst n (fun _ _ => (0 : Rat)) K = 0 := by
    unfold cst
    rw [sr_congr (g := fun _ => 0) fun i _ => by rw [sr_congr (g := fun _ => 0) fun j _ => Rat.zero_mul _, sr_zero], sr_zero]
  grind
theorem Opt.same (h : Opt n d p q w) (e : ∀ i, i < n → p i = q i) : w = 0 := by
  obtain ⟨u, l, x⟩ := h.u
  rw [← x]
  unfold ern
  rw [sr_congr (g := fun _ => 0) fun i hi => by rw [e i hi]; grind, sr_zero]
theorem whole_mul {D E : Nat} {x : Rat} (h : Whole D x) : Whole (D * E) x := by
  obtain ⟨t, e⟩ := h
  refine ⟨t * E, ?_⟩
  rw [Rat.natCast_mul, Rat.intCast_mul, ← e, Rat.intCast_natCast]
  grind
theorem whole_mul' {D E : Nat} {x : Rat} (h : Whole E x) : Whole (D * E) x := by rw [Nat.mul_comm]; exact whole_mul h
theorem mul_den (x : Rat) : x * (x.den : Rat) = (x.num : Rat) := by
  have dz : (x.den : Rat) ≠ 0 := fun z => x.den_nz (Rat.natCast_inj.mp z)
  have e := Rat.num_divInt_den x
  rw [Rat.divInt_eq_div, Rat.intCast_natCast] at e
  conv => lhs; arg 1; rw [← e]
  exact Rat.div_mul_cancel dz
theorem one_bottom (f : Nat → Rat) : ∀ n, ∃ b : Nat, 0 < b ∧ ∀ i, i < n → Whole b (f i)
  | 0 => ⟨1, by decide, fun i h => absurd h (Nat.not_lt_zero _)⟩
  | n + 1 => by
    obtain ⟨b, b0, h⟩ := one_bottom f n
    refine ⟨b * (f n).den, Nat.mul_pos b0 (f n).den_pos, fun i hi => ?_⟩
    by_cases e : i = n
    · subst e
      exact whole_mul' ⟨(f i).num, mul_den (f i)⟩
    · exact whole_mul (h i (by omega))
theorem one_bottom2 (f : Tb) (n : Nat) : ∀ m, ∃ b : Nat, 0 < b ∧ ∀ i, i < m → ∀ j, j < n → Whole b (f i j)
  | 0 => ⟨1, by decide, fun i h => absurd h (Nat.not_lt_zero _)⟩
  | m + 1 => by
    obtain ⟨b, b0, h⟩ := one_bottom2 f n m
    obtain ⟨c, c0, k⟩ := one_bottom (f m) n
    refine ⟨b * c, Nat.mul_pos b0 c0, fun i hi j hj => ?_⟩
    by_cases e : i = m
    · subst e
      exact whole_mul' (k j hj)
    · exact whole_mul (h i (by omega) j hj)
structure Scl (n : Nat) (d : Tb) (b : Nat) (c : Mx) : Prop where
  ps : 0 < b
  e : ∀ i, i < n → ∀ j, j < n → ((c i j : Int) : Rat) = d i j * b
structure Sc1 (n : Nat) (p : Nat → Rat) (w : Nat) (o : Nat → Int) : Prop where
  ps : 0 < w
  e : ∀ i, i < n → ((o i : Int) : Rat) = p i * w
def dv (w : Nat) (C : Mx) : Tb := fun i j => (C i j : Rat) / (w : Rat)
variable {o t : Nat → Int} {c C : Mx} {π : Nat → Int} {b k : Nat}
theorem Scl.met (s : Scl n d b c) (M : Met n d) : FL.Met n c := by
  have bp : (0 : Rat) ≤ (b : Rat) := Rat.le_of_lt (by exact_mod_cast s.ps)
  refine ⟨fun i hi => ?_, fun i hi j hj => ?_, fun i hi j hj l hl => ?_⟩
  · have := s.e i hi i hi
    rw [M.z i hi, Rat.zero_mul] at this
    exact_mod_cast this
  · have h1 := s.e i hi j hj
    rw [M.sy i hi j hj, ← s.e j hj i hi] at h1
    exact_mod_cast h1
  · have h1 := Rat.mul_le_mul_of_nonneg_right (M.tr i hi j hj l hl) bp
    have : ((c i j : Int) : Rat) ≤ ((c i l + c l j : Int) : Rat) := by
      rw [Rat.intCast_add, s.e i hi j hj, s.e i hi l hl, s.e l hl j hj]
      grind
    exact_mod_cast this
theorem dv_cpl (a : Sc1 n p k o) (a' : Sc1 n q k t) (F : Flow n o t C) : Cpl n p q (dv k C) := by
  have kp : (0 : Rat) < (k : Rat) := by exact_mod_cast a.ps
  have kn : (k : Rat) ≠ 0 := fun z => by grind
  refine ⟨fun i hi j hj => ?_, fun i hi => ?_, fun j hj => ?_⟩
  · unfold dv
    have : (0 : Rat) ≤ (C i j : Rat) := by exact_mod_cast F.nn i hi j hj
    rw [Rat.div_def]
    exact Rat.mul_nonneg this (Rat.le_of_lt (Rat.inv_pos.mpr kp))
  · have h : sr n (fun j => (C i j : Rat)) = p i * k := by rw [← sr_cast, F.row i hi, a.e i hi]
    unfold dv
    rw [sr_congr (g := fun j => (C i j : Rat) * (k : Rat)⁻¹) fun j _ => Rat.div_def .., sr_mul, h]
    grind
  · have h : sr n (fun i => (C i j : Rat)) = q j * k := by rw [← sr_cast, F.col j hj, a'.e j hj]
    unfold dv
    rw [sr_congr (g := fun i => (C i j : Rat) * (k : Rat)⁻¹) fun i _ => Rat.div_def .., sr_mul, h]
    grind
theorem dv_cst (s : Scl n d b c) (k0 : 0 < k) : cst n d (dv k C) = ((FL.cost n c C : Int) : Rat) / ((b : Rat) * k) := by
  have bp : (0 : Rat) < (b : Rat) := by exact_mod_cast s.ps
  have kp : (0 : Rat) < (k : Rat) := by exact_mod_cast k0
  unfold FL.cost cst
  rw [sr_cast, Rat.div_def, ← sr_mul]
  refine sr_congr fun i hi => ?_
  rw [sr_cast, ← sr_mul]
  refine sr_congr fun j hj => ?_
  rw [Rat.intCast_mul, s.e i hi j hj]
  unfold dv
  grind
theorem opt_flow (M : Met n d) (s : Scl n d b c) (a : Sc1 n p k o) (a' : Sc1 n q k t) (F : Flow n o t C) (hs : sm (List.range n) o = sm (List.range n) t) (P : Priced n o t c C π) : Opt n d p q (cst n d (dv k C)) := by
  have bp : (0 : Rat) < (b : Rat) := by exact_mod_cast s.ps
  have kp : (0 : Rat) < (k : Rat) := by exact_mod_cast a.ps
  have fm := s.met M
  have key : ∀ x : Nat → Int, (∀ i, i < n → ∀ j, j < n → x i - x j ≤ c i j) → FL.ern n o t x = FL.cost n c C → Opt n d p q (cst n d (dv k C)) := fun x lip e => by
    refine Opt.is (u := fun i => (x i : Rat) / b) (dv_cpl a a' F) (fun i hi j hj => ?_) rfl ?_
    · have h1 : ((x i - x j : Int) : Rat) ≤ ((c i j : Int) : Rat) := by exact_mod_cast lip i hi j hj
      rw [Rat.intCast_sub, s.e i hi j hj] at h1
      have h2 := Rat.mul_le_mul_of_nonneg_right h1 (Rat.le_of_lt (Rat.inv_pos.mpr bp))
      show (x i : Rat) / b - (x j : Rat) / b ≤ d i j
      rw [Rat.div_def, Rat.div_def]
      have h3 : d i j * (b : Rat) * (b : Rat)⁻¹ = d i j := by rw [Rat.mul_assoc, Rat.mul_inv_cancel _ (fun z => by grind), Rat.mul_one]
      rw [h3] at h2
      have h4 : ((x i : Rat) - (x j : Rat)) * (b : Rat)⁻¹ = (x i : Rat) * (b : Rat)⁻¹ - (x j : Rat) * (b : Rat)⁻¹ := by grind
      rw [← h4]
      exact h2
    · rw [dv_cst s a.ps, ← e]
      unfold FL.ern ern
      rw [sr_cast, Rat.div_def, ← sr_mul]
      refine sr_congr fun i hi => ?_
      rw [Rat.intCast_mul, Rat.intCast_sub, a.e i hi, a'.e i hi]
      show (x i : Rat) / b * (p i - q i) = _
      grind
  by_cases ne : gvs n t o = []
  · refine key (fun _ => 0) (fun i hi j hj => by have := fm.nn hi hj; omega) ?_
    have e0 := no_takers F hs ne
    unfold FL.ern FL.cost
    rw [sm_congr (g := fun _ => 0) fun i _ => Int.zero_mul _, sm_zero]
    symm
    rw [sm_congr (g := fun _ => 0) fun i hi => ?_, sm_zero]
    rw [sm_congr (g := fun _ => 0) fun j hj => ?_, sm_zero]
    have hi := List.mem_range.mp hi
    have hj := List.mem_range.mp hj
    by_cases e : i = j
    · rw [← e, fm.z i hi, Int.zero_mul]
    · by_cases z : 0 < C i j
      · have := (F.off hi hj e z).2
        rw [ne] at this
        cases this
      · have := F.nn i hi j hj
        rw [show C i j = 0 by omega, Int.mul_zero]
  · exact key (prc n o t c π) (fun i hi j hj => prc_lip fm ne hi hj) (prc_earns fm F P)
end
end KA
set_option maxHeartbeats 4000000
namespace KA
open FL PO
section
variable {n m : Nat} {d e D E K : Tb} {p q r u : Nat → Rat} {f w v a : Rat}
open Classical in
noncomputable def Wo (n : Nat) (d : Tb) (p q : Nat → Rat) : Rat := if h : ∃ w, Opt n d p q w then choose h else 0
theorem Wo_is (h : Opt n d p q w) : Wo n d p q = w := by
  unfold Wo
  rw [dif_pos ⟨w, h⟩]
  exact (Classical.choose_spec (⟨w, h⟩ : ∃ w, Opt n d p q w)).one h
theorem whole_num {D : Nat} {x : Rat} (h : Whole D x) : (((x * (D : Rat)).num : Int) : Rat) = x * (D : Rat) := by
  obtain ⟨t, e⟩ := h
  rw [e]
  simp
theorem scl_ex (d : Tb) (n : Nat) : ∃ b c, Scl n d b c := by
  obtain ⟨b, b0, h⟩ := one_bottom2 d n n
  exact ⟨b, fun i j => (d i j * (b : Rat)).num, b0, fun i hi j hj => whole_num (h i hi j hj)⟩
theorem sc1_ex (p q : Nat → Rat) (n : Nat) : ∃ w o t, Sc1 n p w o ∧ Sc1 n q w t := by
  obtain ⟨b, b0, h⟩ := one_bottom p n
  obtain ⟨c, c0, k⟩ := one_bottom q n
  exact ⟨b * c, fun i => (p i * ((b * c : Nat) : Rat)).num, fun i => (q i * ((b * c : Nat) : Rat)).num, ⟨Nat.mul_pos b0 c0, fun i hi => whole_num (whole_mul (h i hi))⟩, ⟨Nat.mul_pos b0 c0, fun i hi => whole_num (whole_mul' (k i hi))⟩⟩
theorem sc1_nn {o : Nat → Int} {k : Nat} (s : Sc1 n p k o) (h : ∀ i, i < n → 0 ≤ p i) {i : Nat} (hi : i < n) : 0 ≤ o i := by
  have kp : (0 : Rat) ≤ (k : Rat) := by exact_mod_cast Nat.zero_le k
  have := Rat.mul_nonneg (h i hi) kp
  rw [← s.e i hi] at this
  exact_mod_cast this
theorem sc1_sum {o t : Nat → Int} {k : Nat} (s : Sc1 n p k o) (s' : Sc1 n q k t) (h : sr n p = sr n q) : sm (List.range n) o = sm (List.range n) t := by
  have e1 : ((sm (List.range n) o : Int) : Rat) = sr n p * k := by rw [sr_cast, ← sr_mul]; exact sr_congr fun i hi => s.e i hi
  have e2 : ((sm (List.range n) t : Int) : Rat) = sr n q * k := by rw [sr_cast, ← sr_mul]; exact sr_congr fun i hi => s'.e i hi
  rw [h, ← e2] at e1
  exact_mod_cast e1
/-- by bottoms of one's own -/
theorem opt_by {o t : Nat → Int} {k : Nat} (M : Met n d) (s : Sc1 n p k o) (s' : Sc1 n q k t) (hp : ∀ i, i < n → 0 ≤ p i) (hq : ∀ i, i < n → 0 ≤ q i) (h : sr n p = sr n q) : ∃ C, Flow n o t C ∧ Opt n d p q (cst n d (dv k C)) := by
  obtain ⟨b, c, sc⟩ := scl_ex d n
  have fm := sc.met M
  have hs := sc1_sum s s' h
  obtain ⟨C, F, π, P⟩ := flow_ex (c := c) (fun i hi => ⟨sc1_nn s hp hi, sc1_nn s' hq hi⟩) hs fun i hi j hj => fm.nn hi hj
  exact ⟨C, F, opt_flow M sc s s' F hs P⟩
theorem opt_ex (M : Met n d) (hp : ∀ i, i < n → 0 ≤ p i) (hq : ∀ i, i < n → 0 ≤ q i) (h : sr n p = sr n q) : Opt n d p q (Wo n d p q) := by
  obtain ⟨w, o, t, s, s'⟩ := sc1_ex p q n
  obtain ⟨C, F, O⟩ := opt_by M s s' hp hq h
  rw [Wo_is O]
  exact O
structure Mcn (n : Nat) (lk : Nat → Nat → Bool) (P : Tb) (f : Rat) : Prop where
  rf : ∀ i, lk i i = true
  sy : ∀ i j, lk i j = lk j i
  tr : ∀ i j k, lk i j = true → lk j k = true → lk i k = true
  nn : ∀ i, i < n → ∀ j, j < n → 0 ≤ P i j
  su : ∀ i, i < n → sr n (P i) = 1
  f0 : 0 < f
  f1 : f < 1
noncomputable def nxt (n : Nat) (lk : Nat → Nat → Bool) (P : Tb) (f : Rat) (d : Tb) : Tb := fun i j => if i = j then 0 else if lk i j = true then f * Wo n d (P i) (P j) else 1
variable {lk : Nat → Nat → Bool} {P : Tb}
theorem Mcn.opt (h : Mcn n lk P f) (M : Met n d) {i j : Nat} (hi : i < n) (hj : j < n) : Opt n d (P i) (P j) (Wo n d (P i) (P j)) :=
  opt_ex M (h.nn i hi) (h.nn j hj) ((h.su i hi).trans (h.su j hj).symm)
theorem nxt_like (h : Mcn n lk P f) (M : Met n d) {i j : Nat} (hi : i < n) (hj : j < n) (l : lk i j = true) : nxt n lk P f d i j = f * Wo n d (P i) (P j) := by
  unfold nxt
  by_cases e : i = j
  · subst e
    rw [if_pos rfl, (h.opt M hi hi).same fun _ _ => rfl, Rat.mul_zero]
  · rw [if_neg e, if_pos l]
theorem nxt_no {i j : Nat} (l : lk i j = false) (e : i ≠ j) : nxt n lk P f d i j = 1 := by
  unfold nxt
  rw [if_neg e, if_neg (by rw [l]; decide)]
theorem Mcn.ne (h : Mcn n lk P f) {i j : Nat} (l : lk i j = false) : i ≠ j := fun e => by
  subst e
  rw [h.rf i] at l
  cases l
theorem nxt_met (h : Mcn n lk P f) (M : Met n d) (b : ∀ i, i < n → ∀ j, j < n → d i j ≤ 1) : Met n (nxt n lk P f d) ∧ ∀ i, i < n → ∀ j, j < n → nxt n lk P f d i j ≤ 1 := by
  have f0 := h.f0
  have f1 := h.f1
  have nn : ∀ i, i < n → ∀ j, j < n → 0 ≤ Wo n d (P i) (P j) := fun i hi j hj => (h.opt M hi hj).nn M
  have lo : ∀ i, i < n → ∀ j, j < n → Wo n d (P i) (P j) ≤ 1 := fun i hi j hj => (h.opt M hi hj).top (h.su i hi) b
  have le1 : ∀ i, i < n → ∀ j, j < n → f * Wo n d (P i) (P j) ≤ 1 := fun i hi j hj => by
    have h1 := Rat.mul_le_mul_of_nonneg_left (lo i hi j hj) (Rat.le_of_lt f0)
    grind
  have ge0 : ∀ i, i < n → ∀ j, j < n → 0 ≤ f * Wo n d (P i) (P j) := fun i hi j hj => Rat.mul_nonneg (Rat.le_of_lt f0) (nn i hi j hj)
  have ge : ∀ i, i < n → ∀ j, j < n → 0 ≤ nxt n lk P f d i j := fun i hi j hj => by
    cases l : lk i j with
    | true => rw [nxt_like h M hi hj l]; exact ge0 i hi j hj
    | false => rw [nxt_no l (h.ne l)]; decide
  refine ⟨⟨fun i hi => if_pos rfl, fun i hi j hj => ?_, fun i hi j hj k hk => ?_⟩, fun i hi j hj => ?_⟩
  · cases l : lk i j with
    | true => rw [nxt_like h M hi hj l, nxt_like h M hj hi (by rw [h.sy, l]), Wo_is ((h.opt M hi hj).swap M)]
    | false => rw [nxt_no l (h.ne l), nxt_no (by rw [h.sy, l]) (h.ne l).symm]
  · cases l : lk i j with
    | true =>
      rw [nxt_like h M hi hj l]
      cases l2 : lk i k with
      | true =>
        have l3 : lk k j = true := h.tr k i j (by rw [h.sy, l2]) l
        rw [nxt_like h M hi hk l2, nxt_like h M hk hj l3]
        have := Rat.mul_le_mul_of_nonneg_left ((h.opt M hi hk).tri (h.opt M hk hj) (h.opt M hi hj)) (Rat.le_of_lt f0)
        grind
      | false =>
        rw [nxt_no l2 (h.ne l2)]
        have h1 := le1 i hi j hj
        have h2 := ge k hk j hj
        grind
    | false =>
      rw [nxt_no l (h.ne l)]
      cases l2 : lk i k with
      | true =>
        cases l3 : lk k j with
        | true =>
          have := h.tr i k j l2 l3
          rw [l] at this
          cases this
        | false =>
          rw [nxt_no l3 (h.ne l3)]
          have h2 := ge i hi k hk
          grind
      | false =>
        rw [nxt_no l2 (h.ne l2)]
        have h2 := ge k hk j hj
        grind
  · cases l : lk i j with
    | true => rw [nxt_like h M hi hj l]; exact le1 i hi j hj
    | false => rw [nxt_no l (h.ne l)]; exact Rat.le_refl
noncomputable def stp (n : Nat) (lk : Nat → Nat → Bool) (P : Tb) (f : Rat) : Nat → Tb
  | 0 => fun _ _ => 0
  | k + 1 => nxt n lk P f (stp n lk P f k)
theorem met0 : Met n fun _ _ => 0 := ⟨fun _ _ => rfl, fun _ _ _ _ => rfl, fun _ _ _ _ _ _ => by grind⟩
theorem stp_met (h : Mcn n lk P f) : ∀ k, Met n (stp n lk P f k) ∧ ∀ i, i < n → ∀ j, j < n → stp n lk P f k i j ≤ 1
  | 0 => ⟨met0, fun _ _ _ _ => by show (0 : Rat) ≤ 1; decide⟩
  | k + 1 => nxt_met h (stp_met h k).1 (stp_met h k).2
/-- powers of a fade -/
def pw (f : Rat) : Nat → Rat
  | 0 => 1
  | k + 1 => f * pw f k
theorem pw_nn (h : 0 < f) : ∀ k, 0 ≤ pw f k
  | 0 => by show (0 : Rat) ≤ 1; decide
  | k + 1 => Rat.mul_nonneg (Rat.le_of_lt h) (pw_nn h k)
theorem nat_over (x : Rat) : ∃ k : Nat, x ≤ (k : Rat) := by
  refine ⟨x.num.natAbs, ?_⟩
  have h1 := mul_den x
  have dp : (1 : Rat) ≤ (x.den : Rat) := by exact_mod_cast x.den_pos
  by_cases z : x ≤ 0
  · have : (0 : Rat) ≤ (x.num.natAbs : Rat) := by exact_mod_cast Nat.zero_le _
    grind
  · have xp : 0 ≤ x := by grind
    have h2 : ((x.num : Int) : Rat) ≤ ((x.num.natAbs : Nat) : Rat) := by
      rw [← Rat.intCast_natCast]
      exact Rat.intCast_le_intCast.mpr (by omega)
    have h3 := Rat.mul_le_mul_of_nonneg_right dp xp
    rw [Rat.mul_comm (x.den : Rat) x, h1] at h3
    grind
theorem pw_small (f0 : 0 < f) (f1 : f < 1) {x : Rat} (x0 : 0 < x) : ∃ k, pw f k < x := by
  have fn : f ≠ 0 := fun z => by grind
  have fi : f * f⁻¹ = 1 := Rat.mul_inv_cancel f fn
  have hp : 0 < f⁻¹ - 1 := by
    have : 0 < f⁻¹ := Rat.inv_pos.mpr f0
    have h2 := Rat.mul_lt_mul_of_pos_right f1 this
    grind
  generalize hh : f⁻¹ - 1 = h at hp
  have fh : f * (1 + h) = 1 := by grind
  have b : ∀ k : Nat, pw f k * (1 + (k : Rat) * h) ≤ 1 := fun k => by
    induction k with
    | zero => show (1 : Rat) * (1 + ((0 : Nat) : Rat) * h) ≤ 1; simp; grind
    | succ k ih =>
      show f * pw f k * (1 + ((k + 1 : Nat) : Rat) * h) ≤ 1
      have kn : (0 : Rat) ≤ (k : Rat) := by exact_mod_cast Nat.zero_le k
      have e : f * pw f k * (1 + ((k + 1 : Nat) : Rat) * h) = pw f k * (f * (1 + h) + f * ((k : Rat) * h)) := by
        rw [Rat.natCast_add]
        simp only [Rat.natCast_ofNat]
        grind
      rw [e, fh]
      have h1 : f * ((k : Rat) * h) ≤ 1 * ((k : Rat) * h) := Rat.mul_le_mul_of_nonneg_right (Rat.le_of_lt f1) (Rat.mul_nonneg kn (Rat.le_of_lt hp))
      have h2 : pw f k * (1 + f * ((k : Rat) * h)) ≤ pw f k * (1 + (k : Rat) * h) := Rat.mul_le_mul_of_nonneg_left (by grind) (pw_nn f0 k)
      grind
  obtain ⟨k, hk⟩ := nat_over ((x * h)⁻¹)
  have xh : 0 < x * h := Rat.mul_pos x0 hp
  refine ⟨k, ?_⟩
  have h1 := b k
  by_cases z : pw f k < x
  · exact z
  · exfalso
    have z : x ≤ pw f k := by grind
    have kn : (0 : Rat) ≤ (k : Rat) := by exact_mod_cast Nat.zero_le k
    have p1 : 0 ≤ 1 + (k : Rat) * h := by
      have := Rat.mul_nonneg kn (Rat.le_of_lt hp)
      grind
    have h2 := Rat.mul_le_mul_of_nonneg_right z p1
    have h3 := Rat.mul_le_mul_of_nonneg_right hk (Rat.le_of_lt xh)
    rw [Rat.inv_mul_cancel (x * h) (fun z => by grind)] at h3
    grind
theorem arch (f0 : 0 < f) (f1 : f < 1) {x y a : Rat} (h : ∀ k, x ≤ y + a * pw f k) : x ≤ y := by
  by_cases z : x ≤ y
  · exact z
  · exfalso
    have d : 0 < x - y := by grind
    by_cases a0 : a ≤ 0
    · have h1 := h 0
      have : a * pw f 0 ≤ 0 := by show a * 1 ≤ 0; grind
      grind
    · have ap : 0 < a := by grind
      have ai : 0 < a⁻¹ := Rat.inv_pos.mpr ap
      obtain ⟨k, hk⟩ := pw_small f0 f1 (x := (x - y) * a⁻¹) (Rat.mul_pos d ai)
      have h1 := h k
      have h2 := Rat.mul_lt_mul_of_pos_right hk ap
      have h3 : (x - y) * a⁻¹ * a = x - y := by rw [Rat.mul_assoc, Rat.inv_mul_cancel a (fun z => by grind), Rat.mul_one]
      grind
theorem nxt_mono (h : Mcn n lk P f) (M : Met n d) (M' : Met n e) (le : ∀ i, i < n → ∀ j, j < n → d i j ≤ e i j) : ∀ i, i < n → ∀ j, j < n → nxt n lk P f d i j ≤ nxt n lk P f e i j := fun i hi j hj => by
  cases l : lk i j with
  | true =>
    rw [nxt_like h M hi hj l, nxt_like h M' hi hj l]
    exact Rat.mul_le_mul_of_nonneg_left ((h.opt M hi hj).mono (h.opt M' hi hj) le) (Rat.le_of_lt h.f0)
  | false => rw [nxt_no l (h.ne l), nxt_no l (h.ne l)]; exact Rat.le_refl
theorem nxt_near (h : Mcn n lk P f) (M : Met n d) (M' : Met n e) (a0 : 0 ≤ a) (le : ∀ i, i < n → ∀ j, j < n → d i j ≤ e i j + a) : ∀ i, i < n → ∀ j, j < n → nxt n lk P f d i j ≤ nxt n lk P f e i j + f * a := fun i hi j hj => by
  have fa := Rat.mul_nonneg (Rat.le_of_lt h.f0) a0
  cases l : lk i j with
  | true =>
    rw [nxt_like h M hi hj l, nxt_like h M' hi hj l]
    have := Rat.mul_le_mul_of_nonneg_left ((h.opt M hi hj).near (h.opt M' hi hj) (h.su i hi) le) (Rat.le_of_lt h.f0)
    grind
  | false => rw [nxt_no l (h.ne l), nxt_no l (h.ne l)]; grind
structure Fx (n : Nat) (lk : Nat → Nat → Bool) (P : Tb) (f : Rat) (D : Tb) : Prop where
  M : Met n D
  b : ∀ i, i < n → ∀ j, j < n → D i j ≤ 1
  e : ∀ i, i < n → ∀ j, j < n → D i j = nxt n lk P f D i j
theorem Fx.over (h : Mcn n lk P f) (x : Fx n lk P f D) : ∀ k i, i < n → ∀ j, j < n → stp n lk P f k i j ≤ D i j
  | 0, i, hi, j, hj => x.M.nn hi hj
  | k + 1, i, hi, j, hj => by
    rw [x.e i hi j hj]
    exact nxt_mono h (stp_met h k).1 x.M (Fx.over h x k) i hi j hj
theorem Fx.near (h : Mcn n lk P f) (x : Fx n lk P f D) : ∀ k i, i < n → ∀ j, j < n → D i j ≤ stp n lk P f k i j + pw f k
  | 0, i, hi, j, hj => by
    have := x.b i hi j hj
    show D i j ≤ 0 + 1
    grind
  | k + 1, i, hi, j, hj => by
    rw [x.e i hi j hj]
    exact nxt_near h x.M (stp_met h k).1 (pw_nn h.f0 k) (Fx.near h x k) i hi j hj
theorem Fx.one (h : Mcn n lk P f) (x : Fx n lk P f D) (y : Fx n lk P f E) : ∀ i, i < n → ∀ j, j < n → D i j = E i j := fun i hi j hj => by
  have h1 : D i j ≤ E i j := arch h.f0 h.f1 (a := 1) fun k => by
    have := x.near h k i hi j hj
    have := y.over h k i hi j hj
    grind
  have h2 : E i j ≤ D i j := arch h.f0 h.f1 (a := 1) fun k => by
    have := y.near h k i hi j hj
    have := x.over h k i hi j hj
    grind
  grind
/-- what the choosing of carryings comes to -/
structure Sol (n : Nat) (lk : Nat → Nat → Bool) (P : Tb) (f : Rat) (D : Tb) : Prop where
  z : ∀ i, i < n → D i i = 0
  sy : ∀ i, i < n → ∀ j, j < n → D i j = D j i
  un : ∀ i, i < n → ∀ j, j < n → lk i j = false → D i j = 1
  is : ∀ i j, i < j → j < n → lk i j = true → ∃ K, Cpl n (P i) (P j) K ∧ D i j = f * cst n D K
  le : ∀ i j, i < j → j < n → lk i j = true → ∀ d, Met n d → ∃ K, Cpl n (P i) (P j) K ∧ cst n d K = Wo n d (P i) (P j) ∧ D i j ≤ f * cst n D K
theorem bound1 (g : Nat → Rat) : ∀ m, ∃ a : Rat, 0 ≤ a ∧ ∀ i, i < m → g i ≤ a ∧ 0 ≤ g i + a
  | 0 => ⟨0, Rat.le_refl, fun i h => absurd h (Nat.not_lt_zero _)⟩
  | m + 1 => by
    obtain ⟨a, a0, h⟩ := bound1 g m
    by_cases z : 0 ≤ g m
    · refine ⟨a + g m, by grind, fun i hi => ?_⟩
      by_cases e : i = m
      · subst e; constructor <;> grind
      · have := h i (by omega); constructor <;> grind
    · refine ⟨a + - g m, by grind, fun i hi => ?_⟩
      by_cases e : i = m
      · subst e; constructor <;> grind
      · have := h i (by omega); constructor <;> grind
theorem bound2 (D : Tb) (n : Nat) : ∀ m, ∃ a : Rat, 0 ≤ a ∧ ∀ i, i < m → ∀ j, j < n → D i j ≤ a ∧ 0 ≤ D i j + a
  | 0 => ⟨0, Rat.le_refl, fun i h => absurd h (Nat.not_lt_zero _)⟩
  | m + 1 => by
    obtain ⟨a, a0, h⟩ := bound2 D n m
    obtain ⟨c, c0, k⟩ := bound1 (D m) n
    refine ⟨a + c, by grind, fun i hi j hj => ?_⟩
    by_cases e : i = m
    · subst e; have := k j hj; constructor <;> grind
    · have := h i (by omega) j hj; constructor <;> grind
theorem Sol.near (h : Mcn n lk P f) (s : Sol n lk P f D) {a : Rat} (a0 : 0 ≤ a) (ha : ∀ i, i < n → ∀ j, j < n → D i j ≤ a ∧ 0 ≤ D i j + a) : ∀ k i, i < n → ∀ j, j < n → stp n lk P f k i j ≤ D i j + a * pw f k ∧ D i j ≤ stp n lk P f k i j + a * pw f k
  | 0, i, hi, j, hj => by
    have := ha i hi j hj
    show (0 : Rat) ≤ D i j + a * 1 ∧ D i j ≤ 0 + a * 1
    constructor <;> grind
  | k + 1, i, hi, j, hj => by
    have ih := Sol.near h s a0 ha k
    have M := (stp_met h k).1
    have pn := Rat.mul_nonneg a0 (pw_nn h.f0 (k + 1))
    have main : ∀ i j, i < j → j < n → lk i j = true → stp n lk P f (k + 1) i j ≤ D i j + a * pw f (k + 1) ∧ D i j ≤ stp n lk P f (k + 1) i j + a * pw f (k + 1) := fun i j ij hj l => by
      have hi : i < n := by omega
      have e : stp n lk P f (k + 1) i j = f * Wo n (stp n lk P f k) (P i) (P j) := nxt_like h M hi hj l
      rw [e]
      constructor
      · obtain ⟨K, c, x⟩ := s.is i j ij hj l
        have h1 := (h.opt M hi hj).le c
        have h2 := cst_le (K := K) (fun i hi j hj => (ih i hi j hj).1) c.nn
        rw [cst_add c, h.su i hi] at h2
        have h3 := Rat.mul_le_mul_of_nonneg_left (Rat.le_trans h1 h2) (Rat.le_of_lt h.f0)
        rw [x]
        show _ ≤ _ + a * (f * pw f k)
        grind
      · obtain ⟨K, c, x, y⟩ := s.le i j ij hj l _ M
        have h2 := cst_le (K := K) (fun i hi j hj => (ih i hi j hj).2) c.nn
        rw [cst_add c, h.su i hi, x] at h2
        have h3 := Rat.mul_le_mul_of_nonneg_left h2 (Rat.le_of_lt h.f0)
        show _ ≤ _ + a * (f * pw f k)
        grind
    have M' := (stp_met h (k + 1)).1
    cases l : lk i j with
    | false =>
      have e : stp n lk P f (k + 1) i j = 1 := nxt_no l (h.ne l)
      rw [e, s.un i hi j hj l]
      constructor <;> grind
    | true =>
      rcases Nat.lt_trichotomy i j with ij | ij | ij
      · exact main i j ij hj l
      · subst ij
        rw [M'.z i hi, s.z i hi]
        constructor <;> grind
      · rw [M'.sy i hi j hj, s.sy i hi j hj]
        exact main j i ij hi (by rw [h.sy, l])
theorem Sol.fx (h : Mcn n lk P f) (s : Sol n lk P f D) : Fx n lk P f D := by
  obtain ⟨a, a0, ha⟩ := bound2 D n n
  have nr := s.near h a0 ha
  have M : Met n D := ⟨s.z, s.sy, fun i hi j hj k hk => arch h.f0 h.f1 (a := 3 * a) fun m => by
    have h1 := (nr m i hi j hj).2
    have h2 := (nr m i hi k hk).1
    have h3 := (nr m k hk j hj).1
    have h4 := (stp_met h m).1.tr i hi j hj k hk
    grind⟩
  refine ⟨M, fun i hi j hj => arch h.f0 h.f1 (a := a) fun m => ?_, fun i hi j hj => ?_⟩
  · have h1 := (nr m i hi j hj).2
    have h2 := (stp_met h m).2 i hi j hj
    grind
  · have main : ∀ i j, i < j → j < n → lk i j = true → D i j = f * Wo n D (P i) (P j) := fun i j ij hj l => by
      have hi : i < n := by omega
      obtain ⟨K, c, x⟩ := s.is i j ij hj l
      obtain ⟨K', c', x', y⟩ := s.le i j ij hj l _ M
      rw [x'] at y
      have h1 := Rat.mul_le_mul_of_nonneg_left ((h.opt M hi hj).le c) (Rat.le_of_lt h.f0)
      grind
    cases l : lk i j with
    | false => rw [nxt_no l (h.ne l), s.un i hi j hj l]
    | true =>
      rw [nxt_like h M hi hj l]
      rcases Nat.lt_trichotomy i j with ij | ij | ij
      · exact main i j ij hj l
      · subst ij
        rw [s.z i hi, (h.opt M hi hi).same fun _ _ => rfl, Rat.mul_zero]
      · rw [s.sy i hi j hj, main j i ij hi (by rw [h.sy, l]), Wo_is ((h.opt M hi hj).swap M)]
end
end KA
set_option maxHeartbeats 4000000
namespace NT
open PySem SL NF
variable [PW]
variable {ca : Nat → Addr} {S : Sto} {zs : List Str} {xss : List (List Rat)} {f0 f1 : Int}
def lkM (zs : List Str) (i j : Nat) : Bool := decide (zs.getD i Str.empty = zs.getD j Str.empty)
def NM (zs : List Str) : Nat := (lkp zs.length (lkM zs)).length
def prM (zs : List Str) (k : Nat) : Nat × Nat := (lkp zs.length (lkM zs)).getD k (0, 0)
theorem getD_of {α : Type} {l : List α} {k : Nat} {d : α} (h : k < l.length) : l[k]? = some (l.getD k d) := by
  rw [List.getD_eq_getElem?_getD, List.getElem?_eq_getElem h]
  rfl
theorem prM_get {k : Nat} (h : k < NM zs) : (lkp zs.length (lkM zs))[k]? = some (prM zs k) := getD_of h
theorem prM_mem {k : Nat} (h : k < NM zs) : (prM zs k).1 < (prM zs k).2 ∧ (prM zs k).2 < zs.length ∧ lkM zs (prM zs k).1 (prM zs k).2 = true := mem_lkp.mp (List.mem_of_getElem? (prM_get h))
theorem prs_ok : PO.Prs (prM zs) (NM zs) zs.length := ⟨fun k hk l hl e => (List.getElem?_inj hk (lkp_nodup _ _)).mp (by rw [prM_get hk, prM_get hl, e]), fun k hk => ⟨(prM_mem hk).1, (prM_mem hk).2.1⟩⟩
theorem sumR_snoc (x : Rat) : ∀ a : List Rat, sumR (a ++ [x]) = sumR a + x
  | [] => by simp [sumR]; grind
  | y :: a => by
    show y + sumR (a ++ [x]) = (y + sumR a) + x
    rw [sumR_snoc x a]
    grind
theorem sr_range (f : Nat → Rat) : ∀ n, PO.sr n f = sumR ((List.range n).map f)
  | 0 => rfl
  | n + 1 => by rw [PO.sr, sr_range f n, List.range_succ, List.map_append, List.map_cons, List.map_nil, sumR_snoc]
theorem sr_list {xs : List Rat} {n : Nat} (h : xs.length = n) : PO.sr n (fun i => xs.getD i 0) = sumR xs := by
  rw [sr_range]
  congr 1
  exact (range_ext h fun i hi => getD_of (by omega)).symm
section
variable {xs : List Rat} {n c : Nat}
theorem tp_cast (h : ∀ x ∈ xs, x.den ∣ c) (c0 : 0 < c) {i : Nat} (hi : i < xs.length) : ((tp c xs i : Int) : Rat) = xs.getD i 0 * (c : Rat) := by
  have m : xs.getD i 0 ∈ xs := List.mem_of_getElem? (getD_of hi)
  exact top_cast (h _ m) c0
theorem tp_nn (h : ∀ x ∈ xs, 0 ≤ x.num) (i : Nat) : 0 ≤ tp c xs i := by
  unfold tp
  refine Int.mul_nonneg ?_ (Int.natCast_nonneg _)
  by_cases hi : i < xs.length
  · exact h _ (List.mem_of_getElem? (getD_of hi))
  · rw [List.getD_eq_getElem?_getD, List.getElem?_eq_none (by omega)]
    exact Int.le_refl _
theorem tp_sum (hl : xs.length = n) (h : ∀ x ∈ xs, x.den ∣ c) (c0 : 0 < c) (h1 : sumR xs = 1) : FL.sm (List.range n) (tp c xs) = (c : Int) := by
  have e : ((FL.sm (List.range n) (tp c xs) : Int) : Rat) = ((c : Int) : Rat) := by
    rw [PO.sr_cast, PO.sr_congr (g := fun i => xs.getD i 0 * (c : Rat)) fun i hi => tp_cast h c0 (by omega), PO.sr_mul, sr_list hl, h1, Rat.intCast_natCast]
    grind
  exact Rat.intCast_inj.mp e
end
def wM (zs : List Str) (xss : List (List Rat)) (k : Nat) : Nat := wh (xss.getD (prM zs k).1 []) (xss.getD (prM zs k).2 [])
def oM (zs : List Str) (xss : List (List Rat)) (k : Nat) : Nat → Int := tp (wM zs xss k) (xss.getD (prM zs k).1 [])
def tM (zs : List Str) (xss : List (List Rat)) (k : Nat) : Nat → Int := tp (wM zs xss k) (xss.getD (prM zs k).2 [])
/-- what is known of two rows of shares -/
theorem row_shs (g : Good zs xss) {r : Nat} (hr : r < zs.length) : (xss.getD r []).length = zs.length ∧ (∀ x ∈ xss.getD r [], Shr x) ∧ sumR (xss.getD r []) = 1 := by
  have m : xss.getD r [] ∈ xss := List.mem_of_getElem? (getD_of (by rw [g.2.2.2.1]; exact hr))
  exact g.2.2.2.2 _ m
theorem wh_pos (qs rs : List Rat) : 0 < wh qs rs := lcmL_pos _ 1 (by decide)
theorem wh_dvd {qs rs : List Rat} : (∀ x ∈ qs, x.den ∣ wh qs rs) ∧ ∀ x ∈ rs, x.den ∣ wh qs rs := ⟨fun x hx => (dvd_lcmL (qs ++ rs) 1).2 x (List.mem_append_left _ hx), fun x hx => (dvd_lcmL (qs ++ rs) 1).2 x (List.mem_append_right _ hx)⟩
theorem oM_sum (g : Good zs xss) {k : Nat} (hk : k < NM zs) : FL.sm (List.range zs.length) (oM zs xss k) = (wM zs xss k : Int) ∧ FL.sm (List.range zs.length) (tM zs xss k) = (wM zs xss k : Int) := by
  obtain ⟨h1, h2, _⟩ := prM_mem hk
  have a := row_shs g (show (prM zs k).1 < zs.length by omega)
  have b := row_shs g h2
  exact ⟨tp_sum a.1 wh_dvd.1 (wh_pos _ _) a.2.2, tp_sum b.1 wh_dvd.2 (wh_pos _ _) b.2.2⟩
theorem oM_nn (g : Good zs xss) {k : Nat} (hk : k < NM zs) (i : Nat) : 0 ≤ oM zs xss k i ∧ 0 ≤ tM zs xss k i := by
  obtain ⟨h1, h2, _⟩ := prM_mem hk
  have a := row_shs g (show (prM zs k).1 < zs.length by omega)
  have b := row_shs g h2
  exact ⟨tp_nn (fun x hx => (a.2.1 x hx).1) i, tp_nn (fun x hx => (b.2.1 x hx).1) i⟩
structure FadeI (f0 f1 : Int) : Prop where
  p : 0 < f0
  lt : f0 < f1
  le : f1 ≤ 999
end NT
set_option maxHeartbeats 4000000
namespace NT
open PySem SL NF
variable [PW]
variable {ca : Nat → Addr} {S : Sto} {zs : List Str} {xss : List (List Rat)} {f0 f1 : Int}
instance : Inhabited FL.Mx := ⟨fun _ _ => 0⟩
noncomputable abbrev gapM (zs : List Str) (tops : Nat → Int) (bottom : Int) : FL.Mx := PO.gap (prM zs) (NM zs) tops bottom
noncomputable abbrev vcM (zs : List Str) (C : FL.Mx) (x : Nat → Rat) : Rat := PO.vc (prM zs) (NM zs) zs.length C x
abbrev FlowM (zs : List Str) (xss : List (List Rat)) (k : Nat) (C : FL.Mx) : Prop := FL.Flow zs.length (oM zs xss k) (tM zs xss k) C
/-- how it stands ahead of each choice -/
structure GI (zs : List Str) (xss : List (List Rat)) (f0 f1 : Int) (D B : Nat) (tops : Nat → Int) (bottom : Int) (x : Nat → Rat) : Prop where
  b0 : 0 < bottom
  bp : 0 < B
  bl : B ≤ 2114
  bB : bottom.natAbs < 2 ^ B
  xt : ∀ k, k < NM zs → (tops k : Rat) = x k * bottom
  x0 : ∀ k, k < NM zs → 0 ≤ x k
  x1 : ∀ k, k < NM zs → x k ≤ 1
  whole : ∀ k, k < NM zs → PO.Whole D (x k)
  su : ∀ p, p < NM zs → ∀ C, FlowM zs xss p C → (∀ E, FlowM zs xss p E → vcM zs C x ≤ vcM zs E x) → (f0 : Rat) * vcM zs C x ≤ f1 * ((wM zs xss p : Int) : Rat) * x p
section
variable {D B : Nat} {tops : Nat → Int} {bottom : Int} {x : Nat → Rat}
theorem GI.b9 (h : GI zs xss f0 f1 D B tops bottom x) : bottom.natAbs < 2 ^ 2114 := Nat.lt_of_lt_of_le h.bB (Nat.pow_le_pow_right (by decide) h.bl)
theorem GI.tl (h : GI zs xss f0 f1 D B tops bottom x) {k : Nat} (hk : k < NM zs) : 0 ≤ tops k ∧ tops k ≤ bottom := by
  have hb : (0 : Rat) ≤ (bottom : Rat) := Rat.intCast_le_intCast.mpr (Int.le_of_lt h.b0)
  constructor
  · refine Rat.intCast_le_intCast.mp ?_
    rw [h.xt k hk]
    exact Rat.mul_nonneg (h.x0 k hk) hb
  · refine Rat.intCast_le_intCast.mp ?_
    rw [h.xt k hk]
    have := Rat.mul_le_mul_of_nonneg_right (h.x1 k hk) hb
    grind
theorem GI.cost (h : GI zs xss f0 f1 D B tops bottom x) (C : FL.Mx) : ((FL.cost zs.length (gapM zs tops bottom) C : Int) : Rat) = vcM zs C x * bottom := PO.cost_vc h.b0 h.xt
theorem GI.best (h : GI zs xss f0 f1 D B tops bottom x) {C E : FL.Mx} (hc : FL.cost zs.length (gapM zs tops bottom) C ≤ FL.cost zs.length (gapM zs tops bottom) E) : vcM zs C x ≤ vcM zs E x := by
  have e1 := Rat.intCast_le_intCast.mpr hc
  rw [h.cost, h.cost] at e1
  exact Rat.le_of_mul_le_mul_right e1 (Rat.intCast_lt_intCast.mpr h.b0)
theorem row_key {i j : Nat} (h : i < j) : PO.key i j = (i, j) := by
  unfold PO.key
  rw [Nat.min_eq_left (by omega), Nat.max_eq_right (by omega)]
theorem GI.pair (h : GI zs xss f0 f1 D B tops bottom x) {k : Nat} (hk : k < NM zs) : gapM zs tops bottom (prM zs k).1 (prM zs k).2 = tops k := PO.gap_pair prs_ok hk (row_key (prM_mem hk).1).symm
theorem GI.sz (h : GI zs xss f0 f1 D B tops bottom x) {k : Nat} (hk : k < NM zs) : Sz B (x k) := by
  have b0 := h.b0
  refine Ml.sz (N := bottom.natAbs) ⟨tops k, ?_⟩ (by omega) (h.x0 k hk) (h.x1 k hk) h.bB
  rw [h.xt k hk, ← Rat.intCast_natCast]
  congr 2
  omega
end
end NT
set_option maxHeartbeats 4000000
namespace NT
open PySem SL NF
variable [PW]
variable {ca : Nat → Addr} {S : Sto} {zs : List Str} {xss : List (List Rat)} {f0 f1 : Int}
variable {D B : Nat} {tops : Nat → Int} {bottom : Int} {x : Nat → Rat}
/-- the flows of a choice -/
def BestM (zs : List Str) (xss : List (List Rat)) (tops : Nat → Int) (bottom : Int) (k : Nat) (C : FL.Mx) : Prop := FlowM zs xss k C ∧ ∀ E, FlowM zs xss k E → FL.cost zs.length (gapM zs tops bottom) C ≤ FL.cost zs.length (gapM zs tops bottom) E
end NT
set_option maxHeartbeats 4000000
namespace NT
open PySem SL NF
variable [PW]
variable {ca : Nat → Addr} {S : Sto} {zs : List Str} {xss : List (List Rat)} {f0 f1 : Int}
variable {D B : Nat} {tops : Nat → Int} {bottom : Int} {x : Nat → Rat}
/-- the next gaps -/
theorem GI.next (g : Good zs xss) (F : FadeI f0 f1) (h : GI zs xss f0 f1 D B tops bottom x) (hD : ∀ d, 0 < d → d < 2 ^ B → d ∣ D) {C : Nat → FL.Mx} (hC : ∀ k, k < NM zs → BestM zs xss tops bottom k (C k))
    (ne : ¬ ∀ k, k < NM zs → f0 * FL.cost zs.length (gapM zs tops bottom) (C k) = gapM zs tops bottom (prM zs k).1 (prM zs k).2 * (f1 * (wM zs xss k : Int))) {d : Int} {R : Nat → BA.Row}
    (c : BA.Cl (PO.eqA (prM zs) (NM zs) zs.length f0 f1 (fun k => (wM zs xss k : Int)) C) (NM zs) (NM zs) d R) (d9 : d.natAbs < 2 ^ B) {t' : Nat → Int} {b' : Int} (b0 : 0 < b') (b9 : b'.natAbs < 2 ^ B) (xt : ∀ k, k < NM zs → (t' k : Rat) = Rat.divInt (R k (NM zs)) d * b') :
    GI zs xss f0 f1 D B t' b' (fun k => Rat.divInt (R k (NM zs)) d) ∧ (∀ k, k < NM zs → Rat.divInt (R k (NM zs)) d ≤ x k) ∧ ∃ k, k < NM zs ∧ Rat.divInt (R k (NM zs)) d < x k := by
  have sys : PO.Sys (prM zs) (NM zs) zs.length (oM zs xss) (tM zs xss) f0 f1 (fun k => (wM zs xss k : Int)) C := ⟨prs_ok, Int.le_of_lt F.p, F.lt, fun p hp => ⟨(oM_sum g hp).1, by
    have := wh_pos (xss.getD (prM zs p).1 []) (xss.getD (prM zs p).2 [])
    unfold wM
    omega⟩, fun p hp => (hC p hp).1⟩
  have hs := sys.solved c
  obtain ⟨le, nn⟩ := sys.less (x := x) (y := fun k => Rat.divInt (R k (NM zs)) d) (fun p hp => h.su p hp (C p) (hC p hp).1 fun E hE => h.best ((hC p hp).2 E hE)) hs
  refine ⟨⟨b0, h.bp, h.bl, b9, xt, nn, fun k hk => Rat.le_trans (le k hk) (h.x1 k hk), fun k hk => PO.Whole.div (hD _ (by have := c.d0; omega) d9) c.d0, fun p hp E hE best => ?_⟩, le, ?_⟩
  · have := best (C p) (hC p hp).1
    have := Rat.mul_le_mul_of_nonneg_left this (Rat.intCast_le_intCast.mpr (Int.le_of_lt F.p) : (0 : Rat) ≤ (f0 : Rat))
    rw [hs p hp]
    exact this
  · by_cases q : ∃ k, k < NM zs ∧ Rat.divInt (R k (NM zs)) d < x k
    · exact q
    · exfalso
      have same : ∀ k, k < NM zs → Rat.divInt (R k (NM zs)) d = x k := fun k hk => by
        have h1 := le k hk
        have h2 : ¬ Rat.divInt (R k (NM zs)) d < x k := fun z => q ⟨k, hk, z⟩
        grind
      refine ne fun k hk => ?_
      have e := hs k hk
      rw [same k hk] at e
      have ev : PO.vc (prM zs) (NM zs) zs.length (C k) (fun k => Rat.divInt (R k (NM zs)) d) = vcM zs (C k) x := by
        unfold vcM PO.vc PO.vl
        congr 1
        exact PO.sr_congr fun q hq => by
          show ((PO.mu (prM zs) zs.length (C k) q : Int) : Rat) * Rat.divInt (R q (NM zs)) d = _
          rw [same q hq]
      rw [ev] at e
      refine Rat.intCast_inj.mp ?_
      rw [Rat.intCast_mul, Rat.intCast_mul, Rat.intCast_mul, h.cost, h.pair hk, h.xt k hk]
      grind
end NT
set_option maxHeartbeats 4000000
namespace NT
open PySem SL NF
variable [PW]
variable {ca : Nat → Addr} {S : Sto} {zs : List Str} {xss : List (List Rat)} {f0 f1 : Int}
theorem GI.start {B : Nat} (g : Good zs xss) (F : FadeI f0 f1) {D : Nat} (bp : 0 < B) (bl : B ≤ 2114) : GI zs xss f0 f1 D B (fun _ => 1) 1 fun _ => 1 := ⟨by decide, bp, bl, Nat.one_lt_two_pow (by omega), fun k _ => by
  show ((1 : Int) : Rat) = 1 * ((1 : Int) : Rat)
  grind, fun k _ => by decide, fun k _ => Rat.le_refl, fun k _ => ⟨D, by rw [Rat.intCast_natCast]; grind⟩, fun p hp C hC _ => by
  have o := PO.Op.of (pr := prM zs) (N := NM zs) prs_ok hC
  have e : vcM zs C (fun _ => 1) = PO.sr (NM zs) (fun k => ((PO.mu (prM zs) zs.length C k : Int) : Rat)) + ((PO.rest (prM zs) (NM zs) zs.length C : Int) : Rat) := by
    unfold vcM PO.vc PO.vl
    congr 1
    exact PO.sr_congr fun k _ => by grind
  have h1 := o.le
  rw [(oM_sum g hp).1, ← e] at h1
  have f0p : (0 : Rat) ≤ (f0 : Rat) := Rat.intCast_le_intCast.mpr (Int.le_of_lt F.p)
  have h2 := Rat.mul_le_mul_of_nonneg_left h1 f0p
  have wp : (0 : Rat) ≤ ((wM zs xss p : Int) : Rat) := Rat.intCast_le_intCast.mpr (show (0 : Int) ≤ (wM zs xss p : Int) from Int.natCast_nonneg _)
  have h3 : (f0 : Rat) * ((wM zs xss p : Int) : Rat) ≤ f1 * ((wM zs xss p : Int) : Rat) := Rat.mul_le_mul_of_nonneg_right (Rat.intCast_le_intCast.mpr (Int.le_of_lt F.lt)) wp
  grind⟩
end NT
set_option maxHeartbeats 4000000
set_option exponentiation.threshold 3000
namespace NT
open PySem SL NF KA
variable [PW]
variable {ca : Nat → Addr} {S : Sto} {zs : List Str} {xss : List (List Rat)} {f0 f1 : Int} {f : Rat}
abbrev Pm (xss : List (List Rat)) : KA.Tb := fun i j => LW.shA xss i j
theorem pm_row (g : Good zs xss) {i : Nat} (hi : i < zs.length) : PO.sr zs.length (Pm xss i) = 1 := by
  have h := row_shs g hi
  show PO.sr zs.length (fun j => (xss.getD i []).getD j 0) = 1
  rw [sr_list h.1, h.2.2]
theorem pm_shr (g : Good zs xss) {i j : Nat} (hi : i < zs.length) (hj : j < zs.length) : Shr (Pm xss i j) := by
  have h := row_shs g hi
  exact h.2.1 _ (List.mem_of_getElem? (getD_of (by omega)))
theorem mcn_of (g : Good zs xss) (h0 : 0 < f) (h1 : f < 1) : Mcn zs.length (lkM zs) (Pm xss) f := ⟨fun i => decide_eq_true rfl, fun i j => by unfold lkM; exact decide_eq_decide.mpr ⟨Eq.symm, Eq.symm⟩, fun i j k a b => decide_eq_true ((of_decide_eq_true a).trans (of_decide_eq_true b)), fun i hi j hj => Rat.num_nonneg.mp (pm_shr g hi hj).1, fun i hi => pm_row g hi, h0, h1⟩
theorem Fd.mcn (g : Good zs xss) (h : Fd f) : Mcn zs.length (lkM zs) (Pm xss) f := mcn_of g h.pos h.lt
theorem pair_ex {i j : Nat} (ij : i < j) (hj : j < zs.length) (l : lkM zs i j = true) : ∃ k, k < NM zs ∧ prM zs k = (i, j) := by
  have m : (i, j) ∈ lkp zs.length (lkM zs) := mem_lkp.mpr ⟨ij, hj, l⟩
  obtain ⟨k, hk, e⟩ := List.mem_iff_getElem.mp m
  refine ⟨k, hk, ?_⟩
  unfold prM
  rw [List.getD_eq_getElem?_getD, List.getElem?_eq_getElem hk, e]
  rfl
theorem sc_pair (g : Good zs xss) {k : Nat} (hk : k < NM zs) : Sc1 zs.length (Pm xss (prM zs k).1) (wM zs xss k) (oM zs xss k) ∧ Sc1 zs.length (Pm xss (prM zs k).2) (wM zs xss k) (tM zs xss k) := by
  obtain ⟨h1, h2, _⟩ := prM_mem hk
  have a := row_shs g (show (prM zs k).1 < zs.length by omega)
  have b := row_shs g h2
  exact ⟨⟨wh_pos _ _, fun i hi => tp_cast wh_dvd.1 (wh_pos _ _) (by rw [a.1]; exact hi)⟩, ⟨wh_pos _ _, fun i hi => tp_cast wh_dvd.2 (wh_pos _ _) (by rw [b.1]; exact hi)⟩⟩
abbrev FxM (zs : List Str) (xss : List (List Rat)) (f : Rat) (D : KA.Tb) : Prop := Fx zs.length (lkM zs) (Pm xss) f D
open Classical in
noncomputable def dM (zs : List Str) (xss : List (List Rat)) (f : Rat) : KA.Tb := if h : ∃ D, FxM zs xss f D then Classical.choose h else fun _ _ => 0
theorem Fd.int (h : Fd f) : FadeI f.num f.den ∧ f = ((f.num : Int) : Rat) / ((f.den : Int) : Rat) := by
  obtain ⟨a, b, c⟩ := h
  refine ⟨⟨a, b, by omega⟩, ?_⟩
  rw [Rat.intCast_natCast, Rat.div_def]
  have h1 := KA.mul_den f
  have dp : (0 : Rat) < (f.den : Rat) := by exact_mod_cast f.den_pos
  have : (f.den : Rat) * (f.den : Rat)⁻¹ = 1 := Rat.mul_inv_cancel _ (fun z => by grind)
  grind
abbrev matR (n : Nat) (M : KA.Tb) : List (List Rat) := LW.mat n M
theorem matR_congr {n : Nat} {M N : KA.Tb} (h : ∀ i, i < n → ∀ j, j < n → M i j = N i j) : matR n M = matR n N := List.map_congr_left fun i hi => List.map_congr_left fun j hj => h i (List.mem_range.mp hi) j (List.mem_range.mp hj)
theorem wM_dvd {D : Nat} (g : Good zs xss) (hD : ∀ xs ∈ xss, ∀ x ∈ xs, x.den ∣ D) {k : Nat} (hk : k < NM zs) : wM zs xss k ∣ D := by
  obtain ⟨h1, h2, _⟩ := prM_mem hk
  have l := g.2.2.2.1
  have m1 : xss.getD (prM zs k).1 [] ∈ xss := List.mem_of_getElem? (getD_of (by omega))
  have m2 : xss.getD (prM zs k).2 [] ∈ xss := List.mem_of_getElem? (getD_of (by omega))
  unfold wM wh
  refine lcmL_dvd _ _ _ (Nat.one_dvd _) fun x hx => ?_
  rcases List.mem_append.mp hx with hx | hx
  · exact hD _ m1 x hx
  · exact hD _ m2 x hx
end NT
set_option maxHeartbeats 2000000
namespace LP
open NT
variable [PW]
abbrev Rl := Nat → Nat → Bool
structure Eqv (n : Nat) (r : Rl) : Prop where
  rf : ∀ i, i < n → r i i = true
  sy : ∀ i j, i < n → j < n → r i j = true → r j i = true
  tr : ∀ i j k, i < n → j < n → k < n → r i j = true → r j k = true → r i k = true
def Same (n : Nat) (r s : Rl) : Prop := ∀ i j, i < n → j < n → r i j = s i j
def cls (n : Nat) (r : Rl) (i : Nat) : List Nat := (List.range n).filter (r i)
def isRep (r : Rl) (i : Nat) : Bool := (List.range i).all fun j => !r j i
def reps (n : Nat) (r : Rl) : List Nat := (List.range n).filter (isRep r)
def canon (n : Nat) (r : Rl) : List (List Nat) := (reps n r).map (cls n r)
section
variable {n : Nat} {r s : Rl} {i j k : Nat}
theorem Eqv.symm (h : Eqv n r) (hi : i < n) (hj : j < n) : r i j = r j i := by
  cases e : r i j with
  | true => rw [h.sy i j hi hj e]
  | false =>
    cases e2 : r j i with
    | true => rw [h.sy j i hj hi e2] at e; exact e.symm
    | false => rfl
theorem Same.eqv (h : Same n r s) (e : Eqv n r) : Eqv n s := ⟨fun i hi => by rw [← h i i hi hi]; exact e.rf i hi, fun i j hi hj q => by rw [← h j i hj hi]; rw [← h i j hi hj] at q; exact e.sy i j hi hj q, fun i j k hi hj hk q q2 => by
  rw [← h i k hi hk]
  rw [← h i j hi hj] at q
  rw [← h j k hj hk] at q2
  exact e.tr i j k hi hj hk q q2⟩
theorem Same.symm (h : Same n r s) : Same n s r := fun i j hi hj => (h i j hi hj).symm
theorem Same.trans {t : Rl} (h : Same n r s) (h2 : Same n s t) : Same n r t := fun i j hi hj => (h i j hi hj).trans (h2 i j hi hj)
def num (P : List (List Nat)) (i : Nat) : Nat := (P.map fun l => decide (i ∈ l)).idxOf true
end
end LP
set_option maxHeartbeats 2000000
namespace LP
open NT LW
variable [PW]
def swS (sh : Nat → Nat → Rat) (l : List Nat) (i : Nat) : Rat := sumR (l.map (sh i))
def ref (n : Nat) (sh : Nat → Nat → Rat) (r : Rl) : Rl := fun i j => r i j && (canon n r).all fun l => decide (swS sh l i = swS sh l j)
section
variable {n m : Nat} {r s q r0 : Rl} {i j k t : Nat} {sh : Nat → Nat → Rat}
def rr (n : Nat) (sh : Nat → Nat → Rat) (r0 : Rl) : Nat → Rl
  | 0 => r0
  | k + 1 => ref n sh (rr n sh r0 k)
structure IsL (n : Nat) (sh : Nat → Nat → Rat) (r0 : Rl) (m : Nat) : Prop where
  ne : ∀ k, k < m → ¬ Same n (rr n sh r0 (k + 1)) (rr n sh r0 k)
  eq : Same n (rr n sh r0 (m + 1)) (rr n sh r0 m)
  le : m ≤ n
theorem IsL.one {m' : Nat} (h : IsL n sh r0 m) (h2 : IsL n sh r0 m') : m = m' := by
  rcases Nat.lt_trichotomy m m' with c | c | c
  · exact absurd h.eq (h2.ne m c)
  · exact c
  · exact absurd h2.eq (h.ne m' c)
variable {os : List Nat}
end
end LP
set_option maxHeartbeats 2000000
namespace LP
open PySem SL NF NT LW
variable [PW]
variable {ca : Nat → Addr} {S : Sto} {n m : Nat} {zs : List Str} {xss : List (List Rat)} {r q : Rl}
structure Mx (n : Nat) (zs : List Str) (xss : List (List Rat)) : Prop where
  n1 : 1 ≤ n
  n9 : n ≤ 12
  zl : zs.length = n
  xl : xss.length = n
  rl : ∀ i, i < n → (xss.getD i []).length = n
  sz : ∀ i, i < n → ∀ x ∈ xss.getD i [], Sz 10 x
theorem Mx.of (g : NT.Good zs xss) : Mx zs.length zs xss := by
  obtain ⟨h1, h6, hz, hl, hs⟩ := g
  have hr : ∀ i, i < zs.length → xss.getD i [] ∈ xss := fun i hi => row_mem (by omega)
  exact ⟨h1, by omega, rfl, hl, fun i hi => (hs _ (hr i hi)).1, fun i hi x hx => ((hs _ (hr i hi)).2.1 x hx).sz⟩
end LP
set_option maxHeartbeats 2000000
set_option maxHeartbeats 2000000
namespace LP
open PySem SL NF NT LW
variable [PW]
variable {ca : Nat → Addr} {S S2 S3 : Sto} {p q : Addr} {n m : Nat} {zs : List Str} {xss : List (List Rat)}
theorem light_put {as : List PV} (hS : LightS S) (h : lights as = true) : LightS (put S q (.lst as)) := fun r c hc => by
  by_cases e : r = q
  · subst e
    rw [put_same] at hc
    cases hc
    exact h
  · rw [put_ne e] at hc
    exact hS r c hc
structure Cs (S S2 : Sto) (qs : List Addr) (ls : List (List PV)) : Prop where
  len : qs.length = ls.length
  nd : qs.Nodup
  at' : ∀ i q, qs[i]? = some q → S2 q = some (.lst (ls.getD i []))
  off : ∀ q ∈ qs, S q = none
  kept : Kept S S2
  li : LightS S2
variable {qs : List Addr} {ls : List (List PV)} {as : List PV} {a : PV} {i : Nat}
theorem Cs.nil (hS : LightS S) : Cs S S [] [] := ⟨rfl, .nil, fun i q h => (nomatch h), fun q h => (nomatch h), Kept.refl S, hS⟩
theorem kept_none (h : Kept S S2) (e : S2 q = none) : S q = none := by
  cases c : S q with
  | none => rfl
  | some k => rw [h q k c] at e; cases e
theorem Cs.add (h : Cs S S2 qs ls) (e : S2 q = none) (hl : lights as = true) : Cs S (put S2 q (.lst as)) (qs ++ [q]) (ls ++ [as]) := by
  have nq : q ∉ qs := fun hq => by
    obtain ⟨i, hi⟩ := List.getElem?_of_mem hq
    rw [h.at' i q hi] at e
    cases e
  refine ⟨by simp [h.len], ?_, fun i r hr => ?_, fun r hr => ?_, h.kept.put (kept_none h.kept e), light_put h.li hl⟩
  · rw [List.nodup_append]
    exact ⟨h.nd, by simp, fun a ha b hb => by rw [List.mem_singleton.mp hb]; exact fun z => nq (z ▸ ha)⟩
  · by_cases c : i < qs.length
    · rw [List.getElem?_append_left c] at hr
      have : r ≠ q := fun z => nq (z ▸ List.mem_of_getElem? hr)
      rw [put_ne this, h.at' i r hr, List.getD_eq_getElem?_getD, List.getD_eq_getElem?_getD, List.getElem?_append_left (by rw [← h.len]; exact c)]
    · rw [List.getElem?_append_right (by omega)] at hr
      have hi : i - qs.length = 0 := by
        have := (List.getElem?_eq_some_iff.mp hr).1
        simp at this
        omega
      rw [hi] at hr
      cases hr
      rw [put_same, List.getD_eq_getElem?_getD, List.getElem?_append_right (by have := h.len; omega), show i - ls.length = 0 by have := h.len; omega]
      rfl
  · rcases List.mem_append.mp hr with hr | hr
    · exact h.off r hr
    · rw [List.mem_singleton.mp hr]
      exact kept_none h.kept e
theorem Cs.set (h : Cs S S2 qs ls) (hi : qs[i]? = some q) (hl : lights as = true) : Cs S (put S2 q (.lst as)) qs (ls.set i as) := by
  have il : i < qs.length := (List.getElem?_eq_some_iff.mp hi).1
  refine ⟨by rw [List.length_set]; exact h.len, h.nd, fun j r hr => ?_, h.off, h.kept.put (h.off q (List.mem_of_getElem? hi)), light_put h.li hl⟩
  by_cases c : i = j
  · subst c
    rw [hi] at hr
    cases hr
    rw [put_same, List.getD_eq_getElem?_getD, List.getElem?_set_self (by rw [← h.len]; exact il)]
    rfl
  · have : r ≠ q := fun z => by
      subst z
      have h1 := List.getElem?_eq_some_iff.mp hi
      have h2 := List.getElem?_eq_some_iff.mp hr
      obtain ⟨h1, e1⟩ := h1
      obtain ⟨h2, e2⟩ := h2
      exact c ((List.getElem_inj h.nd).mp (e1.trans e2.symm))
    rw [put_ne this, h.at' j r hr, List.getD_eq_getElem?_getD, List.getD_eq_getElem?_getD, List.getElem?_set_ne c]
theorem Cs.calm (h : Cs S S2 qs ls) : AnsS (calmL (qs.map .ptr)) S2 fun r S3 => r = ls.map .lst ∧ Kept S S3 := fun Ψ Ξ z => by
  refine calm_loop (g := fun i => ls.getD i []) qs 0 S2 Ψ h.nd (fun i q hq => by rw [Nat.zero_add]; exact h.at' i q hq) fun S3 ho => z _ _ ⟨?_, fun r c hc => ?_⟩
  · apply List.ext_getElem
    · simp [h.len]
    · intro i h1 h2
      have h3 : i < ls.length := by simpa using h2
      simp [List.getD_eq_getElem?_getD, h3]
  · rw [ho r fun z => by rw [h.off r z] at hc; cases hc]
    exact h.kept r c hc
end LP
set_option maxHeartbeats 4000000
set_option exponentiation.threshold 9000
namespace NT
open PySem SL NF KA
variable [PW]
variable {ca : Nat → Addr} {S : Sto} {zs : List Str} {xss : List (List Rat)} {f : Rat} {n : Nat} {d : KA.Tb}
def flatT (n : Nat) (d : KA.Tb) : List Rat := (matR n d).flatten
theorem mem_flatT {x : Rat} : x ∈ flatT n d ↔ ∃ i, i < n ∧ ∃ j, j < n ∧ d i j = x := by
  unfold flatT
  rw [List.mem_flatten]
  constructor
  · rintro ⟨l, hl, hx⟩
    obtain ⟨i, hi, rfl⟩ := List.mem_map.mp hl
    obtain ⟨j, hj, rfl⟩ := List.mem_map.mp hx
    exact ⟨i, List.mem_range.mp hi, j, List.mem_range.mp hj, rfl⟩
  · rintro ⟨i, hi, j, hj, rfl⟩
    exact ⟨_, List.mem_map.mpr ⟨i, List.mem_range.mpr hi, rfl⟩, List.mem_map.mpr ⟨j, List.mem_range.mpr hj, rfl⟩⟩
def botT (n : Nat) (d : KA.Tb) : Nat := lcmL 1 (flatT n d)
def topT (n : Nat) (d : KA.Tb) : FL.Mx := fun i j => (d i j).num * ((botT n d / (d i j).den : Nat) : Int)
theorem botT_pos (n : Nat) (d : KA.Tb) : 0 < botT n d := lcmL_pos _ 1 (by decide)
theorem scl_T (n : Nat) (d : KA.Tb) : Scl n d (botT n d) (topT n d) := ⟨botT_pos n d, fun i hi j hj => top_cast ((dvd_lcmL (flatT n d) 1).2 _ (mem_flatT.mpr ⟨i, hi, j, hj, rfl⟩)) (botT_pos n d)⟩
theorem botT_dvd {D : Nat} (h : ∀ i, i < n → ∀ j, j < n → (d i j).den ∣ D) : botT n d ∣ D := lcmL_dvd _ _ _ (Nat.one_dvd _) fun x hx => by
  obtain ⟨i, hi, j, hj, rfl⟩ := mem_flatT.mp hx
  exact h i hi j hj
noncomputable abbrev nxM (zs : List Str) (xss : List (List Rat)) (f : Rat) (d : KA.Tb) : KA.Tb := nxt zs.length (lkM zs) (Pm xss) f d
structure Tbd (n : Nat) (d : KA.Tb) (D B : Nat) : Prop where
  M : KA.Met n d
  b : ∀ i, i < n → ∀ j, j < n → d i j ≤ 1
  D0 : 0 < D
  hB : D < 2 ^ B
  B0 : 0 < B
  B9 : B ≤ 3000
  hD : ∀ i, i < n → ∀ j, j < n → (d i j).den ∣ D
theorem num_le_den {x : Rat} (h0 : 0 ≤ x) (h1 : x ≤ 1) : 0 ≤ x.num ∧ x.num ≤ x.den := by
  refine ⟨Rat.num_nonneg.mpr h0, ?_⟩
  have e := KA.mul_den x
  have dp : (0 : Rat) ≤ (x.den : Rat) := by exact_mod_cast Nat.zero_le _
  have := Rat.mul_le_mul_of_nonneg_right h1 dp
  rw [e, Rat.one_mul, ← Rat.intCast_natCast] at this
  exact Rat.intCast_le_intCast.mp this
theorem Tbd.num {D B : Nat} (t : Tbd n d D B) {i j : Nat} (hi : i < n) (hj : j < n) : (d i j).num.natAbs < 2 ^ B := by
  have h := num_le_den (t.M.nn hi hj) (t.b i hi j hj)
  have := Nat.le_of_dvd t.D0 (t.hD i hi j hj)
  have := t.hB
  omega
theorem Tbd.top {D B : Nat} (t : Tbd n d D B) {i j : Nat} (hi : i < n) (hj : j < n) : 0 ≤ topT n d i j ∧ (topT n d i j).natAbs < 2 ^ B := by
  have s := (scl_T n d).e i hi j hj
  have bp : (0 : Rat) ≤ (botT n d : Rat) := by exact_mod_cast Nat.zero_le _
  have h0 := Rat.mul_nonneg (t.M.nn hi hj) bp
  have h1 := Rat.mul_le_mul_of_nonneg_right (t.b i hi j hj) bp
  rw [← s] at h0 h1
  rw [Rat.one_mul, ← Rat.intCast_natCast] at h1
  have h0 : 0 ≤ topT n d i j := Rat.intCast_nonneg.mp h0
  have h1 : topT n d i j ≤ (botT n d : Int) := Rat.intCast_le_intCast.mp h1
  have h2 := Nat.le_of_dvd t.D0 (botT_dvd t.hD)
  have := t.hB
  exact ⟨h0, by omega⟩
end NT
set_option maxHeartbeats 4000000
set_option exponentiation.threshold 9000
namespace NT
open PySem SL NF KA LW
variable [PW]
variable {ca : Nat → Addr} {S : Sto} {zs : List Str} {xss : List (List Rat)} {f : Rat} {n B : Nat} {d : KA.Tb}
theorem den_divI (a : Int) {b : Nat} (b0 : 0 < b) : (Rat.divInt a (b : Int)).den ∣ b := by
  rw [Rat.den_divInt, if_neg (by omega)]
  exact Nat.div_dvd_of_dvd (Int.gcd_dvd_natAbs_left ..)
theorem Tbd.sz {D : Nat} (t : Tbd n d D B) : ∀ i, i < n → ∀ j, j < n → Sz B (d i j) := fun i hi j hj => by
  have := Nat.le_of_dvd t.D0 (t.hD i hi j hj)
  have := t.hB
  exact ⟨t.num hi hj, by omega⟩
/-- the parts of the next table -/
theorem next_den {D L : Nat} (g : Good zs xss) (h : Fd f) (M : KA.Met zs.length d) (hD : ∀ i, i < zs.length → ∀ j, j < zs.length → (d i j).den ∣ D) (D0 : 0 < D) (hL : ∀ xs ∈ xss, ∀ x ∈ xs, x.den ∣ L) (b : ∀ i, i < zs.length → ∀ j, j < zs.length → d i j ≤ 1) : ∀ i, i < zs.length → ∀ j, j < zs.length → (nxM zs xss f d i j).den ∣ f.den * L * D := by
  have m := Fd.mcn g h
  have nm := (nxt_met m M b).1
  have one : ∀ {x : Rat}, x.den = 1 → x.den ∣ f.den * L * D := fun e => by rw [e]; exact Nat.one_dvd _
  have main : ∀ i j, i < j → j < zs.length → lkM zs i j = true → (nxM zs xss f d i j).den ∣ f.den * L * D := fun i j ij hj l => by
    have hi : i < zs.length := by omega
    obtain ⟨k, hk, e⟩ := pair_ex ij hj l
    have sc := sc_pair g hk
    rw [e] at sc
    have wd := wM_dvd g hL hk
    have bd := botT_dvd hD
    have w0 := sc.1.ps
    have b0 := botT_pos zs.length d
    have fm := (scl_T zs.length d).met M
    obtain ⟨C, F, π, P⟩ := FL.flow_ex (c := topT zs.length d) (fun i _ => oM_nn g hk i) (by rw [(oM_sum g hk).1, (oM_sum g hk).2]) fun i hi j hj => fm.nn hi hj
    have O := opt_flow M (scl_T zs.length d) sc.1 sc.2 F (by rw [(oM_sum g hk).1, (oM_sum g hk).2]) P
    rw [show nxM zs xss f d i j = f * Wo zs.length d (Pm xss i) (Pm xss j) from nxt_like m M hi hj l, Wo_is O, dv_cst (scl_T zs.length d) w0]
    obtain ⟨_, ef⟩ := h.int
    have q1 : (0 : Rat) < (f.den : Rat) := by exact_mod_cast f.den_pos
    have q2 : (0 : Rat) < (wM zs xss k : Rat) := by exact_mod_cast w0
    have q3 : (0 : Rat) < (botT zs.length d : Rat) := by exact_mod_cast b0
    have ev : f * (((FL.cost zs.length (topT zs.length d) C : Int) : Rat) / ((botT zs.length d : Rat) * (wM zs xss k : Rat))) = Rat.divInt (f.num * FL.cost zs.length (topT zs.length d) C) ((f.den * wM zs xss k * botT zs.length d : Nat) : Int) := by
      rw [Rat.divInt_eq_div]
      conv => lhs; lhs; rw [ef]
      simp only [Rat.intCast_mul, Rat.intCast_natCast, Rat.natCast_mul]
      grind
    rw [ev]
    refine Nat.dvd_trans ?_ (Nat.mul_dvd_mul (Nat.mul_dvd_mul (Nat.dvd_refl f.den) wd) bd)
    exact den_divI _ (Nat.mul_pos (Nat.mul_pos f.den_pos w0) b0)
  intro i hi j hj
  cases l : lkM zs i j with
  | false => exact one (by rw [show nxM zs xss f d i j = 1 from nxt_no l (m.ne l)]; rfl)
  | true =>
    rcases Nat.lt_trichotomy i j with ij | ij | ij
    · exact main i j ij hj l
    · subst ij
      exact one (by rw [show nxM zs xss f d i i = 0 from nm.z i hi]; rfl)
    · rw [show nxM zs xss f d i j = nxM zs xss f d j i from nm.sy i hi j hj]
      exact main j i ij hi (by rw [m.sy, l])
theorem Tbd.next {D L B2 : Nat} (g : Good zs xss) (h : Fd f) (t : Tbd zs.length d D B) (hL : ∀ xs ∈ xss, ∀ x ∈ xs, x.den ∣ L) (L0 : 0 < L) (hB : f.den * L * D < 2 ^ B2) (B0 : 0 < B2) (B9 : B2 ≤ 3000) : Tbd zs.length (nxM zs xss f d) (f.den * L * D) B2 := by
  have nm := nxt_met (Fd.mcn g h) t.M t.b
  exact ⟨nm.1, nm.2, Nat.mul_pos (Nat.mul_pos f.den_pos L0) t.D0, hB, B0, B9, next_den g h t.M t.hD t.D0 hL t.b⟩
end NT
set_option maxHeartbeats 4000000
set_option exponentiation.threshold 9000
namespace KA
open PO FL
end KA
namespace NT
open PySem SL NF KA LW
variable [PW]
variable {ca : Nat → Addr} {S : Sto} {zs : List Str} {xss yss : List (List Rat)} {f : Rat} {n B : Nat} {d D E : KA.Tb}
def rowR (n : Nat) (d : KA.Tb) (i : Nat) : List Rat := (List.range n).map fun j => d i j
/-- what is known of a machine's distances -/
structure Dst (zs : List Str) (xss : List (List Rat)) (f : Rat) (B : Nat) : Prop where
  fx : FxM zs xss f (dM zs xss f)
  sz : ∀ i, i < zs.length → ∀ j, j < zs.length → Sz B (dM zs xss f i j)
end NT
set_option maxHeartbeats 4000000
set_option exponentiation.threshold 9000
namespace LW
open PySem _root_.SL NF NT
end LW
set_option maxHeartbeats 4000000
set_option exponentiation.threshold 9000
namespace KA
open PO FL
variable {n : Nat} {lk : Nat → Nat → Bool} {P : Tb} {f f' : Rat} {d e D E : Tb}
theorem Fx.no (h : Mcn n lk P f) (x : Fx n lk P f D) {i j : Nat} (hi : i < n) (hj : j < n) (l : lk i j = false) : D i j = 1 := by
  rw [x.e i hi j hj, nxt_no l (h.ne l)]
end KA
namespace NT
open PySem SL NF KA LW
variable [PW]
variable {ca : Nat → Addr} {S : Sto} {zs : List Str} {xss yss : List (List Rat)} {f : Rat} {n B : Nat} {d D E : KA.Tb}
theorem ne_rows (xss yss : List (List Rat)) : neF (rows_ xss) (rows_ yss) = some (.bl (!decide (xss = yss))) := by
  rw [neF_data (toD_rows xss) (toD_rows yss) (shp_L xss) (shp_L yss) (nod_L xss) (nod_L yss) (fun z e => by cases e), eqv_L]
theorem Dst.same (h : Fd f) (x : Dst zs xss f B) : matR zs.length (nxM zs xss f (dM zs xss f)) = matR zs.length (dM zs xss f) := matR_congr fun i hi j hj => (x.fx.e i hi j hj).symm
end NT
set_option maxHeartbeats 4000000
set_option exponentiation.threshold 9000
namespace KA
open PO FL
end KA
namespace NT
open PySem SL NF KA LW
end NT
set_option maxHeartbeats 4000000
set_option exponentiation.threshold 9000
namespace FL
end FL
namespace NT
open PySem SL NF KA LW
variable [PW]
variable {ca : Nat → Addr} {S : Sto} {n : Nat} {o t : Nat → Int} {c C : FL.Mx} {π : Nat → Int}
theorem r_subI (a b : Int) : subF (.int a) (.int b) = some (.int (a - b)) := rfl
end NT
set_option maxHeartbeats 4000000
set_option exponentiation.threshold 9000
namespace NT
open PySem SL NF KA LW
variable [PW]
variable {ca : Nat → Addr} {S : Sto} {zs : List Str} {xss : List (List Rat)} {f : Rat} {n B : Nat} {d : KA.Tb} {qs rs : List Rat}
abbrev fn (xs : List Rat) : Nat → Rat := fun i => xs.getD i 0
/-- a told tuple: what it costs, a carrying, prices -/
structure Che (n : Nat) (d : KA.Tb) (p q : Nat → Rat) (Bw B : Nat) (w : Rat) (K : KA.Tb) (u : Nat → Rat) : Prop where
  c : Cpl n p q K
  kc : cst n d K = w
  l : Lip n d u
  ue : ern n p q u = w
  u0 : ∀ i, i < n → 0 ≤ u i ∧ u i ≤ 1
  kz : ∀ i, i < n → ∀ j, j < n → Sz Bw (K i j)
  uz : ∀ i, i < n → Sz B (u i)
  wz : Sz (B + Bw) w
theorem Che.opt {p q : Nat → Rat} {Bw : Nat} {w : Rat} {K : KA.Tb} {u : Nat → Rat} (h : Che n d p q Bw B w K u) : Opt n d p q w := Opt.is h.c h.l h.kc h.ue
end NT
set_option maxHeartbeats 2000000
set_option exponentiation.threshold 9000
namespace NT
open PySem SL NF KA LW
end NT
set_option maxHeartbeats 2000000
set_option exponentiation.threshold 9000
namespace NT
open PySem SL NF KA LW
end NT
set_option maxHeartbeats 2000000
set_option exponentiation.threshold 9000
namespace NT
open PySem SL NF KA LW
end NT
set_option maxHeartbeats 2000000
set_option exponentiation.threshold 9000
namespace NT
open PySem SL NF KA LW
end NT
set_option maxHeartbeats 2000000
set_option exponentiation.threshold 9000
namespace NT
open PySem SL NF KA LW
end NT
set_option maxHeartbeats 4000000
set_option exponentiation.threshold 9000
namespace NT
open PySem SL NF KA LW
variable [PW]
variable {ca : Nat → Addr} {S S0 S2 : Sto} {p q : Addr} {n : Nat} {b v : Int} {M M0 : FL.Mx} {qs : List Addr} {i j w : Nat}
structure MtI (n : Nat) (qs : List Addr) (M : FL.Mx) (S : Sto) : Prop where
  len : qs.length = n
  nd : qs.Nodup
  at' : ∀ i q, qs[i]? = some q → S q = some (.lst (iLs n (M i)))
def upI (M : FL.Mx) (i j : Nat) (v : Int) : FL.Mx := fun a c => if a = i ∧ c = j then v else M a c
theorem MtI.ex (hm : MtI n qs M S) (hi : i < n) : ∃ q, qs[i]? = some q ∧ q ∈ qs := by
  have : i < qs.length := by rw [hm.len]; exact hi
  exact ⟨qs[i], List.getElem?_eq_getElem this, List.getElem_mem this⟩
theorem MtI.put (h : MtI n qs M S) (hq : qs[i]? = some q) : MtI n qs (upI M i j v) (put S q (.lst (iLs n fun k => if k = j then v else M i k))) := by
  refine ⟨h.len, h.nd, fun k r hk => ?_⟩
  by_cases e : k = i
  · subst e
    rw [hq] at hk
    cases hk
    rw [put_same]
    congr 2
    refine iLs_ext fun a _ => ?_
    unfold upI
    by_cases c : a = j
    · rw [if_pos c, if_pos ⟨rfl, c⟩]
    · rw [if_neg c, if_neg fun z => c z.2]
  · have : r ≠ q := fun z => by
      subst z
      have h1 := List.getElem?_eq_some_iff.mp hq
      have h2 := List.getElem?_eq_some_iff.mp hk
      obtain ⟨h1, e1⟩ := h1
      obtain ⟨h2, e2⟩ := h2
      exact e ((List.getElem_inj h.nd).mp (e2.trans e1.symm))
    rw [put_ne this, h.at' k r hk]
    congr 2
    refine iLs_ext fun a _ => ?_
    unfold upI
    rw [if_neg fun z => e z.1]
/-- drawn, not yet put right -/
structure PreI (n : Nat) (b : Int) (M : FL.Mx) : Prop where
  nn : ∀ i, i < n → ∀ j, j < n → 0 ≤ M i j ∧ M i j ≤ b
  sy : ∀ i, i < n → ∀ j, j < n → M i j = M j i
  z : ∀ i, i < n → M i i = 0
def TI (n : Nat) (qs : List Addr) (S0 : Sto) (M : FL.Mx) (S : Sto) : Prop := MtI n qs M S ∧ LightS S ∧ Off qs S0 S
def via (w : Nat) (M : FL.Mx) : FL.Mx := fun a c => min (M a c) (M a w + M w c)
/-- in the midst of a way -/
structure Mid (n w : Nat) (M0 : FL.Mx) (D : Nat → Nat → Prop) (M : FL.Mx) : Prop where
  y : ∀ i, i < n → ∀ j, j < n → D i j → M i j = via w M0 i j
  n' : ∀ i, i < n → ∀ j, j < n → ¬ D i j → M i j = M0 i j
theorem Mid.col {D : Nat → Nat → Prop} (h : PreI n b M0) (hw : w < n) (m : Mid n w M0 D M) (hi : i < n) : M i w = M0 i w := by
  by_cases d : D i w
  · rw [m.y i hi w hw d]
    have := h.z w hw
    unfold via
    omega
  · exact m.n' i hi w hw d
theorem Mid.row {D : Nat → Nat → Prop} (h : PreI n b M0) (hw : w < n) (m : Mid n w M0 D M) (hi : i < n) : M w i = M0 w i := by
  by_cases d : D w i
  · rw [m.y w hw i hi d]
    have := h.z w hw
    unfold via
    omega
  · exact m.n' w hw i hi d
theorem Mid.step {D : Nat → Nat → Prop} (h : PreI n b M0) (hw : w < n) (m : Mid n w M0 D M) (hi : i < n) (hj : j < n) : Mid n w M0 (fun a c => D a c ∨ (a = i ∧ c = j)) (upI M i j (min (M i j) (M i w + M w j))) := by
  have e1 := m.col h hw hi
  have e2 := m.row h hw hj
  refine ⟨fun a ha c hc d => ?_, fun a ha c hc d => ?_⟩
  · unfold upI
    by_cases e : a = i ∧ c = j
    · obtain ⟨rfl, rfl⟩ := e
      rw [if_pos ⟨rfl, rfl⟩, e1, e2]
      by_cases d2 : D a c
      · rw [m.y a ha c hc d2]
        unfold via
        omega
      · rw [m.n' a ha c hc d2]
        rfl
    · rw [if_neg e]
      exact m.y a ha c hc (d.resolve_right e)
  · unfold upI
    rw [if_neg fun z => d (.inr z)]
    exact m.n' a ha c hc fun z => d (.inl z)
theorem Mid.same {D E : Nat → Nat → Prop} (m : Mid n w M0 D M) (h : ∀ i, i < n → ∀ j, j < n → (E i j ↔ D i j)) : Mid n w M0 E M := ⟨fun i hi j hj d => m.y i hi j hj ((h i hi j hj).mp d), fun i hi j hj d => m.n' i hi j hj fun z => d ((h i hi j hj).mpr z)⟩
theorem PreI.ext {M2 : FL.Mx} (h : PreI n b M) (e : ∀ i, i < n → ∀ j, j < n → M2 i j = M i j) : PreI n b M2 := ⟨fun i hi j hj => by rw [e i hi j hj]; exact h.nn i hi j hj, fun i hi j hj => by rw [e i hi j hj, e j hj i hi]; exact h.sy i hi j hj, fun i hi => by rw [e i hi i hi]; exact h.z i hi⟩
end NT
set_option maxHeartbeats 4000000
set_option exponentiation.threshold 9000
namespace LW
open PySem _root_.SL NF NT
end LW
set_option maxHeartbeats 4000000
set_option exponentiation.threshold 9000
namespace LW
open PySem _root_.SL NF NT
end LW
set_option maxHeartbeats 4000000
set_option exponentiation.threshold 9000
namespace KA
open PO FL
open NF (ap)
structure Emb (n N : Nat) (s : Nat → Nat) : Prop where
  lt : ∀ i, i < n → s i < N
  inj : ∀ i, i < n → ∀ j, j < n → s i = s j → i = j
  sum : ∀ g : Nat → Rat, (∀ j, j < N → (∀ i, i < n → s i ≠ j) → g j = 0) → sr N g = sr n fun i => g (s i)
variable {n N : Nat} {s : Nat → Nat} {lk lk' : Nat → Nat → Bool} {P P' Q : Tb} {f : Rat} {d D : Tb} {p q : Nat → Rat} {w : Rat}
theorem Emb.opt (E : Emb n N s) (hp : ∀ j, j < N → (∀ i, i < n → s i ≠ j) → p j = 0) (hq : ∀ j, j < N → (∀ i, i < n → s i ≠ j) → q j = 0) (h : Opt N D p q w) : Opt n (fun i j => D (s i) (s j)) (fun i => p (s i)) (fun i => q (s i)) w := by
  obtain ⟨K, c, x⟩ := h.c
  obtain ⟨u, l, y⟩ := h.u
  have zr : ∀ i, i < N → (∀ k, k < n → s k ≠ i) → ∀ j, j < N → K i j = 0 := fun i hi hn j hj => by
    have h1 := c.row i hi
    rw [hp i hi hn] at h1
    have h2 := sr_at (f := K i) (fun j hj => c.nn i hi j hj) hj
    have h3 := c.nn i hi j hj
    grind
  have zc : ∀ j, j < N → (∀ k, k < n → s k ≠ j) → ∀ i, i < N → K i j = 0 := fun j hj hn i hi => by
    have h1 := c.col j hj
    rw [hq j hj hn] at h1
    have h2 := sr_at (f := fun i => K i j) (fun i hi => c.nn i hi j hj) hi
    have h3 := c.nn i hi j hj
    grind
  refine Opt.is (K := fun i j => K (s i) (s j)) (u := fun i => u (s i)) ⟨fun i hi j hj => c.nn _ (E.lt i hi) _ (E.lt j hj), fun i hi => ?_, fun j hj => ?_⟩ (fun i hi j hj => l _ (E.lt i hi) _ (E.lt j hj)) ?_ ?_
  · rw [← c.row _ (E.lt i hi), E.sum (K (s i)) fun j hj hn => zc j hj hn _ (E.lt i hi)]
  · rw [← c.col _ (E.lt j hj), E.sum (fun i => K i (s j)) fun i hi hn => zr i hi hn _ (E.lt j hj)]
  · rw [← x]
    unfold cst
    rw [E.sum (fun a => sr N fun b => D a b * K a b) fun a ha hn => by
      rw [sr_congr (g := fun _ => 0) fun b hb => by rw [zr a ha hn b hb, Rat.mul_zero], sr_zero]]
    exact sr_congr fun i hi => by
      rw [E.sum (fun b => D (s i) b * K (s i) b) fun b hb hn => by rw [zc b hb hn _ (E.lt i hi), Rat.mul_zero]]
  · rw [← y]
    unfold ern
    rw [E.sum (fun a => u a * (p a - q a)) fun a ha hn => by rw [hp a ha hn, hq a ha hn]; grind]
end KA
namespace NT
open PySem SL NF KA LW
end NT
set_option maxHeartbeats 2000000
namespace KA
open PO (sr sr_congr sr_sub sr_zero sr_add sr_mul sr_nn sr_none sr_one)
end KA
set_option maxHeartbeats 2000000
set_option exponentiation.threshold 9000
namespace NT
open PySem SL NF KA LW
end NT
set_option maxHeartbeats 2000000
set_option exponentiation.threshold 9000
namespace NT
open PySem SL NF KA LW
end NT
namespace KA
open PO FL
end KA
set_option maxHeartbeats 2000000
set_option exponentiation.threshold 9000
namespace NT
open PySem SL NF KA LW
end NT
set_option maxHeartbeats 2000000
set_option exponentiation.threshold 9000
namespace NT
open PySem SL NF KA LW
end NT
set_option maxHeartbeats 2000000
set_option exponentiation.threshold 9000
namespace NT
open PySem SL NF KA LW
variable [PW]
variable {ca : Nat → Addr} {S : Sto} {zs : List Str} {xss : List (List Rat)} {f : Rat} {n B A C D Bw : Nat} {d T : KA.Tb} {q : Nat × Nat} {x : PV}
def ab (x : Rat) : Rat := if x < 0 then -x else x
end NT
set_option maxHeartbeats 2000000
set_option exponentiation.threshold 9000
namespace NT
open PySem SL NF KA LW
variable [PW]
variable {ca : Nat → Addr} {S : Sto} {p : Addr} {zs : List Str} {xss : List (List Rat)} {f : Rat} {n B A C D Bw N : Nat} {d T X Y : KA.Tb} {qs rs : List Rat}
theorem tru {m : W PV} (h : Ans m S (· = .bl true)) : Ans (tst m) S (· = true) := ans_tst (h.mono fun a e => ⟨true, by rw [e], rfl⟩)
theorem if0 {α : Type} {m : W Bool} {x y : W α} {P : α → Prop} (h : Ans m S (· = false)) (k : Ans y S P) : Ans (SL.bind m fun b => if b = true then x else y) S P := Ans.bind h fun b e => by
  subst e
  rw [if_neg (by decide)]
  exact k
theorem ans_or0 {m1 m2 : W Bool} (h : Ans m1 S (· = false)) (k : Ans m2 S (· = false)) : Ans (orT m1 m2) S (· = false) := Ans.bind h fun b e => by
  subst e
  exact k
theorem ans_not {m : W Bool} {b : Bool} (h : Ans m S (· = b)) : Ans (notT m) S (· = !b) := Ans.bind h fun x e => by
  subst e
  exact Ans.ret rfl
end NT
set_option maxHeartbeats 2000000
set_option exponentiation.threshold 9000
namespace NT
open PySem SL NF KA LW
variable [PW]
variable {ca : Nat → Addr} {S S0 S2 : Sto} {p q : Addr} {zs : List Str} {xss : List (List Rat)} {f v : Rat} {n i j : Nat} {T : KA.Tb} {qs : List Addr}
structure MtF (n : Nat) (qs : List Addr) (T : KA.Tb) (S : Sto) : Prop where
  len : qs.length = n
  nd : qs.Nodup
  at' : ∀ i q, qs[i]? = some q → S q = some (.lst (frs (rowR n T i)))
theorem MtF.light (m : MtF n qs T S2) (hS : LightS S) (off : Off qs S S2) : LightS S2 := fun r c hc => by
  by_cases h : r ∈ qs
  · obtain ⟨k, hk, e⟩ := List.mem_iff_getElem.mp h
    have := m.at' k r (by rw [List.getElem?_eq_getElem hk, e])
    rw [this] at hc
    cases hc
    exact lights_frs _
  · rw [off r h] at hc
    exact hS r c hc
theorem MtF.ex (hm : MtF n qs T S) (hi : i < n) : ∃ q, qs[i]? = some q ∧ q ∈ qs := by
  have : i < qs.length := by rw [hm.len]; exact hi
  exact ⟨qs[i], List.getElem?_eq_getElem this, List.getElem_mem this⟩
def upF (T : KA.Tb) (i j : Nat) (v : Rat) : KA.Tb := fun a c => if a = i ∧ c = j then v else T a c
theorem MtF.put (h : MtF n qs T S) (hq : qs[i]? = some q) : MtF n qs (upF T i j v) (SL.put S q (.lst (frs (rowR n (upF T i j v) i)))) := by
  refine ⟨h.len, h.nd, fun k r hk => ?_⟩
  by_cases e : k = i
  · subst e
    rw [hq] at hk
    cases hk
    rw [put_same]
  · have : r ≠ q := fun z => by
      subst z
      obtain ⟨h1, e1⟩ := List.getElem?_eq_some_iff.mp hq
      obtain ⟨h2, e2⟩ := List.getElem?_eq_some_iff.mp hk
      exact e ((List.getElem_inj h.nd).mp (e2.trans e1.symm))
    rw [put_ne this, h.at' k r hk]
    congr 3
    refine List.map_congr_left fun a _ => ?_
    unfold upF
    rw [if_neg fun z => e z.1]
end NT
set_option maxHeartbeats 2000000
set_option exponentiation.threshold 9000
namespace TC
open PySem _root_.SL NF NT LW KA
variable [PW]
variable {ca : Nat → Addr} {S S2 S3 : Sto} {p q : Addr} {n m i j W k : Nat} {a : PV} {as bs : List PV} {qs : List Addr} {R : Nat → List PV}
def Tm (a : PV) (W k : Nat) : Prop := ∃ d, toD a = some d ∧ d.showable = true ∧ d.leavesShort 250 = true ∧ d.weight ≤ W ∧ d.depth ≤ k
theorem Tm.mono {a : PV} {W W2 k k2 : Nat} (h : Tm a W k) (h1 : W ≤ W2) (h2 : k ≤ k2) : Tm a W2 k2 := by
  obtain ⟨d, a1, a2, a3, a4, a5⟩ := h
  exact ⟨d, a1, a2, a3, by omega, by omega⟩
theorem Tm.rep {a : PV} {W k : Nat} (h : Tm a W k) (hW : W ≤ 60000) (hk : k ≤ 20) : ∃ z, repF [a] = some (.str z) := by
  obtain ⟨d, a1, a2, a3, a4, a5⟩ := h
  refine ⟨d.shown, ?_⟩
  show (match toD a with | some d => if FineP a d then some (PV.str d.shown) else none | none => none) = _
  rw [a1]
  have hf : FineP a d := by
    refine ⟨a2, by omega, ?_⟩
    have h5 := PyData.shown_le 250 (by decide) d a3
    have h6 : (250 + 2) * d.weight ≤ 252 * 60000 := Nat.mul_le_mul_left _ (by omega)
    have h7 : 252 * 60000 + 250 ≤ sizeLine := by decide
    omega
  simp only
  rw [if_pos hf]
structure Cel (n : Nat) (qs : List Addr) (R : Nat → List PV) (S : Sto) : Prop where
  len : qs.length = n
  nd : qs.Nodup
  at' : ∀ i q, qs[i]? = some q → S q = some (.lst (R i))
theorem calm_back {g : Nat → List PV} {Ξ : XV → Sto → Prop} : ∀ (qs : List Addr) (k : Nat) (S : Sto) (Ψ : List PV → Sto → Prop), qs.Nodup → (∀ i q, qs[i]? = some q → S q = some (.lst (g (k + i)))) →
    (∀ S2, Off qs S S2 → (∀ q ∈ qs, S2 q = none) → Ψ ((List.range' k qs.length).map fun i => .lst (g i)) S2) → calmL (qs.map .ptr) S Ψ Ξ
  | [], k, S, Ψ, _, _, z => z S (fun _ _ => rfl) fun q h => (nomatch h)
  | q :: qs, k, S, Ψ, hn, h, z => by
    have nd := List.nodup_cons.mp hn
    rw [List.map_cons, calmL]
    refine ⟨g k, h 0 q rfl, ?_⟩
    show calmL (qs.map .ptr) (rem S q) (fun bs S2 => Ψ (.lst (g k) :: bs) S2) Ξ
    refine calm_back (g := g) qs (k + 1) _ _ nd.2 (fun i q' hq => ?_) fun S2 ho no => ?_
    · have : q' ≠ q := fun e => nd.1 (e ▸ List.mem_of_getElem? hq)
      rw [rem_ne this, h (i + 1) q' (by simpa using hq)]
      congr 3
      omega
    · have e : List.range' k (q :: qs).length = k :: List.range' (k + 1) qs.length := by rw [List.length_cons, List.range'_succ]
      rw [e] at z
      refine z S2 (fun r hr => ?_) fun r hr => ?_
      · rw [ho r fun z => hr (List.mem_cons_of_mem _ z), rem_ne (show r ≠ q from fun e => hr (by rw [e]; exact List.mem_cons_self ..))]
      · rcases List.mem_cons.mp hr with rfl | hr
        · rw [ho r nd.1, rem_same]
        · exact no r hr
def Rws (n : Nat) (R : Nat → List PV) : List PV := (List.range n).map fun i => .lst (R i)
theorem Cel.calm (c : Cel n qs R S2) (no : ∀ q ∈ qs, S q = none) (off : Off qs S S2) : Run (calmL (qs.map .ptr)) S2 fun as S3 => as = Rws n R ∧ S3 = S := fun Ψ Ξ z => by
  refine calm_back (g := R) qs 0 S2 Ψ c.nd (fun i q hq => by rw [Nat.zero_add]; exact c.at' i q hq) fun S3 off3 no3 => z _ _ ⟨?_, ?_⟩
  · rw [c.len, ← List.range_eq_range']
    rfl
  · funext r
    by_cases h : r ∈ qs
    · rw [no3 r h, no r h]
    · rw [off3 r h, off r h]
theorem put_rem {c : Cl} (h : S q = some c) : put (rem S q) q c = S := by
  funext r
  by_cases e : r = q
  · subst e; rw [put_same, h]
  · rw [put_ne e, rem_ne e]
theorem light_rem (h : LightS S) : LightS (rem S q) := fun r c hc => by
  by_cases e : r = q
  · subst e; rw [rem_same] at hc; cases hc
  · rw [rem_ne e] at hc; exact h r c hc
theorem push_run {β : Type} {K : SL.W β} {Q : β → Sto → Prop} (hq : S q = some (.lst as)) (hl : as.length < 100000) (k : Run K (put S q (.lst (as ++ [a]))) Q) : Run (SL.bind (SL.ret (.ptr q)) fun o => SL.bind (look (isLC o)) fun _ => SL.bind (SL.ret a) fun a => SL.bind (pushC o a) fun _ => K) S Q := fun Ψ Ξ z =>
  ⟨(), by show (match S q with | some (.lst _) => some () | _ => none) = _; rw [hq], q, as, rfl, hq, hl, k Ψ Ξ z⟩
theorem clear_run {β : Type} {K : SL.W β} {Q : β → Sto → Prop} (hq : S q = some (.lst as)) (k : Run K (put S q (.lst [])) Q) : Run (SL.bind (SL.ret (.ptr q)) fun o => SL.bind (turnC (fun _ => []) o) fun _ => K) S Q := fun Ψ Ξ z => ⟨q, as, rfl, hq, k Ψ Ξ z⟩
/-- a row is made longer -/
theorem Cel.push (c : Cel n qs R S) (hq : qs[i]? = some q) : Cel n qs (fun k => if k = i then R i ++ [a] else R k) (put S q (.lst (R i ++ [a]))) := by
  refine ⟨c.len, c.nd, fun k r hk => ?_⟩
  by_cases e : k = i
  · subst e
    rw [hq] at hk
    cases hk
    rw [put_same, if_pos rfl]
  · have : r ≠ q := fun z => by
      subst z
      obtain ⟨h1, e1⟩ := List.getElem?_eq_some_iff.mp hq
      obtain ⟨h2, e2⟩ := List.getElem?_eq_some_iff.mp hk
      exact e ((List.getElem_inj c.nd).mp (e2.trans e1.symm))
    rw [put_ne this, c.at' k r hk, if_neg e]
theorem light_put {c : Cl} (h : LightS S) (l : c.light = true) : LightS (put S q c) := fun r d hd => by
  by_cases e : r = q
  · subst e
    rw [put_same] at hd
    cases hd
    exact l
  · rw [put_ne e] at hd
    exact h r d hd
end TC
set_option maxHeartbeats 2000000
set_option exponentiation.threshold 9000
namespace TC
open PySem _root_.SL NF NT LW KA
variable [PW]
variable {S S2 S3 N : Sto} {p q : Addr} {d n : Nat} {a b : PV} {as bs : List PV} {qs rs : List Addr}
def RpL (L : PV → PV → List Addr → Prop) : List PV → List PV → List Addr → Prop
  | [], bs, qs => bs = [] ∧ qs = []
  | a :: as, bs, qs => ∃ b cs q1 q2, bs = b :: cs ∧ qs = q1 ++ q2 ∧ L a b q1 ∧ RpL L as cs q2
/-- what is read of a, d places deep, and the places on the way -/
def Rp (S : Sto) : Nat → PV → PV → List Addr → Prop
  | 0, a, b, qs => b = a ∧ qs = []
  | d + 1, a, b, qs => match a with
    | .ptr p => ∃ as bs rs, S p = some (.lst as) ∧ b = .lst bs ∧ qs = p :: rs ∧ RpL (Rp S d) as bs rs
    | .lst as => ∃ bs, b = .lst bs ∧ RpL (Rp S d) as bs qs
    | .tup as => ∃ bs, b = .tup bs ∧ RpL (Rp S d) as bs qs
    | a => b = a ∧ qs = []
theorem RpL.imp {L M : PV → PV → List Addr → Prop} : ∀ {as bs : List PV} {qs : List Addr}, (∀ a b rs, (∀ q ∈ rs, q ∈ qs) → L a b rs → M a b rs) → RpL L as bs qs → RpL M as bs qs
  | [], _, _, _, h => h
  | a :: as, _, _, hm, ⟨b, cs, q1, q2, e1, e2, h1, h2⟩ => by
    subst e1 e2
    exact ⟨b, cs, q1, q2, rfl, rfl, hm a b q1 (fun q h => List.mem_append_left _ h) h1, RpL.imp (fun a b rs hs h => hm a b rs (fun q hq => List.mem_append_right _ (hs q hq)) h) h2⟩
theorem Rp.off : ∀ {d : Nat} {a b : PV} {qs : List Addr}, (∀ q ∈ qs, S2 q = S q) → Rp S d a b qs → Rp S2 d a b qs
  | 0, _, _, _, _, h => h
  | d + 1, a, b, qs, e, h => by
    cases a with
    | ptr p =>
      obtain ⟨as, bs, rs, h1, h2, h3, h4⟩ := h
      subst h3
      exact ⟨as, bs, rs, by rw [e p List.mem_cons_self]; exact h1, h2, rfl, h4.imp fun a b ts hs h => Rp.off (fun q hq => e q (List.mem_cons_of_mem _ (hs q hq))) h⟩
    | lst as =>
      obtain ⟨bs, h1, h2⟩ := h
      exact ⟨bs, h1, h2.imp fun a b ts hs h => Rp.off (fun q hq => e q (hs q hq)) h⟩
    | tup as =>
      obtain ⟨bs, h1, h2⟩ := h
      exact ⟨bs, h1, h2.imp fun a b ts hs h => Rp.off (fun q hq => e q (hs q hq)) h⟩
    | _ => exact h
theorem off_app {q1 q2 : List Addr} (h : Off q1 S S2) (k : Off q2 S2 S3) : Off (q1 ++ q2) S S3 := fun r hr => by
  rw [k r fun z => hr (List.mem_append_right _ z), h r fun z => hr (List.mem_append_left _ z)]
/-- what a deep reading asks -/
def LRp (L : PV → (PV → SL.W PV) → SL.W PV) (R : Sto → PV → PV → List Addr → Prop) : Prop := ∀ (P : PV → Prop) (a b : PV) (qs : List Addr) (S : Sto) (k : PV → SL.W PV) (Ψ : PV → Sto → Prop), R S a b qs → qs.Nodup → LightS S → (∀ c, P c → light c = true) → (∀ c, P c → Ψ c S) →
  (∀ S2, (∀ q ∈ qs, S2 q = none) → Off qs S S2 → LightS S2 → ∀ Ψ2, (∀ c, P c → Ψ2 c S2) → k b S2 Ψ2 fun _ _ => False) → L a k S Ψ fun _ _ => False
theorem lendW_rp {L : PV → (PV → SL.W PV) → SL.W PV} {R : Sto → PV → PV → List Addr → Prop} (hL : LRp L R) (hR : ∀ {S S2 a b qs}, (∀ q ∈ qs, S2 q = S q) → R S a b qs → R S2 a b qs) (P : PV → Prop) : ∀ (as bs : List PV) (qs : List Addr) (S : Sto) (k : List PV → SL.W PV) (Ψ : PV → Sto → Prop), RpL (R S) as bs qs → qs.Nodup → LightS S → (∀ c, P c → light c = true) → (∀ c, P c → Ψ c S) →
    (∀ S2, (∀ q ∈ qs, S2 q = none) → Off qs S S2 → LightS S2 → ∀ Ψ2, (∀ c, P c → Ψ2 c S2) → k bs S2 Ψ2 fun _ _ => False) → lendW L as k S Ψ fun _ _ => False
  | [], bs, qs, S, k, Ψ, ⟨e1, e2⟩, _, hS, _, z, h => by
    subst e1 e2
    exact h S (fun _ h => nomatch h) (fun _ _ => rfl) hS Ψ z
  | a :: as, bs, qs, S, k, Ψ, ⟨b, cs, q1, q2, e1, e2, h1, h2⟩, nd, hS, hP, z, h => by
    subst e1 e2
    have nd' := List.nodup_append.mp nd
    have dj : ∀ q ∈ q2, q ∉ q1 := fun q hq h1 => nd'.2.2 q h1 q hq rfl
    rw [lendW]
    refine hL P a b q1 S _ Ψ h1 nd'.1 hS hP z fun S2 n2 o2 l2 Ψ2 z2 => ?_
    refine lendW_rp hL hR P as cs q2 S2 _ Ψ2 (h2.imp fun a b ts hs h => hR (fun q hq => o2 q (dj q (hs q hq))) h) nd'.2.1 l2 hP z2 fun S3 n3 o3 l3 Ψ3 z3 => ?_
    refine h S3 (fun q hq => ?_) (off_app o2 o3) l3 Ψ3 z3
    rcases List.mem_append.mp hq with hq | hq
    · rw [o3 q fun z => dj q z hq]; exact n2 q hq
    · exact n3 q hq
theorem lendN_rp : ∀ d : Nat, LRp (lendN d) fun S => Rp S d
  | 0 => fun P a b qs S k Ψ ⟨e1, e2⟩ nd hS hP z h => by
    subst e1 e2
    exact h S (fun _ h => nomatch h) (fun _ _ => rfl) hS Ψ z
  | d + 1 => fun P a b qs S k Ψ r nd hS hP z h => by
    have id0 : ∀ {a : PV}, b = a ∧ qs = [] → k a S Ψ fun _ _ => False := fun {a} ⟨e1, e2⟩ => by
      subst e1 e2
      exact h S (fun _ h => nomatch h) (fun _ _ => rfl) hS Ψ z
    cases a with
    | ptr p =>
      obtain ⟨as, bs, rs, h1, h2, h3, h4⟩ := r
      subst h2 h3
      have nd' := List.nodup_cons.mp nd
      refine ⟨as, h1, ?_⟩
      refine lendW_rp (lendN_rp d) (fun e h => Rp.off e h) P as bs rs S _ Ψ h4 nd'.2 hS hP z fun S2 n2 o2 l2 Ψ2 z2 => ?_
      have p2 : S2 p = some (.lst as) := by rw [o2 p nd'.1]; exact h1
      refine ⟨p2, ?_⟩
      refine h (rem S2 p) (fun q hq => ?_) (fun r hr => ?_) (light_rem l2) _ fun c pc => ⟨hP c pc, light_rem l2, by rw [put_rem p2]; exact z2 c pc⟩
      · rcases List.mem_cons.mp hq with rfl | hq
        · exact rem_same
        · rw [rem_ne (show q ≠ p from fun e => nd'.1 (by rw [← e]; exact hq))]; exact n2 q hq
      · rw [rem_ne (show r ≠ p from fun e => hr (by rw [e]; exact List.mem_cons_self ..)), o2 r fun z => hr (List.mem_cons_of_mem _ z)]
    | lst as =>
      obtain ⟨bs, h1, h2⟩ := r
      subst h1
      exact lendW_rp (lendN_rp d) (fun e h => Rp.off e h) P as bs qs S _ Ψ h2 nd hS hP z h
    | tup as =>
      obtain ⟨bs, h1, h2⟩ := r
      subst h1
      exact lendW_rp (lendN_rp d) (fun e h => Rp.off e h) P as bs qs S _ Ψ h2 nd hS hP z h
    | _ => exact id0 r
theorem deep_ans {P : PV → Prop} {me : PV → SL.W PV} (hS : LightS S) (r : Rp S d a b qs) (nd : qs.Nodup) (h : ∀ S2, LightS S2 → Ans (me b) S2 P) (hP : ∀ c, P c → light c = true) : Ans (noX (lendN d a me)) S P := fun Ψ Ξ z =>
  lendN_rp d P a b qs S me Ψ r nd hS hP z fun S2 _ _ l2 Ψ2 z2 => h S2 l2 Ψ2 _ fun c pc => z2 c pc
def add (S N : Sto) : Sto := fun p => match N p with
  | some c => some c
  | none => S p
theorem add_none (h : N p = none) : add S N p = S p := by unfold add; rw [h]
theorem add_nil : add S (fun _ => none) = S := rfl
theorem none_of_add (h : add S N p = none) : N p = none := by
  unfold add at h
  split at h
  · cases h
  · assumption
theorem put_add {c : Cl} (h : N p = none) (hp : S p = some c) : put (add (rem S p) N) p c = add S N := by
  funext r
  by_cases e : r = p
  · subst e
    rw [put_same, add_none h, hp]
  · rw [put_ne e]
    unfold add
    rw [rem_ne e]
theorem light_add (h : LightS S) (k : LightS N) : LightS (add S N) := fun r c hc => by
  unfold add at hc
  split at hc
  · rename_i d e
    cases hc
    exact k r _ e
  · exact h r c hc
def LRO (L : PV → (PV → SL.W (List PV)) → SL.W (List PV)) (R : Sto → PV → PV → List Addr → Prop) : Prop := ∀ (P : List PV → Sto → Prop) (a b : PV) (qs : List Addr) (S : Sto) (k : PV → SL.W (List PV)) (Ψ : List PV → Sto → Prop), R S a b qs → qs.Nodup → LightS S → (∀ c N, P c N → lights c = true ∧ LightS N) → (∀ c N, P c N → (∀ q ∈ qs, N q = none) → Ψ c (add S N)) →
  (∀ S2, (∀ q ∈ qs, S2 q = none) → Off qs S S2 → LightS S2 → ∀ Ψ2, (∀ c N, P c N → Ψ2 c (add S2 N)) → k b S2 Ψ2 fun _ _ => False) → L a k S Ψ fun _ _ => False
theorem lendWO_rp {L : PV → (PV → SL.W (List PV)) → SL.W (List PV)} {R : Sto → PV → PV → List Addr → Prop} (hL : LRO L R) (hR : ∀ {S S2 a b qs}, (∀ q ∈ qs, S2 q = S q) → R S a b qs → R S2 a b qs) : ∀ (as : List PV) (P : List PV → Sto → Prop) (bs : List PV) (qs : List Addr) (S : Sto) (k : List PV → SL.W (List PV)) (Ψ : List PV → Sto → Prop), RpL (R S) as bs qs → qs.Nodup → LightS S → (∀ c N, P c N → lights c = true ∧ LightS N) → (∀ c N, P c N → (∀ q ∈ qs, N q = none) → Ψ c (add S N)) →
    (∀ S2, (∀ q ∈ qs, S2 q = none) → Off qs S S2 → LightS S2 → ∀ Ψ2, (∀ c N, P c N → Ψ2 c (add S2 N)) → k bs S2 Ψ2 fun _ _ => False) → lendWO L as k S Ψ fun _ _ => False
  | [], P, bs, qs, S, k, Ψ, ⟨e1, e2⟩, _, hS, _, z, h => by
    subst e1 e2
    exact h S (fun _ h => nomatch h) (fun _ _ => rfl) hS Ψ fun c N p => z c N p fun _ h => nomatch h
  | a :: as, P, bs, qs, S, k, Ψ, ⟨b, cs, q1, q2, e1, e2, h1, h2⟩, nd, hS, hP, z, h => by
    subst e1 e2
    have nd' := List.nodup_append.mp nd
    have dj : ∀ q ∈ q2, q ∉ q1 := fun q hq h1 => nd'.2.2 q h1 q hq rfl
    rw [lendWO]
    refine hL (fun c N => P c N ∧ ∀ q ∈ q2, N q = none) a b q1 S _ Ψ h1 nd'.1 hS (fun c N p => hP c N p.1) (fun c N p n1 => z c N p.1 fun q hq => (List.mem_append.mp hq).elim (n1 q) (p.2 q)) fun S2 n2 o2 l2 Ψ2 z2 => ?_
    refine lendWO_rp hL hR as P cs q2 S2 _ Ψ2 (h2.imp fun a b ts hs h => hR (fun q hq => o2 q (dj q (hs q hq))) h) nd'.2.1 l2 hP (fun c N p n => z2 c N ⟨p, n⟩) fun S3 n3 o3 l3 Ψ3 z3 => ?_
    refine h S3 (fun q hq => ?_) (off_app o2 o3) l3 Ψ3 z3
    rcases List.mem_append.mp hq with hq | hq
    · rw [o3 q fun z => dj q z hq]; exact n2 q hq
    · exact n3 q hq
theorem lendNO_rp : ∀ d : Nat, LRO (lendNO d) fun S => Rp S d
  | 0 => fun P a b qs S k Ψ ⟨e1, e2⟩ nd hS hP z h => by
    subst e1 e2
    exact h S (fun _ h => nomatch h) (fun _ _ => rfl) hS Ψ fun c N p => z c N p fun _ h => nomatch h
  | d + 1 => fun P a b qs S k Ψ r nd hS hP z h => by
    have id0 : ∀ {a : PV}, b = a ∧ qs = [] → k a S Ψ fun _ _ => False := fun {a} ⟨e1, e2⟩ => by
      subst e1 e2
      exact h S (fun _ h => nomatch h) (fun _ _ => rfl) hS Ψ fun c N p => z c N p fun _ h => nomatch h
    cases a with
    | ptr p =>
      obtain ⟨as, bs, rs, h1, h2, h3, h4⟩ := r
      subst h2 h3
      have nd' := List.nodup_cons.mp nd
      refine ⟨as, h1, ?_⟩
      refine lendWO_rp (lendNO_rp d) (fun e h => Rp.off e h) as (fun c N => P c N ∧ N p = none) bs rs S _ Ψ h4 nd'.2 hS (fun c N h => hP c N h.1) (fun c N h n => z c N h.1 fun q hq => (List.mem_cons.mp hq).elim (fun e => e ▸ h.2) (n q)) fun S2 n2 o2 l2 Ψ2 z2 => ?_
      have p2 : S2 p = some (.lst as) := by rw [o2 p nd'.1]; exact h1
      refine ⟨p2, ?_⟩
      refine h (rem S2 p) (fun q hq => ?_) (fun r hr => ?_) (light_rem l2) _ fun c N pc hn => ?_
      · rcases List.mem_cons.mp hq with rfl | hq
        · exact rem_same
        · rw [rem_ne (show q ≠ p from fun e => nd'.1 (by rw [← e]; exact hq))]; exact n2 q hq
      · rw [rem_ne (show r ≠ p from fun e => hr (by rw [e]; exact List.mem_cons_self ..)), o2 r fun z => hr (List.mem_cons_of_mem _ z)]
      · have hn := none_of_add hn
        refine ⟨(hP c N pc).1, light_add (light_rem l2) (hP c N pc).2, ?_⟩
        rw [put_add hn p2]
        exact z2 c N ⟨pc, hn⟩
    | lst as =>
      obtain ⟨bs, h1, h2⟩ := r
      subst h1
      exact lendWO_rp (lendNO_rp d) (fun e h => Rp.off e h) as P bs qs S _ Ψ h2 nd hS hP z h
    | tup as =>
      obtain ⟨bs, h1, h2⟩ := r
      subst h1
      exact lendWO_rp (lendNO_rp d) (fun e h => Rp.off e h) as P bs qs S _ Ψ h2 nd hS hP z h
    | _ => exact id0 r
theorem deepO_ans {P : List PV → Prop} {me : PV → SL.W (List PV)} (hS : LightS S) (r : Rp S d a b qs) (nd : qs.Nodup) (h : ∀ S2, LightS S2 → Ans (me b) S2 P) (hP : ∀ c, P c → lights c = true) : Ans (noX (lendNO d a me)) S P := fun Ψ Ξ z =>
  lendNO_rp d (fun c N => P c ∧ N = fun _ => none) a b qs S me Ψ r nd hS (fun c N h => ⟨hP c h.1, h.2 ▸ fun _ _ e => nomatch e⟩) (fun c N h _ => by rw [h.2, add_nil]; exact z c h.1) fun S2 _ _ l2 Ψ2 z2 => h S2 l2 Ψ2 _ fun c pc => z2 c _ ⟨pc, rfl⟩
theorem rp_int (i : Int) : ∀ d, Rp S d (.int i) (.int i) []
  | 0 => ⟨rfl, rfl⟩
  | _ + 1 => ⟨rfl, rfl⟩
theorem rp_non : ∀ d, Rp S d .non .non []
  | 0 => ⟨rfl, rfl⟩
  | _ + 1 => ⟨rfl, rfl⟩
theorem rp_fr (x : Rat) : ∀ d, Rp S d (fr x) (fr x) []
  | 0 => ⟨rfl, rfl⟩
  | d + 1 => ⟨_, rfl, _, _, [], [], rfl, rfl, rp_int _ d, _, _, [], [], rfl, rfl, rp_int _ d, rfl, rfl⟩
theorem rpL_flat {L : PV → PV → List Addr → Prop} : ∀ {as : List PV}, (∀ a ∈ as, L a a []) → RpL L as as []
  | [], _ => ⟨rfl, rfl⟩
  | a :: as, h => ⟨a, as, [], [], rfl, rfl, h a List.mem_cons_self, rpL_flat fun b hb => h b (List.mem_cons_of_mem _ hb)⟩
/-- what is settled of a, d places deep -/
def Cp (S : Sto) : Nat → PV → PV → List Addr → Prop
  | 0, a, b, qs => b = a ∧ qs = []
  | d + 1, a, b, qs => match a with
    | .ptr p => ∃ as bs rs, S p = some (.lst as) ∧ b = .lst bs ∧ qs = p :: rs ∧ RpL (Cp S d) as bs rs
    | a => b = a ∧ qs = []
theorem Cp.off : ∀ {d : Nat} {a b : PV} {qs : List Addr}, (∀ q ∈ qs, S2 q = S q) → Cp S d a b qs → Cp S2 d a b qs
  | 0, _, _, _, _, h => h
  | d + 1, a, b, qs, e, h => by
    cases a with
    | ptr p =>
      obtain ⟨as, bs, rs, h1, h2, h3, h4⟩ := h
      subst h3
      exact ⟨as, bs, rs, by rw [e p List.mem_cons_self]; exact h1, h2, rfl, h4.imp fun a b ts hs h => Cp.off (fun q hq => e q (List.mem_cons_of_mem _ (hs q hq))) h⟩
    | _ => exact h
end TC
set_option maxHeartbeats 4000000
set_option exponentiation.threshold 2000
namespace B61
open PySem SL NF NT LW
variable [PW]
variable {ca : Nat → Addr} {S : Sto} {p : Addr} {n B : Nat}
def isWh (n : Nat) : PV → Bool
  | .int i => decide (0 ≤ i) && decide (i < n)
  | _ => false
def fit (n : Nat) (k : Nat) (x : PV) : Bool := if k = 0 then isMk x else if k = 1 then isGap x else isWh n x
def kS (k : Nat) : Str := if k = 0 then Str.ofString "mark" else if k = 1 then Str.ofString "cut" else Str.ofString "row"
abbrev wM : Str := Str.ofString "mark"
abbrev wN : Str := Str.ofString "next"
abbrev wT : Str := Str.ofString "not"
abbrev wL : Str := Str.ofString "less"
abbrev wE : Str := Str.ofString "least"
abbrev wO : Str := Str.ofString "most"
def kinds : List (Str × List Nat) := [(wM, [0]), (wN, [2]), (wT, [2]), (wL, [2, 1]), (wE, [2, 2]), (wO, [2, 2])]
def kTup (ks : List Nat) : PV := .tup (ks.map fun k => .str (kS k))
def fitAll (n : Nat) : List Nat → List PV → Bool
  | [], [] => true
  | k :: ks, x :: xs => fit n k x && fitAll n ks xs
  | _, _ => false
def rowOf (n : Nat) (z : Str) (ps : List PV) : Bool := match kinds.lookup z with
  | some ks => fitAll n ks ps
  | none => false
def isRow (n : Nat) : PV → Bool
  | .tup (.str z :: ps) => rowOf n z ps
  | _ => false
def Gd (a : PV) : Prop := Tx a ∧ Ent 200 a
def Sr (a : PV) : Prop := tyN a ≠ none ∧ ∀ as, a = .tup as → as.length ≤ 100 ∧ ∀ x ∈ as, Gd x
theorem lookup_map {α β : Type} (f : α → β) (z : Str) : ∀ l : List (Str × α), List.lookup z (l.map fun q => (q.1, f q.2)) = (List.lookup z l).map f
  | [] => rfl
  | (k, v) :: l => by
    rw [List.map_cons, List.lookup_cons, List.lookup_cons]
    cases (z == k) with
    | true => rfl
    | false => exact lookup_map f z l
abbrev tab6 : List (Str × PV) := [(PySem.Str.ofString "mark", (.tup [(.str (PySem.Str.ofString "mark"))])), (PySem.Str.ofString "next", (.tup [(.str (PySem.Str.ofString "row"))])), (PySem.Str.ofString "not", (.tup [(.str (PySem.Str.ofString "row"))])), (PySem.Str.ofString "less", (.tup [(.str (PySem.Str.ofString "row")), (.str (PySem.Str.ofString "cut"))])), (PySem.Str.ofString "least", (.tup [(.str (PySem.Str.ofString "row")), (.str (PySem.Str.ofString "row"))])), (PySem.Str.ofString "most", (.tup [(.str (PySem.Str.ofString "row")), (.str (PySem.Str.ofString "row"))]))]
theorem tab_look (z : Str) : List.lookup z tab6 = (kinds.lookup z).map kTup := lookup_map kTup z kinds
theorem look_mem {z : Str} {ks : List Nat} : ∀ {l : List (Str × List Nat)}, l.lookup z = some ks → (z, ks) ∈ l
  | [], h => by cases h
  | (k, v) :: l, h => by
    rw [List.lookup_cons] at h
    cases e : (z == k) with
    | true => rw [e] at h; cases h; rw [eq_of_beq e]; exact List.mem_cons_self ..
    | false => rw [e] at h; exact List.mem_cons_of_mem _ (look_mem h)
theorem kinds_mem {z : Str} {ks : List Nat} (h : kinds.lookup z = some ks) : ∀ k ∈ ks, k ≤ 2 :=
  (show ∀ q ∈ kinds, ∀ k ∈ q.2, k ≤ 2 by decide) _ (look_mem h)
theorem kinds_len {z : Str} {ks : List Nat} (h : kinds.lookup z = some ks) : ks.length ≤ 10 :=
  (show ∀ q ∈ kinds, q.2.length ≤ 10 by decide) _ (look_mem h)
theorem wh_eq (x : PV) (h : tyN x ≠ none) : F_is_whole_within ca x (.int 0) (.int ((n : Int) - 1)) = ret (.v (.bl (isWh n x))) := by
  have e := whole_eq (ca := ca) x h
  unfold F_is_whole_within B_is_whole_within
  rw [call1 e]
  cases x with
  | int i =>
    have : decide (i ≤ (n : Int) - 1) = decide (i < n) := decide_eq_decide.mpr (by omega)
    by_cases c : 0 ≤ i <;> simp [isI, isWh, leU, this, c]
  | _ => simp [isI, isWh]
theorem fits_eq {k : Nat} {x : PV} (hk : k ≤ 2) (h : Gd x) : F_fits ca (.str (kS k)) (natP n) x = ret (.v (.bl (fit n k x))) := by
  have e1 : op2 subF (SL.ret (natP n)) (SL.ret (.int 1)) = ret (.int ((n : Int) - 1)) := by simp
  unfold F_fits B_fits
  rw [e1]
  rcases (show k = 0 ∨ k = 1 ∨ k = 2 by omega) with rfl | rfl | rfl
  · have : decide (kS 0 = PySem.Str.ofString "mark") = true := by decide +kernel
    rw [call1 (mark_any x h.1)]
    simp [this, fit]
  · have d1 : decide (kS 1 = PySem.Str.ofString "mark") = false := by decide +kernel
    have d2 : decide (kS 1 = PySem.Str.ofString "cut") = true := by decide +kernel
    rw [call1 (gap_eq x h.2)]
    simp [d1, d2, fit]
  · have d1 : decide (kS 2 = PySem.Str.ofString "mark") = false := by decide +kernel
    have d2 : decide (kS 2 = PySem.Str.ofString "cut") = false := by decide +kernel
    rw [call3 (wh_eq x h.1.1)]
    simp [d1, d2, fit]
theorem comp_eq : ∀ (ks : List Nat) (ps : List PV), (∀ k ∈ ks, k ≤ 2) → (∀ x ∈ ps, Gd x) → ks.length ≤ 10 → lcO (tupF2 some some) (fun _ => SL.ret true) (E_is_sheet_row_1 ca (natP n)) (ret (zipF (ks.map fun k => .str (kS k)) ps)) = ret ((ks.zip ps).map fun q => .bl (fit n q.1 q.2)) := fun ks ps hk hp hl => by
  have e : ∀ (ks : List Nat) (ps : List PV), zipF (ks.map fun k => PV.str (kS k)) ps = (ks.zip ps).map fun q => .tup [.str (kS q.1), q.2] := fun ks => by
    induction ks with
    | nil => intro ps; rfl
    | cons k ks ih =>
      intro ps
      cases ps with
      | nil => rfl
      | cons p ps => simp only [List.map_cons, zipF, ih, List.zip_cons_cons]
  rw [e]
  refine lcO_mapF (u := fun q : Nat × PV => (PV.str (kS q.1), q.2)) (by rw [List.length_zip]; omega) (fun q _ => rfl) fun q hq => ?_
  have h1 := List.of_mem_zip hq
  unfold E_is_sheet_row_1
  exact call3 (fits_eq (hk _ h1.1) (hp _ h1.2))
theorem fitAll_zip : ∀ (ks : List Nat) (ps : List PV), fitAll n ks ps = (decide (ps.length = ks.length) && (ks.zip ps).all fun q => fit n q.1 q.2)
  | [], [] => rfl
  | [], p :: ps => rfl
  | k :: ks, [] => rfl
  | k :: ks, p :: ps => by
    rw [fitAll, fitAll_zip ks ps]
    have : decide ((p :: ps).length = (k :: ks).length) = decide (ps.length = ks.length) := decide_eq_decide.mpr (by simp)
    rw [this, List.zip_cons_cons, List.all_cons]
    cases fit n k p <;> cases decide (ps.length = ks.length) <;> simp
theorem isT_eq (a : PV) (h : tyN a ≠ none) : (∃ as, a = .tup as) ∨ ((∀ as, a ≠ .tup as) ∧ isiB "tuple" a = some (.bl false)) := by
  rw [isi_tuple a h]
  cases a <;> first | exact .inl ⟨_, rfl⟩ | exact .inr ⟨(fun z e => nomatch e), rfl⟩
theorem cut1 (x : PV) (ps : List PV) : cutT (SL.ret (.tup (x :: ps))) (partW (SL.ret (.int 1))) noPart = ret (.tup ps) := by
  unfold cutT
  rw [r_part, r_bind, r_bind, show noPart = SL.ret none from rfl, r_bind]
  show SL.lift (some (PV.tup (WL.cut (x :: ps) (some 1) none))) = _
  have : WL.cut (x :: ps) (some 1) none = ps := by
    unfold WL.cut HT.sIx
    simp
  rw [this, r_lift]
theorem row_eq {a : PV} (h : Sr a) : F_is_sheet_row ca (natP n) a = ret (.v (.bl (isRow n a))) := by
  unfold F_is_sheet_row B_is_sheet_row
  rcases isT_eq a h.1 with ⟨as, rfl⟩ | ⟨hz, e⟩
  · obtain ⟨hl, hg⟩ := h.2 as rfl
    have e0 := isi_tuple (.tup as) h.1
    cases as with
    | nil => simp [e0, isRow]
    | cons x ps =>
      have hx := hg x (List.mem_cons_self ..)
      rcases isS_eq x hx.1.1 with ⟨z, rfl⟩ | ⟨hn, e⟩
      · have e1 := isi_str (.str z) hx.1.1
        have i0 : op2 ixF (SL.ret (.tup (.str z :: ps))) (SL.ret (.int 0)) = ret (.str z) := by simp
        have ez : op2 eqF (cb lenF (vcons (SL.ret (.tup (.str z :: ps))) vnil)) (SL.ret (.int 0)) = ret (.bl false) := by
          have : decide (((ps.length : Int) + 1) = 0) = false := decide_eq_false (by omega)
          simp [this]
        have it : op1 (inTab true tab6) (SL.ret (.str z)) = ret (.bl (!(kinds.lookup z).isSome)) := by
          rw [r_op1]
          show SL.lift (some (PV.bl (true != (List.lookup z tab6).isSome))) = _
          rw [tab_look, r_lift]
          cases kinds.lookup z <;> rfl
        have at_ : op1 (atTab tab6) (SL.ret (.str z)) = SL.lift ((kinds.lookup z).map kTup) := by
          rw [r_op1]
          show SL.lift (List.lookup z tab6) = _
          rw [tab_look]
        have er : isRow n (.tup (.str z :: ps)) = rowOf n z ps := rfl
        rw [i0, ez, it, at_, cut1, er]
        unfold rowOf
        cases hk : kinds.lookup z with
        | none => simp [e0, e1]
        | some ks =>
          have ec := comp_eq (ca := ca) (n := n) ks ps (kinds_mem hk) (fun y hy => hg y (List.mem_cons_of_mem _ hy)) (kinds_len hk)
          have ev : cb allF (vcons (setl (ret ((ks.zip ps).map fun q => PV.bl (fit n q.1 q.2)))) vnil) = ret (.bl ((ks.zip ps).all fun q => fit n q.1 q.2)) := by
            rw [r_setl, r_vnil, r_vcons, r_cb, allF_map, r_lift]
          have el : op2 eqF (cb lenF (vcons (SL.ret (.tup ps)) vnil)) (cb lenF (vcons (SL.ret (kTup ks)) vnil)) = ret (.bl (decide (ps.length = ks.length))) := by
            have : decide ((ps.length : Int) = (ks.length : Int)) = decide (ps.length = ks.length) := decide_eq_decide.mpr (by omega)
            unfold kTup
            simp [this]
          have ez2 : itZT (vcons (SL.ret (kTup ks)) (vcons (SL.ret (.tup ps)) vnil)) = ret (zipF (ks.map fun k => .str (kS k)) ps) := by
            unfold kTup
            simp
          show runF (SL.bind _ _) = ret (.v (.bl (fitAll n ks ps)))
          rw [fitAll_zip]
          simp only [Option.map_some, r_lift, r_bind, el, ez2, ec, ev, Option.isSome_some]
          cases c : decide (ps.length = ks.length) <;> simp [e0, e1]
      · have i0 : op2 ixF (SL.ret (.tup (x :: ps))) (SL.ret (.int 0)) = ret x := by simp
        have ez : op2 eqF (cb lenF (vcons (SL.ret (.tup (x :: ps))) vnil)) (SL.ret (.int 0)) = ret (.bl false) := by
          have : decide (((ps.length : Int) + 1) = 0) = false := decide_eq_false (by omega)
          simp [this]
        have k : isRow n (.tup (x :: ps)) = false := by
          cases x <;> first | rfl | exact absurd rfl (hn _)
        rw [i0, ez, k]
        simp [e0, e]
  · have k : isRow n a = false := by
      cases a <;> first | rfl | exact absurd rfl (hz _)
    rw [k]
    simp [e]
def Eq6 (a : PV) : Prop := Gd a ∧ Tame a 300 2
def Rq (a : PV) : Prop := Sr a ∧ Tame a 1204 3
theorem ent_no {a : PV} (h : tyN a ≠ none) (ht : ∀ as, a ≠ .tup as) : Ent 200 a := ⟨h, fun as e => absurd e (ht as), fun i j e => absurd e (ht _)⟩
theorem tx_no {a : PV} (h : tyN a ≠ none) (hs : ∀ z, a ≠ .str z) : Tx a := ⟨h, fun z e => absurd e (hs z)⟩
theorem eq_of {a : PV} (t : Tame a 300 2) (hs : ∀ z, a ≠ .str z) (ht : ∀ as, a ≠ .tup as) : Eq6 a := ⟨⟨tx_no t.ty hs, ent_no t.ty ht⟩, t⟩
theorem lit_lt {z : Str} (h : z.cps.toList.all (fun c => decide (c < 1114112)) = true) : ∀ c ∈ z.cps.toList, c < 1114112 := fun c hc => by simpa using List.all_eq_true.mp h c hc
theorem tame_lit {z : Str} (h : z.cps.toList.all (fun c => decide (c < 1114112)) = true) (h2 : z.cps.size ≤ 80) : Tame (.str z) 80 0 := tame_text (lit_lt h) h2
theorem eq_text {z : Str} (h : ∀ c ∈ z.cps.toList, c < 1114112) (h2 : z.cps.size ≤ 80) : Eq6 (.str z) := ⟨⟨tx_text h h2, ent_no (by simp [tyN]) fun _ e => by cases e⟩, (tame_text h h2).mono (by decide) (by decide)⟩
theorem eq_lit {z : Str} (h : z.cps.toList.all (fun c => decide (c < 1114112)) = true) (h2 : z.cps.size ≤ 80) : Eq6 (.str z) := eq_text (lit_lt h) h2
theorem eq_mark {z : Str} (h : NF.Mk z) : Eq6 (.str z) := eq_text (fun c hc => by have := h.2.2 c hc; omega) (by have := h.2.1; omega)
theorem eq_int {i : Int} (h : i.natAbs < 2 ^ 80) : Eq6 (.int i) := eq_of ((tame_int h).mono (by decide) (by decide)) (fun _ e => by cases e) fun _ e => by cases e
theorem eq_two {i j : Int} (t : Tame (.tup [.int i, .int j]) 300 2) (h : i.natAbs < 2 ^ 200 ∧ j.natAbs < 2 ^ 200) : Eq6 (.tup [.int i, .int j]) :=
  ⟨⟨tx_no t.ty (fun _ e => by cases e), ⟨t.ty, (fun as e => by
    cases e
    intro x hx
    simp at hx
    rcases hx with rfl | rfl <;> simp [tyN]), (fun _ _ e => by
    cases e
    exact h)⟩⟩, t⟩
theorem up2 {i : Int} (h : i.natAbs < 2 ^ 80) : i.natAbs < 2 ^ 200 := Nat.lt_of_lt_of_le h (Nat.pow_le_pow_right (by decide) (by decide))
theorem eq_pair {i j : Int} (h : i.natAbs < 2 ^ 80) (h2 : j.natAbs < 2 ^ 80) : Eq6 (.tup [.int i, .int j]) := eq_two (t2 (ti h) (ti h2)) ⟨up2 h, up2 h2⟩
theorem all_n {P : PV → Prop} : ∀ a ∈ ([] : List PV), P a := fun a h => absurd h List.not_mem_nil
theorem all_c {P : PV → Prop} {a : PV} {as : List PV} (h : P a) (hs : ∀ x ∈ as, P x) : ∀ x ∈ a :: as, P x := fun x hx => by
  rcases List.mem_cons.mp hx with rfl | hx
  · exact h
  · exact hs x hx
theorem rq_tup {as : List PV} (hl : as.length ≤ 4) (h : ∀ x ∈ as, Eq6 x) : Rq (.tup as) := by
  have t := tame_tup fun a ha => (h a ha).2
  have : (300 + 1) * as.length ≤ 301 * 4 := Nat.mul_le_mul_left _ hl
  exact ⟨⟨t.ty, fun bs e => by cases e; exact ⟨by omega, fun x hx => (h x hx).1⟩⟩, t.mono (by omega) (by decide)⟩
inductive Tst where
  | mk (z : Str)
  | nx (k : Nat)
  | nt (k : Nat)
  | ls (k : Nat) (x : Rat)
  | lt (k l : Nat)
  | mo (k l : Nat)
def Tst.pv : Tst → PV
  | .mk z => .tup [.str wM, .str z]
  | .nx k => .tup [.str wN, natP k]
  | .nt k => .tup [.str wT, natP k]
  | .ls k x => .tup [.str wL, natP k, fr x]
  | .lt k l => .tup [.str wE, natP k, natP l]
  | .mo k l => .tup [.str wO, natP k, natP l]
def Tst.ok (i : Nat) : Tst → Prop
  | .mk z => NF.Mk z
  | .nx k => k < i
  | .nt k => k < i
  | .ls k x => k < i ∧ 0 ≤ x.num ∧ x.num ≤ x.den ∧ Sz 10 x
  | .lt k l => k < i ∧ l < i
  | .mo k l => k < i ∧ l < i
def stp (acc : List Nat) : Tst → Nat
  | .mk _ => 0
  | .nx k => acc.getD k 0 + 1
  | .nt k => acc.getD k 0
  | .ls k _ => acc.getD k 0
  | .lt k l => max (acc.getD k 0) (acc.getD l 0)
  | .mo k l => max (acc.getD k 0) (acc.getD l 0)
def stps : List Tst → List Nat → List Nat
  | [], acc => acc
  | t :: ts, acc => stps ts (acc ++ [stp acc t])
abbrev intsN (acc : List Nat) : List PV := acc.map natP
theorem at_tab {z : Str} {ks : List Nat} (h : kinds.lookup z = some ks) : op1 (atTab tab6) (SL.ret (.str z)) = ret (kTup ks) := by
  rw [r_op1]
  show SL.lift (List.lookup z tab6) = _
  rw [tab_look, h]
  exact r_lift _
theorem ix_acc {acc : List Nat} {k : Nat} (h : k < acc.length) : op2 ixF (SL.ret (.lst (intsN acc))) (SL.ret (natP k)) = ret (natP (acc.getD k 0)) := by
  rw [r_op2, r_ixL (a := natP (acc.getD k 0)) (by rw [List.getElem?_map, List.getD_eq_getElem?_getD, List.getElem?_eq_getElem h]; rfl), r_lift]
def aheadL (acc : List Nat) : Tst → List Nat
  | .mk _ => []
  | .nx k => [acc.getD k 0]
  | .nt k => [acc.getD k 0]
  | .ls k _ => [acc.getD k 0]
  | .lt k l => [acc.getD k 0, acc.getD l 0]
  | .mo k l => [acc.getD k 0, acc.getD l 0]
def Tst.z : Tst → Str
  | .mk _ => wM
  | .nx _ => wN
  | .nt _ => wT
  | .ls _ _ => wL
  | .lt _ _ => wE
  | .mo _ _ => wO
def Tst.ps : Tst → List PV
  | .mk z => [.str z]
  | .nx k => [natP k]
  | .nt k => [natP k]
  | .ls k x => [natP k, fr x]
  | .lt k l => [natP k, natP l]
  | .mo k l => [natP k, natP l]
def Tst.ks : Tst → List Nat
  | .mk _ => [0]
  | .nx _ => [2]
  | .nt _ => [2]
  | .ls _ _ => [2, 1]
  | .lt _ _ => [2, 2]
  | .mo _ _ => [2, 2]
theorem Tst.pv_eq (t : Tst) : t.pv = .tup (.str t.z :: t.ps) := by cases t <;> rfl
theorem Tst.look : ∀ t : Tst, kinds.lookup t.z = some t.ks
  | .mk _ => (by decide +kernel : kinds.lookup wM = some [0])
  | .nx _ => (by decide +kernel : kinds.lookup wN = some [2])
  | .nt _ => (by decide +kernel : kinds.lookup wT = some [2])
  | .ls _ _ => (by decide +kernel : kinds.lookup wL = some [2, 1])
  | .lt _ _ => (by decide +kernel : kinds.lookup wE = some [2, 2])
  | .mo _ _ => (by decide +kernel : kinds.lookup wO = some [2, 2])
theorem eq_str (a b : Str) : op2 eqF (SL.ret (.str a)) (SL.ret (.str b)) = ret (.bl (decide (a = b))) := by simp
theorem t_row {a : PV} : T_steps_of_2 ca (.str (kS 2), a) = SL.ret true := by
  unfold T_steps_of_2
  have : decide (kS 2 = PySem.Str.ofString "row") = true := by decide +kernel
  rw [eq_str, this, r_tst]
theorem t_no {a : PV} {k : Nat} (h : k < 2) : T_steps_of_2 ca (.str (kS k), a) = SL.ret false := by
  unfold T_steps_of_2
  have : decide (kS k = PySem.Str.ofString "row") = false := by
    have : k = 0 ∨ k = 1 := by omega
    rcases this with rfl | rfl <;> decide +kernel
  rw [eq_str, this, r_tst]
theorem ahead_eq {acc : List Nat} : ∀ {t : Tst}, t.ok acc.length → lcO (tupF2 some some) (T_steps_of_2 ca) (E_steps_of_1 ca (intsN acc)) (ret (zipF (t.ks.map fun k => .str (kS k)) t.ps)) = ret ((aheadL acc t).map natP) := fun {t} h => by
  have one : ∀ k, k < acc.length → E_steps_of_1 ca (intsN acc) (.str (kS 2), natP k) = ret (natP (acc.getD k 0)) := fun k hk => by
    unfold E_steps_of_1
    exact ix_acc hk
  unfold lcO
  cases t with
  | mk z => simp [Tst.ks, Tst.ps, zipF, few, lcF, tupF2, t_no, aheadL]
  | nx k => simp [Tst.ks, Tst.ps, zipF, few, lcF, tupF2, t_row, one k h, aheadL]
  | nt k => simp [Tst.ks, Tst.ps, zipF, few, lcF, tupF2, t_row, one k h, aheadL]
  | ls k x => simp [Tst.ks, Tst.ps, zipF, few, lcF, tupF2, t_row, t_no, one k h.1, aheadL]
  | lt k l => simp [Tst.ks, Tst.ps, zipF, few, lcF, tupF2, t_row, one k h.1, one l h.2, aheadL]
  | mo k l => simp [Tst.ks, Tst.ps, zipF, few, lcF, tupF2, t_row, one k h.1, one l h.2, aheadL]
end B61
set_option maxHeartbeats 4000000
set_option exponentiation.threshold 2000
namespace B61
open PySem SL NF NT LW
variable [PW]
variable {ca : Nat → Addr} {S : Sto} {p : Addr} {n B : Nat}
theorem nat_max (a b : Nat) : (if (b : Int) > (a : Int) then (b : Int) else (a : Int)) = ((max a b : Nat) : Int) := by
  by_cases h : b > a
  · rw [if_pos (by omega)]; congr 1; omega
  · rw [if_neg (by omega)]; congr 1; omega
def deep (acc : List Nat) : Tst → Nat
  | .mk _ => 0
  | .nx k => acc.getD k 0
  | .nt k => acc.getD k 0
  | .ls k _ => acc.getD k 0
  | .lt k l => max (acc.getD k 0) (acc.getD l 0)
  | .mo k l => max (acc.getD k 0) (acc.getD l 0)
theorem deep_eq (acc : List Nat) (t : Tst) : cbK maxDF (vcons (SL.ret (.lst ((aheadL acc t).map natP))) vnil) (vcons (SL.ret (.int 0)) vnil) = ret (natP (deep acc t)) := by
  rw [r_vnil, r_vcons, r_vcons]
  unfold cbK
  rw [r_bind, r_bind]
  cases t with
  | mk z => exact r_lift _
  | nx k => exact r_lift _
  | nt k => exact r_lift _
  | ls k x => exact r_lift _
  | lt k l =>
    show SL.lift (some (PV.int (if ((acc.getD l 0 : Nat) : Int) > ((acc.getD k 0 : Nat) : Int) then ((acc.getD l 0 : Nat) : Int) else ((acc.getD k 0 : Nat) : Int)))) = _
    rw [nat_max]
    exact r_lift _
  | mo k l =>
    show SL.lift (some (PV.int (if ((acc.getD l 0 : Nat) : Int) > ((acc.getD k 0 : Nat) : Int) then ((acc.getD l 0 : Nat) : Int) else ((acc.getD k 0 : Nat) : Int)))) = _
    rw [nat_max]
    exact r_lift _
theorem ix0 (t : Tst) : op2 ixF (SL.ret t.pv) (SL.ret (.int 0)) = ret (.str t.z) := by
  rw [t.pv_eq]
  simp
theorem push_ints {acc : List Nat} {k : Nat} : (intsN acc ++ [natP k]) = intsN (acc ++ [k]) := by
  show acc.map natP ++ [natP k] = (acc ++ [k]).map natP
  rw [List.map_append]
  rfl
theorem step_ans {acc : List Nat} {t : Tst} (hS : LightS S) (h : t.ok acc.length) (hl : acc.length < 1000) : Ans (L_steps_of_3 ca t.pv (intsN acc)) S fun fl => fl = .nx (intsN (acc ++ [stp acc t])) := by
  have e1 : op1 (atTab tab6) (op2 ixF (SL.ret t.pv) (SL.ret (.int 0))) = ret (kTup t.ks) := by rw [ix0, at_tab t.look]
  have e2 : cutT (SL.ret t.pv) (partW (SL.ret (.int 1))) noPart = ret (.tup t.ps) := by rw [t.pv_eq, cut1]
  have e3 : itZT (vcons (SL.ret (kTup t.ks)) (vcons (SL.ret (.tup t.ps)) vnil)) = ret (zipF (t.ks.map fun k => .str (kS k)) t.ps) := by
    unfold kTup
    simp
  unfold L_steps_of_3
  rw [e1, r_bind, e2, e3, ahead_eq h]
  refine Ans.bind (P := (· = .lst ((aheadL acc t).map natP))) (ans_setl (Ps := (· = (aheadL acc t).map natP)) (ans_lendO hS (Ans.ret rfl) fun as e => ?_) fun as e => by rw [e]) fun a ea => ?_
  · rw [e]
    have : ∀ l : List Nat, lights (l.map natP) = true := fun l => by
      induction l with
      | nil => rfl
      | cons a l ih => rw [List.map_cons, lights, ih]; rfl
    exact this _
  subst ea
  rw [deep_eq, r_bind, ix0, eq_str]
  have hf : ∀ b : Bool, ifE (tst (SL.ret (.bl b))) (op2 addF (SL.ret (natP (deep acc t))) (SL.ret (.int 1))) (SL.ret (natP (deep acc t))) = ret (natP (deep acc t + if b = true then 1 else 0)) := fun b => by
    rw [r_tst]
    cases b
    · simp [ifE]
    · have : op2 addF (SL.ret (natP (deep acc t))) (SL.ret (.int 1)) = ret (natP (deep acc t + 1)) := by
        rw [r_op2, r_addI, r_lift]
        congr 2
      simp [ifE, this]
  rw [hf]
  have hs : deep acc t + (if decide (t.z = PySem.Str.ofString "next") = true then 1 else 0) = stp acc t := by
    have d : ∀ z ∈ [wM, wT, wL, wE, wO], decide (z = PySem.Str.ofString "next") = false := by decide +kernel
    have d1 : decide (wN = PySem.Str.ofString "next") = true := by decide +kernel
    cases t with
    | mk z => show 0 + (if decide (wM = _) = true then 1 else 0) = 0; rw [d _ (by simp)]; rfl
    | nx k => show acc.getD k 0 + (if decide (wN = _) = true then 1 else 0) = acc.getD k 0 + 1; rw [d1]; rfl
    | nt k => show acc.getD k 0 + (if decide (wT = _) = true then 1 else 0) = acc.getD k 0; rw [d _ (by simp)]; rfl
    | ls k x => show acc.getD k 0 + (if decide (wL = _) = true then 1 else 0) = acc.getD k 0; rw [d _ (by simp)]; rfl
    | lt k l => show max (acc.getD k 0) (acc.getD l 0) + (if decide (wE = _) = true then 1 else 0) = _; rw [d _ (by simp)]; rfl
    | mo k l => show max (acc.getD k 0) (acc.getD l 0) + (if decide (wO = _) = true then 1 else 0) = _; rw [d _ (by simp)]; rfl
  rw [hs, r_bind, if_pos (by simp; omega), r_lift, r_bind, push_ints, r_bindF_nx]
  exact Ans.ret rfl
def Okk (ts : List Tst) (k : Nat) : Prop := ∀ (i : Nat) (t : Tst), ts[i]? = some t → t.ok (k + i)
theorem Okk.tl {t : Tst} {ts : List Tst} {k : Nat} (h : Okk (t :: ts) k) : t.ok k ∧ Okk ts (k + 1) := ⟨h 0 t rfl, fun i u hu => by
  have := h (i + 1) u hu
  rwa [show k + (i + 1) = k + 1 + i by omega] at this⟩
theorem steps_loop (hS : LightS S) : ∀ (ts : List Tst) (acc : List Nat), Okk ts acc.length → acc.length + ts.length ≤ 1000 → Ans (forW some (L_steps_of_3 ca) (ts.map Tst.pv) (intsN acc)) S fun fl => fl = .nx (intsN (stps ts acc))
  | [], acc, _, _ => Ans.ret rfl
  | t :: ts, acc, h, hl => by
    rw [List.length_cons] at hl
    rw [List.map_cons, r_for1]
    refine Ans.bindF (I := (· = intsN (acc ++ [stp acc t]))) ((step_ans hS h.tl.1 (by omega)).mono fun fl e => ⟨_, e, rfl⟩) fun s e => ?_
    subst e
    exact steps_loop hS ts (acc ++ [stp acc t]) (by rw [List.length_append]; exact h.tl.2) (by simp; omega)
theorem steps_ans {ts : List Tst} (hS : LightS S) (h : Okk ts 0) (hl : ts.length ≤ 100) : Ans (F_steps_of ca (.lst (ts.map Tst.pv))) S fun r => r = .o (intsN (stps ts [])) := by
  unfold F_steps_of B_steps_of
  have e0 : lstO vnil = ret [] := by simp
  rw [e0, r_bind, r_itL, r_bind]
  exact Ans.runF (Ans.bindF (I := (· = intsN (stps ts []))) ((steps_loop (acc := []) hS ts h (by simp; omega)).mono fun fl e => ⟨_, e, rfl⟩) fun s e => by subst e; exact Ans.ret ⟨_, rfl, rfl⟩)
end B61
set_option maxHeartbeats 4000000
set_option exponentiation.threshold 2000
namespace B61
open PySem SL NF NT LW
variable [PW]
variable {ca : Nat → Addr} {S : Sto} {p : Addr} {n B : Nat}
theorem lets_eq (z : Str) (zs : List Str) (neg : Bool) (as : W (List PV)) (h : as = ret (zs.map PV.str)) : op2 (inSF neg) (SL.ret (.str z)) (setl as) = ret (.bl (if neg then !decide (z ∈ zs) else decide (z ∈ zs))) := by
  rw [h, r_setl, r_op2]
  have : inSF neg (.str z) (.lst (zs.map PV.str)) = some (.bl (if neg then !decide (z ∈ zs) else decide (z ∈ zs))) := by
    show (match asSs (zs.map PV.str) with | some zs => some (PV.bl (if neg then !decide (z ∈ zs) else decide (z ∈ zs))) | none => none) = _
    rw [asSs_map]
  rw [this, r_lift]
theorem push_step {acc : List Nat} {k : Nat} {m : W PV} (hl : acc.length < 1000) (h : Ans m S (· = natP k)) : Ans (SL.bindF (SL.bind m fun a => SL.bind (SL.lift (if (intsN acc : List PV).length < 100000 then some (intsN acc ++ [a]) else none)) fun bs => SL.ret (Fl.nx bs)) fun v => SL.ret (Fl.nx v)) S fun fl => fl = .nx (intsN (acc ++ [k])) := by
  refine Ans.bindF (I := (· = intsN (acc ++ [k]))) (Ans.bind h fun a ea => ?_) fun s e => by subst e; exact Ans.ret rfl
  subst ea
  rw [if_pos (by simp; omega), r_lift, r_bind, push_ints]
  exact Ans.ret ⟨_, rfl, rfl⟩
theorem lend_nat {m : W PV} {k : Nat} (hS : LightS S) (h : m = ret (natP k)) : Ans (lend m) S (· = natP k) := by
  subst h
  exact fun Ψ Ξ z => ⟨hS, rfl, hS, z _ rfl⟩
theorem ixk {t : Tst} {i : Nat} {a : PV} (h : (.str t.z :: t.ps)[i]? = some a) : op2 ixF (SL.ret t.pv) (SL.ret (.int (i : Int))) = ret a := by
  rw [t.pv_eq, r_op2]
  show SL.lift (ixF (.tup (.str t.z :: t.ps)) (.int (i : Int))) = _
  have : ixF (.tup (.str t.z :: t.ps)) (.int (i : Int)) = some a := by
    obtain ⟨hl, e⟩ := List.getElem?_eq_some_iff.mp h
    have := atI_nat' (.str t.z :: t.ps) i hl
    rw [e] at this
    exact this
  rw [this, r_lift]
theorem lstep_ans {acc : List Nat} {t : Tst} (hS : LightS S) (h : t.ok acc.length) (hl : acc.length < 1000) : Ans (L__law_steps_1 ca t.pv (intsN acc)) S fun fl => fl = .nx (intsN (acc ++ [stp acc t])) := by
  have em : ∀ z : Str, op2 (inSF false) (SL.ret (.str z)) (setl (lstO (vcons (SL.ret (.str (PySem.Str.ofString "least"))) (vcons (SL.ret (.str (PySem.Str.ofString "most"))) vnil)))) = ret (.bl (decide (z ∈ [wE, wO]))) := fun z => by
    have := lets_eq z [wE, wO] false (lstO (vcons (SL.ret (.str (PySem.Str.ofString "least"))) (vcons (SL.ret (.str (PySem.Str.ofString "most"))) vnil))) (by simp)
    simpa using this
  unfold L__law_steps_1
  rw [ix0, eq_str, r_tst, r_bind, em, r_tst]
  have dm : ∀ z ∈ [wN, wT, wL, wE, wO], decide (z = PySem.Str.ofString "mark") = false := by decide +kernel
  have d2 : ∀ z ∈ [wE, wO], decide (z ∈ [wE, wO]) = true := by decide +kernel
  have d3 : ∀ z ∈ [wN, wT, wL], decide (z ∈ [wE, wO]) = false := by decide +kernel
  have dn : ∀ z ∈ [wT, wL], decide (z = PySem.Str.ofString "next") = false := by decide +kernel
  have d1 : decide (wN = PySem.Str.ofString "next") = true := by decide +kernel
  have wrap : ∀ {m : W (Fl (List PV))} {x : List PV}, Ans m S (fun fl => fl = .nx x) → Ans (SL.bindF m fun v => SL.ret (Fl.nx v)) S fun fl => fl = .nx x := fun {m x} hm => Ans.bindF (I := (· = x)) (hm.mono fun fl e => ⟨_, e, rfl⟩) fun s e => by subst e; exact Ans.ret rfl
  have one : ∀ (k : Nat) (b : Bool), op2 ixF (SL.ret t.pv) (SL.ret (.int 1)) = ret (natP k) → k < acc.length → op2 addF (op2 ixF (SL.ret (.lst (intsN acc))) (op2 ixF (SL.ret t.pv) (SL.ret (.int 1)))) (cb intF (vcons (SL.ret (.bl b)) vnil)) = ret (natP (acc.getD k 0 + if b = true then 1 else 0)) := fun k b e hk => by
    rw [e, ix_acc hk]
    have : cb intF (vcons (SL.ret (.bl b)) vnil) = ret (.int ((if b = true then 1 else 0 : Nat) : Int)) := by
      rw [r_vnil, r_vcons, r_cb]
      cases b <;> exact r_lift _
    rw [this, r_op2, r_addI, r_lift]
    congr 2
  have two : ∀ (k l : Nat), op2 ixF (SL.ret t.pv) (SL.ret (.int 1)) = ret (natP k) → op2 ixF (SL.ret t.pv) (SL.ret (.int 2)) = ret (natP l) → k < acc.length → l < acc.length → cb max2F (vcons (op2 ixF (SL.ret (.lst (intsN acc))) (op2 ixF (SL.ret t.pv) (SL.ret (.int 1)))) (vcons (op2 ixF (SL.ret (.lst (intsN acc))) (op2 ixF (SL.ret t.pv) (SL.ret (.int 2)))) vnil)) = ret (natP (max (acc.getD k 0) (acc.getD l 0))) := fun k l e1 e2 hk hl => by
    rw [e1, e2, ix_acc hk, ix_acc hl, r_vnil, r_vcons, r_vcons, r_cb, r_max2, r_lift, nat_max]
  cases t with
  | mk z =>
    have : decide ((Tst.mk z).z = PySem.Str.ofString "mark") = true := (by decide +kernel : decide (wM = PySem.Str.ofString "mark") = true)
    rw [this, if_pos rfl]
    exact wrap (push_step (k := 0) hl (Ans.ret rfl))
  | nx k =>
    rw [show decide ((Tst.nx k).z = PySem.Str.ofString "mark") = false from dm wN (by simp), if_neg (by decide), r_bind, show decide ((Tst.nx k).z ∈ [wE, wO]) = false from d3 wN (by simp), if_neg (by decide), eq_str, show decide ((Tst.nx k).z = PySem.Str.ofString "next") = true from d1]
    exact wrap (wrap (push_step hl (lend_nat hS (one k true (ixk (i := 1) rfl) h))))
  | nt k =>
    rw [show decide ((Tst.nt k).z = PySem.Str.ofString "mark") = false from dm wT (by simp), if_neg (by decide), r_bind, show decide ((Tst.nt k).z ∈ [wE, wO]) = false from d3 wT (by simp), if_neg (by decide), eq_str, show decide ((Tst.nt k).z = PySem.Str.ofString "next") = false from dn wT (by simp)]
    exact wrap (wrap (push_step hl (lend_nat hS (one k false (ixk (i := 1) rfl) h))))
  | ls k x =>
    rw [show decide ((Tst.ls k x).z = PySem.Str.ofString "mark") = false from dm wL (by simp), if_neg (by decide), r_bind, show decide ((Tst.ls k x).z ∈ [wE, wO]) = false from d3 wL (by simp), if_neg (by decide), eq_str, show decide ((Tst.ls k x).z = PySem.Str.ofString "next") = false from dn wL (by simp)]
    exact wrap (wrap (push_step hl (lend_nat hS (one k false (ixk (i := 1) rfl) h.1))))
  | lt k l =>
    rw [show decide ((Tst.lt k l).z = PySem.Str.ofString "mark") = false from dm wE (by simp), if_neg (by decide), r_bind, show decide ((Tst.lt k l).z ∈ [wE, wO]) = true from d2 wE (by simp), if_pos rfl]
    exact wrap (wrap (push_step hl (lend_nat hS (two k l (ixk (i := 1) rfl) (ixk (i := 2) rfl) h.1 h.2))))
  | mo k l =>
    rw [show decide ((Tst.mo k l).z = PySem.Str.ofString "mark") = false from dm wO (by simp), if_neg (by decide), r_bind, show decide ((Tst.mo k l).z ∈ [wE, wO]) = true from d2 wO (by simp), if_pos rfl]
    exact wrap (wrap (push_step hl (lend_nat hS (two k l (ixk (i := 1) rfl) (ixk (i := 2) rfl) h.1 h.2))))
theorem lsteps_loop (hS : LightS S) : ∀ (ts : List Tst) (acc : List Nat), Okk ts acc.length → acc.length + ts.length ≤ 1000 → Ans (forW some (L__law_steps_1 ca) (ts.map Tst.pv) (intsN acc)) S fun fl => fl = .nx (intsN (stps ts acc))
  | [], acc, _, _ => Ans.ret rfl
  | t :: ts, acc, h, hl => by
    rw [List.length_cons] at hl
    rw [List.map_cons, r_for1]
    refine Ans.bindF (I := (· = intsN (acc ++ [stp acc t]))) ((lstep_ans hS h.tl.1 (by omega)).mono fun fl e => ⟨_, e, rfl⟩) fun s e => ?_
    subst e
    exact lsteps_loop hS ts (acc ++ [stp acc t]) (by rw [List.length_append]; exact h.tl.2) (by simp; omega)
theorem lsteps_ans {ts : List Tst} (hS : LightS S) (h : Okk ts 0) (hl : ts.length ≤ 100) : Ans (F__law_steps ca (.lst (ts.map Tst.pv))) S fun r => r = .o (intsN (stps ts [])) := by
  unfold F__law_steps B__law_steps
  have e0 : lstO vnil = ret [] := by simp
  rw [e0, r_bind, r_itL, r_bind]
  exact Ans.runF (Ans.bindF (I := (· = intsN (stps ts []))) ((lsteps_loop (acc := []) hS ts h (by simp; omega)).mono fun fl e => ⟨_, e, rfl⟩) fun s e => by subst e; exact Ans.ret ⟨_, rfl, rfl⟩)
theorem Tst.fits {t : Tst} {i : Nat} (h : t.ok i) (hi : i ≤ 1500) : isRow i t.pv = true ∧ Rq t.pv := by
  have e : isRow i t.pv = fitAll i t.ks t.ps := by
    rw [t.pv_eq]
    show rowOf i t.z t.ps = _
    unfold rowOf
    rw [t.look]
  rw [e]
  have wi : ∀ k, k < i → fit i 2 (natP k) = true := fun k hk => by
    show isWh i (.int (k : Int)) = true
    unfold isWh
    simp
    omega
  have ei : ∀ k, k < i → Eq6 (natP k) := fun k hk => eq_int (by omega)
  have lit : ∀ z ∈ [wM, wN, wT, wL, wE, wO], z.cps.toList.all (fun c => decide (c < 1114112)) = true ∧ z.cps.size ≤ 80 := by decide +kernel
  have ew : ∀ z ∈ [wM, wN, wT, wL, wE, wO], Eq6 (.str z) := fun z hz => eq_lit (lit z hz).1 (lit z hz).2
  rw [t.pv_eq]
  cases t with
  | mk z =>
    have mz : isMk (.str z) = true := by
      obtain ⟨h1, h2, h3⟩ := id h
      have a3 : z.cps.toList.all sgn = true := List.all_eq_true.mpr fun c hc => by
        obtain ⟨x, y⟩ := h3 c hc
        unfold sgn
        rw [decide_eq_true x, decide_eq_true y]
        rfl
      unfold isMk
      simp only
      rw [decide_eq_true h1, decide_eq_true h2, a3]
      rfl
    exact ⟨by simp [fitAll, fit, mz, Tst.ks, Tst.ps], rq_tup (by simp [Tst.ps]) (all_c (ew wM (by simp)) (all_c (eq_mark h) all_n))⟩
  | nx k => exact ⟨by simp [fitAll, wi k h, Tst.ks, Tst.ps], rq_tup (by simp [Tst.ps]) (all_c (ew wN (by simp)) (all_c (ei k h) all_n))⟩
  | nt k => exact ⟨by simp [fitAll, wi k h, Tst.ks, Tst.ps], rq_tup (by simp [Tst.ps]) (all_c (ew wT (by simp)) (all_c (ei k h) all_n))⟩
  | ls k x =>
    obtain ⟨h1, h2, h3, h4⟩ := id h
    have g : fit i 1 (fr x) = true := by
      show isGap (fr x) = true
      rw [isGap_fr, decide_eq_true h2, decide_eq_true h3]
      rfl
    have ex : Eq6 (fr x) := eq_pair (Nat.lt_of_lt_of_le h4.1 (Nat.pow_le_pow_right (by decide) (by decide))) (by
      have := h4.2
      exact Nat.lt_of_lt_of_le (show ((x.den : Int)).natAbs < 2 ^ 10 by simpa using this) (Nat.pow_le_pow_right (by decide) (by decide)))
    exact ⟨by simp [fitAll, wi k h1, g, Tst.ks, Tst.ps], rq_tup (by simp [Tst.ps]) (all_c (ew wL (by simp)) (all_c (ei k h1) (all_c ex all_n)))⟩
  | lt k l => exact ⟨by simp [fitAll, wi k h.1, wi l h.2, Tst.ks, Tst.ps], rq_tup (by simp [Tst.ps]) (all_c (ew wE (by simp)) (all_c (ei k h.1) (all_c (ei l h.2) all_n)))⟩
  | mo k l => exact ⟨by simp [fitAll, wi k h.1, wi l h.2, Tst.ks, Tst.ps], rq_tup (by simp [Tst.ps]) (all_c (ew wO (by simp)) (all_c (ei k h.1) (all_c (ei l h.2) all_n)))⟩
end B61
set_option maxHeartbeats 4000000
set_option exponentiation.threshold 2000
namespace B61
open PySem SL NF NT LW TC
variable [PW]
variable {ca : Nat → Addr} {S S2 : Sto} {p x : Addr} {n B : Nat} {L L' : List PV} {r : PV} {qs : List Addr}
def sh (ca : Nat → Addr) (L : List PV) : PV := .ins (ca 1) nsS [.lst L]
theorem lkr (a : PV) : List.lookup (Str.ofString "kept_rows") [(Str.ofString "kept_rows", a)] = some a := by rw [List.lookup_cons, beq_self_eq_true]
theorem rows_eq : methO (ca 1) "rows" (ar1 (NT.F_Sheet_rows ca)) (SL.ret (sh ca L)) vnil = ret L := by
  rw [r_vnil]
  unfold methO sh
  rw [r_methR _ _ _ _ _ _ (by decide)]
  unfold F_Sheet_rows B_Sheet_rows
  simp [lkr, listF, nsS]
theorem len_eq (hl : L.length ≤ 1500) : lenOW (ca 1) (ar1 (NT.F_Sheet___len__ ca)) (SL.ret (sh ca L)) = ret (.int (L.length : Int)) := by
  have e : F_Sheet___len__ ca (sh ca L) = ret (.v (.int (L.length : Int))) := by
    unfold F_Sheet___len__ B_Sheet___len__ sh
    simp [lkr, nsS]
  unfold sh at e ⊢
  rw [r_lenOW _ _ _ _ (by decide)]
  have le : lenOf (.v (.int (L.length : Int))) = some (.int (L.length : Int)) := by
    unfold lenOf
    exact if_pos ⟨by omega, by omega⟩
  rw [r_ar1, e, r_noX, r_bind, le, r_lift]
theorem emp : Str.empty ++ Str.ofString "Sheet(" = Str.ofString "Sheet(" := by decide +kernel
def shT (n : Nat) : Str := (Str.ofString "Sheet(" ++ (toString (n : Int) : String)) ++ Str.ofString " rows)"
theorem shT_eq (n : Nat) : shText n = shT n := by
  unfold shText
  rw [emp]
  rfl
theorem sh_len : ∀ n ∈ List.range 100, (shT n).length ≤ 100 ∧ (Str.ofString "Sheet(" ++ (toString (n : Int) : String)).length ≤ 100 ∧ (Str.ofString "Sheet(").length + (Str.ofString (toString (n : Int))).length ≤ 100 ∧ (Str.ofString "Sheet(" ++ (toString (n : Int) : String)).length + (Str.ofString " rows)").length ≤ 100 := by decide +kernel
theorem rep_eq (hl : L.length ≤ 1500) : op1 (repOF (ca 1) nsS txS) (SL.ret (sh ca L)) = ret (.str (shT L.length)) := by
  rw [r_op1]
  have : repOF (ca 1) nsS txS (sh ca L) = some (.str (shT L.length)) := by
    unfold repOF txO sh
    simp only [and_self, if_true]
    show Option.map PV.str (if L.length ≤ 100000 then some (shText L.length) else none) = _
    rw [if_pos (by omega), shT_eq]
    rfl
  rw [this, r_lift]
theorem law_text (hl : L.length < 100) : op2 addF (op2 addF (SL.ret (.str (PySem.Str.ofString "Sheet("))) (cb strIF (vcons (cb lenF (vcons (SL.ret (.lst L)) vnil)) vnil))) (SL.ret (.str (PySem.Str.ofString " rows)"))) = ret (.str (shT L.length)) := by
  have hn := sh_len L.length (List.mem_range.mpr hl)
  have e1 : cb lenF (vcons (SL.ret (.lst L)) vnil) = ret (.int (L.length : Int)) := by simp
  have e2 : cb strIF (vcons (SL.ret (.int (L.length : Int))) vnil) = ret (.str (Str.ofString (toString (L.length : Int)))) := by
    rw [r_vnil, r_vcons, r_cb]
    show SL.lift (if ((L.length : Int)).natAbs.log2 < 1920 then some (PV.str (toString (L.length : Int) : String)) else none) = _
    rw [if_pos (sh_small (by omega)), r_lift]
  rw [e1, e2, r_op2]
  have a1 : addF (.str (Str.ofString "Sheet(")) (.str (Str.ofString (toString (L.length : Int)))) = some (.str (Str.ofString "Sheet(" ++ (toString (L.length : Int) : String))) := by
    simp only [addF]
    rw [if_pos (by have := hn.2.2.1; omega)]
  have a2 : addF (.str (Str.ofString "Sheet(" ++ (toString (L.length : Int) : String))) (.str (Str.ofString " rows)")) = some (.str (shT L.length)) := by
    simp only [addF]
    rw [if_pos (by have := hn.2.2.2; omega)]
    rfl
  rw [a1, r_lift, r_op2, a2, r_lift]
theorem str_eq (hl : L.length < 100) : strOW (ca 1) (ar1 (NT.F_Sheet___str__ ca)) (SL.ret (sh ca L)) = ret (.str (shT L.length)) := by
  have hn := sh_len L.length (List.mem_range.mpr hl)
  have r : ∀ (c : Addr) (F : List PV → W RV) (ns : List Str) (as : List PV), ns.contains "" = false → strOW c F (ret (.ins c ns as)) = SL.bind (noX (F [.ins c ns as])) fun r => lift (strOf r) := fun c F ns as h => by
    funext S Ψ Ξ
    show (∃ u, isObj c "" S (.ins c ns as) = some u ∧ _) = _
    have e : isObj c "" S (.ins c ns as) = some () := if_pos ⟨rfl, h⟩
    rw [e]
    exact propext ⟨fun ⟨u, _, z⟩ => z, fun z => ⟨(), rfl, z⟩⟩
  have e : F_Sheet___str__ ca (sh ca L) = ret (.v (.str (shT L.length))) := by
    have f : fldW (ca 1) "kept_rows" (SL.ret (sh ca L)) = ret (.lst L) := by
      unfold sh
      simp [lkr, nsS]
    have e1 : cb lenF (vcons (SL.ret (.lst L)) vnil) = ret (.int (L.length : Int)) := by simp
    unfold F_Sheet___str__ B_Sheet___str__
    rw [f, e1]
    unfold fstrW jsL jsF jsN
    have f1 : fmtT (.int (L.length : Int)) = some (Str.ofString (toString (L.length : Int))) := by
      show (if ((L.length : Int)).natAbs.log2 < 1920 then some (Str.ofString (toString (L.length : Int))) else none) = _
      rw [if_pos (sh_small (by omega))]
    have c1 : (Str.ofString "Sheet(").length ≤ 4000000 := by decide +kernel
    have c2 : (Str.ofString "Sheet(" ++ Str.ofString (toString (L.length : Int))).length ≤ 4000000 := by
      have := hn.2.1
      exact Nat.le_trans this (by decide)
    have c3 : (Str.ofString "Sheet(" ++ Str.ofString (toString (L.length : Int)) ++ Str.ofString " rows)").length ≤ 4000000 := by
      have := hn.1
      exact Nat.le_trans this (by decide)
    simp only [r_bind, if_pos c1, r_lift, emp, f1, if_pos c2, if_pos c3]
    rfl
  unfold sh at e ⊢
  rw [r _ _ _ _ (by decide)]
  simp [e, strOf]
end B61
set_option maxHeartbeats 4000000
set_option exponentiation.threshold 2000
namespace B61
open PySem SL NF NT LW TC
variable [PW]
variable {ca : Nat → Addr} {S S2 : Sto} {p x : Addr} {n B : Nat} {L L' : List PV} {r b : PV} {qs : List Addr} {ts us : List Tst}
def Tst.d : Tst → PyData
  | .mk z => .tuple [.str wM, .str z]
  | .nx k => .tuple [.str wN, .int (k : Int)]
  | .nt k => .tuple [.str wT, .int (k : Int)]
  | .ls k x => .tuple [.str wL, .int (k : Int), .tuple [.int x.num, .int (x.den : Int)]]
  | .lt k l => .tuple [.str wE, .int (k : Int), .int (l : Int)]
  | .mo k l => .tuple [.str wO, .int (k : Int), .int (l : Int)]
theorem toD_t (t : Tst) : toD t.pv = some t.d := by cases t <;> rfl
theorem toDs_t : ∀ ts : List Tst, toDs (ts.map Tst.pv) = some (ts.map Tst.d)
  | [] => rfl
  | t :: ts => by
    show (match toD t.pv, toDs (ts.map Tst.pv) with | some d, some ds => some (d :: ds) | _, _ => none) = _
    rw [toD_t, toDs_t ts]
    rfl
theorem toD_ts (ts : List Tst) : toD (.lst (ts.map Tst.pv)) = some (.list (ts.map Tst.d)) := by simp only [toD, toDs_t]
def WF (ts : List Tst) : Prop := ∀ t ∈ ts, ∃ n, t.ok n
theorem Okk.wf {k : Nat} (h : Okk ts k) : WF ts := fun t ht => by
  obtain ⟨i, hi⟩ := List.mem_iff_getElem?.mp ht
  exact ⟨_, h i t hi⟩
theorem w_ok : ∀ z ∈ [wM, wN, wT, wL, wE, wO], PyData.strOk z = true := by decide +kernel
theorem t_lay {t : Tst} (h : ∃ n, t.ok n) : t.d.canLay0 = true := by
  obtain ⟨n, h⟩ := h
  cases t with
  | mk z =>
    have hz : PyData.strOk z = true := ((eq_mark h).1.1.2 z rfl).2
    simp [Tst.d, PyData.canLay0, PyData.canLayAll0, hz, w_ok wM (by simp)]
  | nx k => simp [Tst.d, PyData.canLay0, PyData.canLayAll0, w_ok wN (by simp)]
  | nt k => simp [Tst.d, PyData.canLay0, PyData.canLayAll0, w_ok wT (by simp)]
  | ls k x => simp [Tst.d, PyData.canLay0, PyData.canLayAll0, w_ok wL (by simp)]
  | lt k l => simp [Tst.d, PyData.canLay0, PyData.canLayAll0, w_ok wE (by simp)]
  | mo k l => simp [Tst.d, PyData.canLay0, PyData.canLayAll0, w_ok wO (by simp)]
theorem t_dep (t : Tst) : t.d.depth ≤ 2 := by cases t <;> simp [Tst.d, PyData.depth, PyData.depthAll]
theorem t_nod (t : Tst) : t.d.hasDict = false := by cases t <;> simp [Tst.d, PyData.hasDict, PyData.hasDictAll]
theorem shp_ts (h : WF ts) : SeqAt.shaped (.list (ts.map Tst.d)) = true := shp (k := 2) (fun t ht => t_lay (h t ht)) (fun t _ => t_dep t) (by decide)
theorem nod_ts (ts : List Tst) : (PyData.list (ts.map Tst.d)).hasDict = false := nods fun t _ => t_nod t
def EQ (ts us : List Tst) : Bool := PyData.eqv (.list (ts.map Tst.d)) (.list (us.map Tst.d))
theorem eq_rows (h : WF ts) (k : WF us) : eqF (.lst (ts.map Tst.pv)) (.lst (us.map Tst.pv)) = some (.bl (EQ ts us)) := eqF_data (toD_ts ts) (toD_ts us) (shp_ts h) (shp_ts k) (nod_ts ts) (nod_ts us) fun z e => by cases e
theorem ne_rows (h : WF ts) (k : WF us) : neF (.lst (ts.map Tst.pv)) (.lst (us.map Tst.pv)) = some (.bl (!EQ ts us)) := neF_data (toD_ts ts) (toD_ts us) (shp_ts h) (shp_ts k) (nod_ts ts) (nod_ts us) fun z e => by cases e
theorem EQ_refl (h : WF ts) : EQ ts ts = true := SeqAt.eqv_refl _ (SeqAt.canLay_of_shaped (shp_ts h))
theorem EQ_comm (ts us : List Tst) : EQ ts us = EQ us ts := PySem.W.eqv_comm _ _
theorem fld_sh : fldW (ca 1) "kept_rows" (SL.ret (sh ca L)) = ret (.lst L) := by
  unfold sh
  simp [lkr, nsS]
theorem isi_sh : isiF oddB [(ca 1, true)] (sh ca L) = some (.bl true) := by
  unfold sh isiF
  simp [List.lookup]
theorem seq_eq (h : WF ts) (k : WF us) : F_Sheet___eq__ ca (sh ca (ts.map Tst.pv)) (sh ca (us.map Tst.pv)) = ret (.v (.bl (EQ ts us))) := by
  unfold F_Sheet___eq__ B_Sheet___eq__
  rw [r_op1, isi_sh, fld_sh, fld_sh, r_op2, eq_rows h k]
  simp
theorem seq_no (h : isiF oddB [(ca 1, true)] b = some (.bl false)) : F_Sheet___eq__ ca (sh ca L) b = ret (.v (.bl false)) := by
  unfold F_Sheet___eq__ B_Sheet___eq__
  rw [r_op1, h]
  simp
theorem obj_sh (S : Sto) : isObj (ca 1) "" S (sh ca L) = some () := if_pos ⟨rfl, by decide⟩
theorem r_look {α : Type} {f : Sto → Option Unit} {k : Unit → W α} (h : ∀ S, f S = some ()) : SL.bind (look f) k = k () := by
  funext S Ψ Ξ
  show (∃ u, f S = some u ∧ _) = _
  rw [h]
  exact propext ⟨fun ⟨u, _, z⟩ => z, fun z => ⟨(), rfl, z⟩⟩
theorem eqA_sh (h : WF ts) (k : WF us) : eqAW (ca 1) (ar2 (F_Sheet___eq__ ca)) (SL.ret (sh ca (ts.map Tst.pv))) (SL.ret (sh ca (us.map Tst.pv))) = ret (.bl (EQ ts us)) := by
  unfold eqAW
  rw [r_bind, r_bind, r_look (fun S => obj_sh S), r_look (fun S => by show (if kindP (sh ca _) = true then some () else isObj (ca 1) "" S (sh ca _)) = _; rw [show kindP (sh ca (us.map Tst.pv)) = false from rfl, if_neg (by decide)]; exact obj_sh S), r_ar2, seq_eq h k, r_noX, r_bind]
  exact r_lift _
theorem eqA_no (h : isiF oddB [(ca 1, true)] b = some (.bl false)) (k : kindP b = true) : eqAW (ca 1) (ar2 (F_Sheet___eq__ ca)) (SL.ret (sh ca L)) (SL.ret b) = ret (.bl false) := by
  unfold eqAW
  rw [r_bind, r_bind, r_look (fun S => obj_sh S), r_look (fun S => by show (if kindP b = true then some () else isObj (ca 1) "" S b) = _; rw [if_pos k]), r_ar2, seq_no h, r_noX, r_bind]
  exact r_lift _
theorem in_no (h : isiF oddB [(ca 1, true)] b = some (.bl false)) (k : kindP b = true) {m : W PV} (e : m = ret (.lst [b])) : Ans (inOW false (ca 1) (ar2 (F_Sheet___eq__ ca)) (SL.ret (sh ca L)) m) S (· = .bl false) := fun Ψ Ξ z => by
  subst e
  unfold inOW
  have g : SL.guard (insOf (ca 1) (sh ca L)) = some () := by
    unfold sh insOf SL.guard
    simp
  rw [r_bind, r_bind, show asL (.lst [b]) = some [b] from rfl, r_lift, r_bind, g, r_lift, r_bind]
  refine .inl ⟨k, ?_⟩
  rw [r_ar2, seq_no h, r_noX, r_bind, show eqOf (.v (.bl false)) = some (.bl false) from rfl, r_lift, r_bind, show isB (.bl false) = some false from rfl, r_lift, r_bind, if_neg (by decide)]
  exact z _ rfl
theorem in_twin (w : WF ts) {m : W PV} (e : m = ret (.lst [.non, sh ca (ts.map Tst.pv)])) (h : isiF oddB [(ca 1, true)] .non = some (.bl false)) : Ans (inOW true (ca 1) (ar2 (F_Sheet___eq__ ca)) (SL.ret (sh ca (ts.map Tst.pv))) m) S (· = .bl false) := fun Ψ Ξ z => by
  subst e
  unfold inOW
  have g : ∀ L, SL.guard (insOf (ca 1) (sh ca L)) = some () := fun L => by
    unfold sh insOf SL.guard
    simp
  rw [r_bind, r_bind, show asL (.lst [.non, sh ca (ts.map Tst.pv)]) = some [.non, sh ca (ts.map Tst.pv)] from rfl, r_lift, r_bind, g, r_lift, r_bind]
  refine .inl ⟨rfl, ?_⟩
  rw [r_ar2, seq_no h, r_noX, r_bind, show eqOf (.v (.bl false)) = some (.bl false) from rfl, r_lift, r_bind, show isB (.bl false) = some false from rfl, r_lift, r_bind, if_neg (by decide)]
  refine .inr ⟨?_, z _ rfl, ?_⟩
  · unfold sh insOf
    simp
  rw [r_ar2, seq_eq w w, EQ_refl w, r_noX, r_bind, show eqOf (.v (.bl true)) = some (.bl true) from rfl, r_lift, r_bind, show isB (.bl true) = some true from rfl, r_lift, r_bind, if_pos rfl]
  exact z _ rfl
theorem crow_loop : ∀ (ts : List Tst) (k : Nat), Okk ts k → k + ts.length ≤ 1500 → forW (tupF2 some some) (L_check_rows_1 ca) (enumF k (ts.map Tst.pv)) () = ret (.nx ())
  | [], _, _, _ => rfl
  | t :: ts, k, h, hl => by
    rw [List.length_cons] at hl
    obtain ⟨f1, f2⟩ := Tst.fits h.tl.1 (by omega)
    have e : L_check_rows_1 ca (natP k, t.pv) () = ret (.nx ()) := by
      unfold L_check_rows_1
      have := row_eq (ca := ca) (n := k) f2.1
      rw [f1] at this
      simp only
      rw [call2 this]
      simp
    show forW (tupF2 some some) (L_check_rows_1 ca) (.tup [natP k, t.pv] :: enumF (k + 1) (ts.map Tst.pv)) () = _
    rw [r_for2, e, r_bindF_nx]
    exact crow_loop ts (k + 1) h.tl.2 (by omega)
theorem check_eq (h : Okk ts 0) (l1 : 1 ≤ ts.length) (hl : ts.length ≤ 100) : F_check_rows ca (.lst (ts.map Tst.pv)) = ret (.v .non) := by
  have hi := isi_list (.lst (ts.map Tst.pv)) (by simp [tyN])
  have ch : chain leU leU (SL.ret (.int 1)) (cb lenF (vcons (SL.ret (.lst (ts.map Tst.pv))) vnil)) (SL.ret (.int 1500)) = ret (.bl true) := by
    have a1 : (1 : Int) ≤ ts.length := by omega
    have a2 : (ts.length : Int) ≤ 1500 := by omega
    simp [leU, a1, a2]
  have lp := crow_loop (ca := ca) ts 0 h (by omega)
  unfold F_check_rows B_check_rows
  rw [ch, r_vnil, r_vcons, r_itE]
  simp [hi, lp]
theorem light_t (t : Tst) : light t.pv = true := by cases t <;> rfl
theorem lights_ts : ∀ ts : List Tst, lights (ts.map Tst.pv) = true
  | [] => rfl
  | t :: ts => by rw [List.map_cons, lights, light_t, lights_ts ts]; rfl
theorem make_ans (h : Okk ts 0) (l1 : 1 ≤ ts.length) (hl : ts.length ≤ 100) (hS : LightS S) (rp : ∀ S2, (∀ q ∈ qs, S2 q = S q) → Rp S2 3 r (.lst (ts.map Tst.pv)) qs) (nq : ∀ q ∈ qs, S q ≠ none) (nd : qs.Nodup) : Ans (makeW (ca 1) (ar2 (F_Sheet___init__ ca)) [] (vcons (SL.ret r) vnil)) S (· = sh ca (ts.map Tst.pv)) := by
  rw [r_vnil, r_vcons]
  intro Ψ Ξ z x dx hx hd
  have l0 : LightS (put S x (.ins (ca 1) dx [] [])) := light_put hS rfl
  have rp' := rp (put S x (.ins (ca 1) dx [] [])) fun q hq => put_ne fun e => nq q hq (by rw [e]; exact hx)
  show F_Sheet___init__ ca (.ptr x) r (put S x (.ins (ca 1) dx [] [])) _ _
  unfold F_Sheet___init__ withP B_Sheet___init__
  refine use_runF ?_
  refine (deep_ans (P := (· = .non)) l0 rp' nd (fun S2 _ => Ans.of (call1 (check_eq h l1 hl)) rfl) fun c e => by rw [e]; rfl) _ _ fun a ea => ?_
  have cp : Ans (setl (noX (lendNO 3 r fun v5rows => cbO listF (vcons (SL.ret v5rows) vnil)))) (put S x (.ins (ca 1) dx [] [])) (· = .lst (ts.map Tst.pv)) := ans_setl (Ps := (· = ts.map Tst.pv)) (deepO_ans (P := (· = ts.map Tst.pv)) l0 rp' nd (fun S2 _ => Ans.of (by rw [r_vnil, r_vcons]; unfold cbO; rw [r_bind]; exact r_lift _) rfl) fun c e => by rw [e]; exact lights_ts ts) fun as e => by rw [e]
  refine cp _ _ fun a ea => ?_
  subst ea
  refine ⟨dx, [], [], put_same, rfl, by decide, rfl, rfl, nsS, [.lst (ts.map Tst.pv)], put_same, ?_⟩
  rw [put_put, rem_put hx]
  exact z _ rfl
end B61
set_option maxHeartbeats 4000000
set_option exponentiation.threshold 2000
namespace B61
open PySem SL NF NT LW TC
variable [PW]
variable {ca : Nat → Addr} {S S2 : Sto} {p x : Addr} {n B : Nat} {L L' : List PV} {r b : PV} {qs : List Addr} {ts us : List Tst}
theorem tame_t {t : Tst} (h : ∃ n, n ≤ 1000 ∧ t.ok n) : Tame t.pv 489 2 := by
  obtain ⟨n, n9, h⟩ := h
  have lit : ∀ z ∈ [wM, wN, wT, wL, wE, wO], z.cps.toList.all (fun c => decide (c < 1114112)) = true ∧ z.cps.size ≤ 80 := by decide +kernel
  have ew : ∀ z ∈ [wM, wN, wT, wL, wE, wO], Tame (.str z) 162 1 := fun z hz => (tame_lit (lit z hz).1 (lit z hz).2).mono (by decide) (by decide)
  have ei : ∀ k, k < n → Tame (natP k) 162 1 := fun k hk => (tame_int (show ((k : Nat) : Int).natAbs < 2 ^ 80 by omega)).mono (by decide) (by decide)
  have up : ∀ {as : List PV}, as.length ≤ 3 → (∀ a ∈ as, Tame a 162 1) → Tame (.tup as) 489 2 := fun hl h => (tame_tup h).mono (by omega) (by decide)
  cases t with
  | mk z => exact up (by simp) (all_c (ew wM (by simp)) (all_c ((tame_text (z := z) (fun c hc => by have := h.2.2 c hc; omega) (by have := h.2.1; omega)).mono (by decide) (by decide)) all_n))
  | nx k => exact up (by simp) (all_c (ew wN (by simp)) (all_c (ei k h) all_n))
  | nt k => exact up (by simp) (all_c (ew wT (by simp)) (all_c (ei k h) all_n))
  | ls k x =>
    have ex : Tame (fr x) ((80 + 1) * 2) (0 + 1) := tame_tup (as := [.int x.num, .int (x.den : Int)]) fun a h2 => by
      have s8 := h.2.2.2.mono (by decide : 10 ≤ 80)
      simp at h2
      rcases h2 with rfl | rfl
      · exact tame_int s8.1
      · exact tame_int (by have := s8.den; exact this)
    exact up (by simp) (all_c (ew wL (by simp)) (all_c (ei k h.1) (all_c ex all_n)))
  | lt k l => exact up (by simp) (all_c (ew wE (by simp)) (all_c (ei k h.1) (all_c (ei l h.2) all_n)))
  | mo k l => exact up (by simp) (all_c (ew wO (by simp)) (all_c (ei k h.1) (all_c (ei l h.2) all_n)))
theorem rep_ts (h : Okk ts 0) (hl : ts.length ≤ 70) : ∃ z, repF [.lst (ts.map Tst.pv)] = some (.str z) := by
  have tt : Tame (.lst (ts.map Tst.pv)) ((489 + 1) * (ts.map Tst.pv).length) (2 + 1) := tame_lst fun a ha => by
    obtain ⟨t, ht, rfl⟩ := List.mem_map.mp ha
    obtain ⟨i, hi⟩ := List.mem_iff_getElem?.mp ht
    have := (List.getElem?_eq_some_iff.mp hi).1
    exact tame_t ⟨0 + i, by omega, h i t hi⟩
  refine tt.rep ?_ (by decide)
  rw [List.length_map]
  have : (489 + 1) * ts.length ≤ 490 * 70 := Nat.mul_le_mul_left _ hl
  omega
theorem stp_le {M : Nat} {acc : List Nat} (h : ∀ x ∈ acc, x ≤ M) (t : Tst) : stp acc t ≤ M + 1 := by
  have g : ∀ k, acc.getD k 0 ≤ M := fun k => by
    rw [List.getD_eq_getElem?_getD]
    cases e : acc[k]? with
    | none => exact Nat.zero_le _
    | some x => exact h x (List.mem_of_getElem? e)
  cases t with
  | mk z => exact Nat.zero_le _
  | nx k => have := g k; show acc.getD k 0 + 1 ≤ M + 1; omega
  | nt k => have := g k; show acc.getD k 0 ≤ M + 1; omega
  | ls k x => have := g k; show acc.getD k 0 ≤ M + 1; omega
  | lt k l => have := g k; have := g l; show max (acc.getD k 0) (acc.getD l 0) ≤ M + 1; omega
  | mo k l => have := g k; have := g l; show max (acc.getD k 0) (acc.getD l 0) ≤ M + 1; omega
theorem stps_le : ∀ (ts : List Tst) (acc : List Nat) (M : Nat), (∀ x ∈ acc, x ≤ M) → (∀ x ∈ stps ts acc, x ≤ M + ts.length) ∧ (stps ts acc).length = acc.length + ts.length
  | [], acc, M, h => ⟨fun x hx => h x hx, rfl⟩
  | t :: ts, acc, M, h => by
    have := stps_le ts (acc ++ [stp acc t]) (M + 1) fun x hx => by
      rcases List.mem_append.mp hx with hx | hx
      · have := h x hx; omega
      · rw [List.mem_singleton.mp hx]; exact stp_le h t
    obtain ⟨a, b⟩ := this
    refine ⟨fun x hx => ?_, ?_⟩
    · have := a x hx
      rw [List.length_cons]
      omega
    · show (stps ts (acc ++ [stp acc t])).length = _
      rw [b, List.length_append, List.length_cons]
      simp only [List.length_cons, List.length_nil]
      omega
theorem rep_steps (hl : ts.length ≤ 70) : ∃ z, repF [.lst (intsN (stps ts []))] = some (.str z) := by
  obtain ⟨a, b⟩ := stps_le ts [] 0 fun x hx => nomatch hx
  have tt : Tame (.lst (intsN (stps ts []))) ((80 + 1) * (intsN (stps ts [])).length) (0 + 1) := tame_lst fun y hy => by
    obtain ⟨k, hk, rfl⟩ := List.mem_map.mp hy
    have := a k hk
    exact tame_int (show ((k : Nat) : Int).natAbs < 2 ^ 80 by omega)
  refine tt.rep ?_ (by decide)
  rw [List.length_map, b]
  have : (80 + 1) * (([] : List Nat).length + ts.length) ≤ 81 * 70 := Nat.mul_le_mul_left _ (by simp; omega)
  omega
theorem steps_meth (hS : LightS S) (h : Okk ts 0) (hl : ts.length ≤ 100) : Ans (methO (ca 1) "steps" (ar1 (NT.F_Sheet_steps ca)) (SL.ret (sh ca (ts.map Tst.pv))) vnil) S (· = intsN (stps ts [])) := by
  rw [r_vnil]
  unfold methO sh
  rw [r_methR _ _ _ _ _ _ (by decide)]
  have e : Ans (F_Sheet_steps ca (sh ca (ts.map Tst.pv))) S fun r => r = .o (intsN (stps ts [])) := by
    unfold F_Sheet_steps B_Sheet_steps
    refine Ans.runF (Ans.bind (P := (· = intsN (stps ts []))) (ans_callO (ds := []) (Ps := (· = [.lst (ts.map Tst.pv)])) (Ans.of (by rw [fld_sh, r_vnil, r_vcons]) rfl) fun as e => ?_) fun a e => by subst e; exact Ans.ret ⟨_, rfl, rfl⟩)
    subst e
    exact (steps_ans hS h hl).mono fun r e => ⟨_, e, rfl⟩
  refine Ans.bind e.noX fun r er => ?_
  subst er
  exact Ans.lift rfl rfl
theorem looks (hS : LightS S) (h : Okk ts 0) (l1 : 1 ≤ ts.length) (hl : ts.length ≤ 70) : Ans (callW (ar2 (F__law_looks_right ca)) [] (vcons (SL.ret (sh ca (ts.map Tst.pv))) (vcons (SL.ret (.lst (ts.map Tst.pv))) vnil))) S (· = .bl true) := by
  obtain ⟨z1, hz1⟩ := rep_ts h hl
  obtain ⟨z2, hz2⟩ := rep_steps (ts := ts) hl
  have lm : (ts.map Tst.pv).length = ts.length := List.length_map _
  have r1 : cb repF (vcons (SL.ret (.lst (ts.map Tst.pv))) vnil) = ret (.str z1) := by rw [r_vnil, r_vcons, r_cb, hz1, r_lift]
  have r2 : cb repF (vcons (setl (methO (ca 1) "rows" (ar1 (NT.F_Sheet_rows ca)) (SL.ret (sh ca (ts.map Tst.pv))) vnil)) vnil) = ret (.str z1) := by rw [rows_eq, r_setl, r1]
  have r3 : Ans (cb repF (vcons (setl (methO (ca 1) "steps" (ar1 (NT.F_Sheet_steps ca)) (SL.ret (sh ca (ts.map Tst.pv))) vnil)) vnil)) S (· = .str z2) := ans_cb (ans_one (Pa := (· = .lst (intsN (stps ts [])))) (ans_setl (steps_meth hS h (by omega)) fun as e => by rw [e])) fun as ⟨x, e, ex⟩ => ⟨_, by rw [e, ex]; exact hz2, rfl⟩
  have r4 : Ans (cb repF (vcons (setl (callO (ar1 (F__law_steps ca)) [] (vcons (SL.ret (.lst (ts.map Tst.pv))) vnil))) vnil)) S (· = .str z2) := ans_cb (ans_one (Pa := (· = .lst (intsN (stps ts [])))) (ans_setl (Ps := (· = intsN (stps ts []))) (ans_callO (ds := []) (Ps := (· = [.lst (ts.map Tst.pv)])) (Ans.of (by rw [r_vnil, r_vcons]) rfl) fun as e => by subst e; exact (lsteps_ans hS h (by omega)).mono fun r e => ⟨_, e, rfl⟩) fun as e => by rw [e])) fun as ⟨x, e, ex⟩ => ⟨_, by rw [e, ex]; exact hz2, rfl⟩
  have e5 : lenOW (ca 1) (ar1 (NT.F_Sheet___len__ ca)) (SL.ret (sh ca (ts.map Tst.pv))) = ret (.int ((ts.map Tst.pv).length : Int)) := len_eq (by omega)
  have e6 : cb lenF (vcons (SL.ret (.lst (ts.map Tst.pv))) vnil) = ret (.int ((ts.map Tst.pv).length : Int)) := by simp
  have nez : ∀ z : Str, neF (.str z) (.str z) = some (.bl false) := fun z => by simp
  have eqz : ∀ z : Str, eqF (.str z) (.str z) = some (.bl true) := fun z => by simp
  have f0 : ∀ {x y : W PV} {z : Str}, Ans x S (· = .str z) → Ans y S (· = .str z) → Ans (tst (op2 neF x y)) S (· = false) := fun {x y z} hx hy => ans_tst (ans_op2 hx hy fun a b ea eb => ⟨.bl false, by rw [ea, eb]; exact nez z, false, rfl, rfl⟩)
  have lt := law_text (L := ts.map Tst.pv) (by omega)
  rw [e6] at lt
  refine ans_call (ds := []) (ans_two (Pa := (· = sh ca (ts.map Tst.pv))) (Pb := (· = .lst (ts.map Tst.pv))) (Ans.ret rfl) (Ans.ret rfl)) fun as ⟨x, y, e, ex, ey⟩ => ?_
  subst e ex ey
  show Ans (F__law_looks_right ca (sh ca (ts.map Tst.pv)) (.lst (ts.map Tst.pv))) S _
  unfold F__law_looks_right B__law_looks_right
  rw [r2, r1, e5, e6, lt, rep_eq (by omega), str_eq (by omega)]
  refine Ans.runF (if0 (ans_or0 (f0 (Ans.ret rfl) (Ans.ret rfl)) (ans_or0 (f0 r3 r4) (Ans.of (by rw [r_op2, r_neI, r_lift, r_tst]; simp) rfl))) ?_)
  rw [r_op2, eqz, r_lift, r_andV1, r_bind]
  exact Ans.ret ⟨_, rfl, rfl⟩
end B61
set_option maxHeartbeats 4000000
set_option exponentiation.threshold 2000
namespace B61
open PySem SL NF NT LW TC
variable [PW]
variable {ca : Nat → Addr} {S S2 : Sto} {p x : Addr} {n B : Nat} {L L' : List PV} {r b : PV} {qs : List Addr} {ts us : List Tst}
abbrev sA : PV := .str (PySem.Str.ofString "a")
theorem mk_a : NF.Mk (PySem.Str.ofString "a") := by unfold NF.Mk; decide +kernel
theorem Okk.push {t : Tst} (h : Okk ts 0) (ht : t.ok ts.length) : Okk (ts ++ [t]) 0 := fun i u hu => by
  rcases Nat.lt_or_ge i ts.length with c | c
  · rw [List.getElem?_append_left c] at hu
    exact h i u hu
  · rw [List.getElem?_append_right c] at hu
    have : i - ts.length = 0 := by
      rcases Nat.eq_zero_or_pos (i - ts.length) with e | e
      · exact e
      · rw [List.getElem?_eq_none (by simp; omega)] at hu
        cases hu
    rw [this] at hu
    cases hu
    rwa [show 0 + i = ts.length by omega]
theorem tests_step {i : Nat} {z : Str} (hs : S p = some .bag2) (hz : NF.Mk z) (hi : i < 61) (hl : ts.length = i) (ho : Okk ts 0) :
    Ans (LW.L__law_tests_1 ca (.ptr p) (.lst [.str z, sA]) (.int (i : Int)) (ts.map Tst.pv)) S fun fl => ∃ s', fl = .nx s' ∧ ∃ us, s' = us.map Tst.pv ∧ us.length = i + 1 ∧ Okk us 0 := by
  obtain ⟨m, hm, m1, m9, mi⟩ : ∃ m : Int, cb max2F (vcons (SL.ret (.int 1)) (vcons (SL.ret (.int (i : Int))) vnil)) = ret (.int m) ∧ 1 ≤ m ∧ m ≤ 100 ∧ (0 < i → m ≤ i) := ⟨if (i : Int) > 1 then i else 1, by simp, by split <;> omega, by split <;> omega, fun h => by split <;> omega⟩
  obtain ⟨m', hm', m1', m9', mi'⟩ : ∃ m : Int, cb max2F (vcons (SL.ret (.int 0)) (vcons (op2 subF (SL.ret (.int (i : Int))) (SL.ret (.int 1))) vnil)) = ret (.int m) ∧ 0 ≤ m ∧ m ≤ 100 ∧ (0 < i → m < i) := ⟨if (i : Int) - 1 > 0 then i - 1 else 0, by simp, by split <;> omega, by split <;> omega, fun h => by split <;> omega⟩
  have el : cb lenF (vcons (SL.ret (.lst [.str z, sA])) vnil) = ret (.int 2) := by simp
  unfold LW.L__law_tests_1
  rw [hm, hm', el]
  refine Ans.bind (ans_outC hs (Ans.of rfl rfl) (by omega) (by omega)) fun a h => ?_
  obtain ⟨d, rfl, d0, d1⟩ := h
  refine Ans.bind (ans_outC hs (Ans.of rfl rfl) (by omega) (by omega)) fun a h => ?_
  obtain ⟨t, rfl, t0, t1⟩ := h
  refine Ans.bindF (I := fun a => ∃ k : Nat, a = natP k ∧ (0 < i → k < i)) (Ans.bind (P := fun _ => True) (ans_tst (ans_op2 (ans_outC (n := 2) hs (Ans.of rfl rfl) (by decide) (by decide)) Ans.eq fun a b ea eb => ?_)) fun b _ => ?_) fun at_ hat => ?_
  · obtain ⟨w, rfl, _, _⟩ := ea
    subst eb
    exact ⟨.bl (decide (w = 0)), by simp, _, rfl, trivial⟩
  · cases b with
    | true => exact Ans.of (a := .nx (.int m')) (by simp) ⟨_, rfl, m'.toNat, by show PV.int m' = PV.int _; congr 1; omega, fun h => by have := mi' h; omega⟩
    | false => exact Ans.of (a := .nx (.int d)) (by simp) ⟨_, rfl, d.toNat, by show PV.int d = PV.int _; congr 1; omega, fun h => by have := mi h; omega⟩
  obtain ⟨k, ek, hk⟩ := hat
  subst ek
  obtain ⟨l, el2, hlt⟩ : ∃ l : Nat, PV.int t = natP l ∧ (0 < i → l < i) := ⟨t.toNat, by show PV.int t = PV.int _; congr 1; omega, fun h => by have := mi h; omega⟩
  rw [el2]
  refine Ans.bind (P := fun a => ∃ w : Int, a = .int w ∧ 0 ≤ w ∧ w < 6 ∧ (i = 0 → w = 0)) (ans_op2 (Pa := fun a => ∃ w : Int, a = .lst [.int 0, .int w] ∧ 0 ≤ w ∧ w < 6) (Pb := fun b => b = .int (if (i : Int) > 0 then 1 else 0)) (ans_setl (Ps := fun as => ∃ w : Int, as = [.int 0, .int w] ∧ 0 ≤ w ∧ w < 6) (ans_lst (ans_two Ans.eq (ans_outC (n := 6) hs (Ans.of rfl rfl) (by decide) (by decide))) fun as h => ?_) fun as h => ?_) (Ans.of (a := .int (if (i : Int) > 0 then 1 else 0)) ?_ rfl) fun a b ea eb => ?_) fun way hw => ?_
  · obtain ⟨a, b, rfl, rfl, w, rfl, w0, w1⟩ := h
    exact ⟨by simp, w, rfl, w0, w1⟩
  · obtain ⟨w, rfl, w0, w1⟩ := h
    exact ⟨w, rfl, w0, w1⟩
  · by_cases c : (0 : Nat) < i <;> simp [intF, c]
  · obtain ⟨w, rfl, w0, w1⟩ := ea
    subst eb
    by_cases c : (i : Int) > 0
    · rw [if_pos c]
      exact ⟨.int w, by simp, w, rfl, w0, w1, fun e => by omega⟩
    · rw [if_neg c]
      exact ⟨.int 0, by simp, 0, rfl, by decide, by decide, fun _ => rfl⟩
  obtain ⟨w, rfl, w0, w1, wi⟩ := hw
  refine Ans.bind (P := fun a => ∃ b : Int, a = .int b ∧ 1 ≤ b ∧ b ≤ 9) (ans_op2 Ans.eq (ans_outC (n := 9) hs (Ans.of rfl rfl) (by decide) (by decide)) fun a b ea eb => ?_) fun bo hb => ?_
  · subst ea
    obtain ⟨b, rfl, b0, b1⟩ := eb
    exact ⟨.int (1 + b), rfl, 1 + b, rfl, by omega, by omega⟩
  obtain ⟨b, rfl, b0, b1⟩ := hb
  refine Ans.bind (P := fun a => ∃ x : Rat, a = fr x ∧ 0 ≤ x.num ∧ x.num ≤ x.den ∧ Sz 10 x) (ans_call (ans_two (ans_outC (n := b + 1) hs (Ans.of (by simp) rfl) (by omega) (by omega)) Ans.eq) fun as h => ?_) fun cut hc => ?_
  · obtain ⟨x, y, rfl, ⟨c, rfl, c0, c1⟩, rfl⟩ := h
    have e := lowB_eq (ca := ca) (a := c) (b := b) (B := 10) (by omega) (by omega) (by decide) (by decide)
    have sz := NF.sz_div (B := 10) (a := c) (b := b) (by omega) (by omega) (by omega)
    have g : Gs b (Rat.divInt c b) := ⟨c, c0, by omega, rfl⟩
    have x0 := g.pos b0
    have x1 : Rat.divInt c b ≤ 1 := by
      have bp : (0 : Rat) < (b : Rat) := Rat.intCast_pos.mpr (by omega)
      have h1 : ((c : Int) : Rat) ≤ ((b : Int) : Rat) := Rat.intCast_le_intCast.mpr (by omega)
      have h2 := Rat.mul_le_mul_of_nonneg_right h1 (Rat.le_of_lt (Rat.inv_pos.mpr bp))
      rw [Rat.mul_inv_cancel _ (fun z => by grind)] at h2
      rw [Rat.divInt_eq_div, Rat.div_def]
      exact h2
    have nd := num_le_den x0 x1
    exact Ans.of (show ar2 (LW.F__law_low ca) ([.int c, .int b] ++ []) = _ from e) ⟨_, rfl, nd.1, nd.2, sz⟩
  obtain ⟨y, rfl, y0, y1, sy⟩ := hc
  refine Ans.bind (P := fun a => ∃ v : Str, a = .str v ∧ NF.Mk v) (ans_pickO (as := [.str z, sA]) rfl hs rfl (by decide) (by decide) (all_c ⟨z, rfl, hz⟩ (all_c ⟨_, rfl, mk_a⟩ all_n))) fun word hwd => ?_
  obtain ⟨v, rfl, hv⟩ := hwd
  refine Ans.bind (P := fun a => a = .lst [(Tst.mk v).pv, (Tst.nx k).pv, (Tst.nt k).pv, (Tst.ls k y).pv, (Tst.lt k l).pv, (Tst.mo k l).pv]) (Ans.of (by simp; rfl) rfl) fun some6 h6 => ?_
  subst h6
  refine Ans.bindF (I := fun s' => ∃ us, s' = us.map Tst.pv ∧ us.length = i + 1 ∧ Okk us 0) (Ans.bind (P := fun a => ∃ t : Tst, a = t.pv ∧ t.ok i) (ans_op2 Ans.eq Ans.eq fun a b ea eb => by
    subst ea eb
    rcases Nat.eq_zero_or_pos i with i0 | i0
    · have := wi i0
      subst this
      exact ⟨_, rfl, .mk v, rfl, hv⟩
    · have hk' := hk i0
      have hl' := hlt i0
      have : w = 0 ∨ w = 1 ∨ w = 2 ∨ w = 3 ∨ w = 4 ∨ w = 5 := by omega
      rcases this with rfl | rfl | rfl | rfl | rfl | rfl
      · exact ⟨_, rfl, .mk v, rfl, hv⟩
      · exact ⟨_, rfl, .nx k, rfl, hk'⟩
      · exact ⟨_, rfl, .nt k, rfl, hk'⟩
      · exact ⟨_, rfl, .ls k y, rfl, hk', y0, y1, sy⟩
      · exact ⟨_, rfl, .lt k l, rfl, hk', hl'⟩
      · exact ⟨_, rfl, .mo k l, rfl, hk', hl'⟩) fun a hta => ?_) fun s' h => Ans.ret ⟨_, rfl, h⟩
  obtain ⟨t, rfl, ht⟩ := hta
  rw [if_pos (by simp; omega), r_lift, r_bind]
  exact Ans.ret ⟨_, rfl, ts ++ [t], by rw [List.map_append]; rfl, by simp; omega, ho.push (by rw [hl]; exact ht)⟩
theorem tests_ans {z : Str} {m : Int} (hs : S p = some .bag2) (hz : NF.Mk z) (m1 : 1 ≤ m) (m9 : m ≤ 60) : Ans (F__law_tests ca (.ptr p) (.lst [.str z, sA]) (.int m)) S fun r => ∃ us, r = .o (us.map Tst.pv) ∧ us.length = m.toNat ∧ Okk us 0 := by
  unfold F__law_tests B__law_tests
  have e0 : lstO vnil = ret [] := by simp
  have e1 : itR (vcons (SL.ret (.int m)) vnil) = ret ((List.range m.toNat).map fun i : Nat => .int (i : Int)) := by
    have := rng_maps (n := m.toNat) (by omega)
    have em : m = ((m.toNat : Nat) : Int) := by omega
    rw [em, Int.toNat_natCast]
    exact this
  rw [e0, r_bind, e1, r_bind]
  refine Ans.runF (Ans.bindF (I := fun s => ∃ us, s = us.map Tst.pv ∧ us.length = m.toNat ∧ Okk us 0) (ans_for (n := m.toNat) (I := fun k s => ∃ us, s = us.map Tst.pv ∧ us.length = k ∧ Okk us 0) ⟨[], rfl, rfl, fun i t h => by simp at h⟩ fun i s hi ⟨us, es, hl, ho⟩ => ?_) fun s ⟨us, es, h⟩ => Ans.ret ⟨_, rfl, us, by rw [es], h⟩)
  subst es
  exact tests_step hs hz (by omega) hl ho
end B61
set_option maxHeartbeats 4000000
set_option exponentiation.threshold 2000
namespace B61
open PySem SL NF NT LW TC
variable [PW]
variable {ca : Nat → Addr} {S S1 S2 : Sto} {p q x : Addr} {n B : Nat} {L L' : List PV} {r b : PV} {qs : List Addr} {ts us : List Tst}
theorem rp_atom {a : PV} (h : light a = true) (ht : ∀ as, a ≠ .tup as) (hp : ∀ q, a ≠ .ptr q) : ∀ d, Rp S d a a []
  | 0 => ⟨rfl, rfl⟩
  | d + 1 => by
    cases a with
    | ptr q => exact absurd rfl (hp q)
    | tup as => exact absurd rfl (ht as)
    | lst as => cases h
    | _ => exact ⟨rfl, rfl⟩
theorem rp_row (t : Tst) : ∀ d, Rp S d t.pv t.pv []
  | 0 => ⟨rfl, rfl⟩
  | d + 1 => by
    have at' : ∀ {a : PV}, light a = true → (∀ as, a ≠ .tup as) → (∀ q, a ≠ .ptr q) → Rp S d a a [] := fun h ht hp => rp_atom h ht hp d
    have s : ∀ z : Str, Rp S d (.str z) (.str z) [] := fun z => at' rfl (fun _ e => nomatch e) fun _ e => nomatch e
    have i : ∀ k : Nat, Rp S d (natP k) (natP k) [] := fun k => at' rfl (fun _ e => nomatch e) fun _ e => nomatch e
    cases t with
    | mk z => exact ⟨_, rfl, rpL_flat (all_c (s _) (all_c (s _) all_n))⟩
    | nx k => exact ⟨_, rfl, rpL_flat (all_c (s _) (all_c (i _) all_n))⟩
    | nt k => exact ⟨_, rfl, rpL_flat (all_c (s _) (all_c (i _) all_n))⟩
    | ls k y => exact ⟨_, rfl, rpL_flat (all_c (s _) (all_c (i _) (all_c (rp_fr y d) all_n)))⟩
    | lt k l => exact ⟨_, rfl, rpL_flat (all_c (s _) (all_c (i _) (all_c (i _) all_n)))⟩
    | mo k l => exact ⟨_, rfl, rpL_flat (all_c (s _) (all_c (i _) (all_c (i _) all_n)))⟩
theorem rpL_rows (ts : List Tst) (d : Nat) : RpL (Rp S d) (ts.map Tst.pv) (ts.map Tst.pv) [] := rpL_flat fun a ha => by
  obtain ⟨t, _, rfl⟩ := List.mem_map.mp ha
  exact rp_row t d
theorem rp_lst (ts : List Tst) : Rp S 3 (.lst (ts.map Tst.pv)) (.lst (ts.map Tst.pv)) [] := ⟨_, rfl, rpL_rows ts 2⟩
theorem rp_ptr (h : S q = some (.lst (ts.map Tst.pv))) : Rp S 3 (.ptr q) (.lst (ts.map Tst.pv)) [q] := ⟨_, _, [], h, rfl, rfl, rpL_rows ts 2⟩
theorem make_lst (h : Okk ts 0) (l1 : 1 ≤ ts.length) (hl : ts.length ≤ 100) (hS : LightS S) : Ans (makeW (ca 1) (ar2 (F_Sheet___init__ ca)) [] (vcons (SL.ret (.lst (ts.map Tst.pv))) vnil)) S (· = sh ca (ts.map Tst.pv)) := make_ans (qs := []) h l1 hl hS (fun S2 _ => rp_lst ts) (fun q hq => nomatch hq) List.nodup_nil
theorem make_ptr (h : Okk ts 0) (l1 : 1 ≤ ts.length) (hl : ts.length ≤ 100) (hS : LightS S) (hq : S q = some (.lst (ts.map Tst.pv))) : Ans (makeW (ca 1) (ar2 (F_Sheet___init__ ca)) [] (vcons (SL.ret (.ptr q)) vnil)) S (· = sh ca (ts.map Tst.pv)) := make_ans (qs := [q]) h l1 hl hS (fun S2 e => rp_ptr (by rw [e q (by simp)]; exact hq)) (fun q' hq' => by rw [List.mem_singleton.mp hq', hq]; simp) (by simp)
def oP : Option Tst → PV
  | some t => t.pv
  | none => .non
def oD : Option Tst → PyData
  | some t => t.d
  | none => .none
theorem toDs_o : ∀ l : List (Option Tst), toDs (l.map oP) = some (l.map oD)
  | [] => rfl
  | t :: l => by
    have e : toD (oP t) = some (oD t) := by
      cases t with
      | none => rfl
      | some t => exact toD_t t
    show (match toD (oP t), toDs (l.map oP) with | some d, some ds => some (d :: ds) | _, _ => none) = _
    rw [e, toDs_o l]
    rfl
def heldP (ts : List Tst) : PV := .lst [.lst (ts.map Tst.pv ++ [.non]), .lst []]
theorem held_o (ts : List Tst) : ts.map Tst.pv ++ [PV.non] = (ts.map some ++ [none]).map oP := by
  rw [List.map_append, List.map_map]
  rfl
theorem ne_held (w : WF ts) : neF (heldP ts) (heldP ts) = some (.bl false) := by
  have tL : toDs (ts.map Tst.pv ++ [.non]) = some ((ts.map some ++ [none]).map oD) := by rw [held_o]; exact toDs_o _
  have td : toD (heldP ts) = some (.list [.list ((ts.map some ++ [none]).map oD), .list []]) := by
    unfold heldP
    simp only [toD, toDs, tL]
  have wl : ∀ o ∈ ts.map some ++ [none], (oD o).canLay0 = true ∧ (oD o).depth ≤ 2 ∧ (oD o).hasDict = false := fun o ho => by
    rcases List.mem_append.mp ho with ho | ho
    · obtain ⟨t, ht, rfl⟩ := List.mem_map.mp ho
      exact ⟨t_lay (w t ht), t_dep t, t_nod t⟩
    · rw [List.mem_singleton.mp ho]
      exact ⟨rfl, Nat.zero_le _, rfl⟩
  have sh : SeqAt.shaped (.list [.list ((ts.map some ++ [none]).map oD), .list []]) = true := by
    have a := lays (f := oD) (xs := ts.map some ++ [none]) fun o ho => (wl o ho).1
    have b := deps (f := oD) (k := 2) (xs := ts.map some ++ [none]) fun o ho => (wl o ho).2.1
    exact shp (f := id) (k := 3) (xs := [.list ((ts.map some ++ [none]).map oD), .list []]) (fun d hd => by
      simp only [List.mem_cons, List.not_mem_nil, or_false] at hd
      rcases hd with rfl | rfl
      · simp only [id, PyData.canLay0, a]
      · rfl) (fun d hd => by
      simp only [List.mem_cons, List.not_mem_nil, or_false] at hd
      rcases hd with rfl | rfl
      · simp only [id, PyData.depth]; omega
      · simp [PyData.depth, PyData.depthAll]) (by decide)
  have nd : (PyData.list [.list ((ts.map some ++ [none]).map oD), .list []]).hasDict = false := by
    have a : PyData.hasDictAll ((ts.map some ++ [none]).map oD) = false := nods (f := oD) fun o ho => (wl o ho).2.2
    simp only [PyData.hasDict, PyData.hasDictAll, a]
    rfl
  rw [neF_data td td sh sh nd nd (fun z e => by unfold heldP at e; cases e), SeqAt.eqv_refl _ (SeqAt.canLay_of_shaped sh)]
  rfl
end B61
set_option maxHeartbeats 4000000
set_option exponentiation.threshold 2000
namespace B61
open PySem _root_.SL NF NT LW TC
variable [PW]
variable {ca : Nat → Addr} {S S1 S2 : Sto} {p q x : Addr} {n B : Nat} {L L' : List PV} {r b : PV} {qs : List Addr} {ts us : List Tst}
theorem run0 {β : Type} {m : SL.W Bool} {A B : SL.W β} {P : β → Sto → Prop} (h : Ans m S (· = false)) (k : Run B S P) : Run (SL.bind m fun b => if b = true then A else B) S P := Run.bindA h fun b e => by
  subst e
  rw [if_neg (by decide)]
  exact k
theorem run_forN {T : Type} {F : PV → T → SL.W (Fl T)} (I : Nat → T → Sto → Prop) {n : Nat} {s : T} (i0 : I 0 s S) (h : ∀ i s S, i < n → I i s S → Run (F (natP i) s) S fun fl S2 => ∃ s', fl = .nx s' ∧ I (i + 1) s' S2) : Run (forW some F ((List.range n).map natP) s) S fun fl S2 => ∃ s', fl = .nx s' ∧ I n s' S2 := by
  refine (run_for (F := F) (f := some) (e := natP) (fun xs s S => ∃ i, i ≤ n ∧ xs = List.range' i (n - i) ∧ I i s S) (fun x xs s S ⟨i, hi, e, iv⟩ => ?_) (List.range n) s S ⟨0, Nat.zero_le _, by rw [List.range_eq_range', Nat.sub_zero], i0⟩).mono fun fl S2 ⟨s', e, i, hi, e2, iv⟩ => ⟨s', e, ?_⟩
  · have lt : i < n := by
      rcases Nat.lt_or_ge i n with c | c
      · exact c
      · rw [show n - i = 0 by omega] at e
        cases e
    rw [show n - i = (n - (i + 1)) + 1 by omega, List.range'_succ] at e
    injection e with e1 e2
    subst e1
    exact ⟨natP x, rfl, (h x s S lt iv).mono fun fl S2 ⟨s', e, iv'⟩ => ⟨s', e, x + 1, by omega, e2, iv'⟩⟩
  · have : n - i = 0 := by
      cases h : n - i with
      | zero => rfl
      | succ z => rw [h] at e2; cases e2
    rw [show n = i by omega]
    exact iv
theorem ixC_run {β : Type} {K : PV → SL.W β} {Q : β → Sto → Prop} {cs : List PV} {c : PV} {v : PV} (hq : S q = some (.lst cs)) (hc : ixF (.lst cs) v = some c) (k : Run (K c) S Q) : Run (SL.bind (ixC (SL.ret (.ptr q)) (SL.ret v)) K) S Q := fun Ψ Ξ z => ⟨q, cs, c, rfl, hq, hc, k Ψ Ξ z⟩
theorem bag_run {ns : List Int} {k : Nat} (hn : ns.length ≤ 63) (hk : k ≤ 1000) : Run (bag2W (callO (ar2 bagW) [] (vcons (SL.ret (.scr ns)) (vcons (SL.ret (natP k)) vnil)))) S fun a S2 => ∃ p, a = .ptr p ∧ S p = none ∧ S2 = put S p .bag2 := fun Ψ Ξ z => by
  refine ⟨ns, k, rfl, rfl, by omega, by omega, fun a b => ?_⟩
  exact ⟨_, rfl, rfl, fun p hp => z _ _ ⟨p, rfl, hp, rfl⟩⟩
theorem f_neF {x y : SL.W PV} {v w : PV} (hx : Ans x S (· = v)) (hy : Ans y S (· = w)) (e : neF v w = some (.bl false)) : Ans (tst (op2 neF x y)) S (· = false) := ans_tst (ans_op2 hx hy fun a b ea eb => ⟨.bl false, by rw [ea, eb]; exact e, false, rfl, rfl⟩)
theorem f_isb {x : SL.W PV} {b : Bool} (hx : Ans x S (· = .bl b)) : Ans (tst (op2 (isbF true) x (SL.ret (.bl b)))) S (· = false) := ans_tst (ans_op2 (Pb := (· = .bl b)) hx (Ans.ret rfl) fun a c ea ec => ⟨.bl false, by rw [ea, ec]; cases b <;> rfl, false, rfl, rfl⟩)
theorem nb (b : Bool) : neF (.bl b) (.bl b) = some (.bl false) := by cases b <;> rfl
theorem body0 {m : SL.W Bool} {A : SL.W (Fl Unit)} (h : Ans m S (· = false)) : Ans (SL.bindF (SL.bind m fun b => if b = true then A else (SL.ret (.nx ()))) fun _ => SL.ret (.nx ())) S fun fl => fl = .nx () := Ans.bindF (I := fun _ => True) (if0 h (Ans.ret ⟨(), rfl, trivial⟩)) fun s _ => Ans.ret rfl
theorem loop_u {F : PV → Unit → SL.W (Fl Unit)} : ∀ as : List PV, (∀ a ∈ as, Ans (F a ()) S fun fl => fl = .nx ()) → Ans (forW some F as ()) S fun fl => fl = .nx ()
  | [], _ => Ans.ret rfl
  | a :: as, h => by
    rw [r_for1]
    exact Ans.bindF (I := fun _ => True) ((h a List.mem_cons_self).mono fun fl e => ⟨(), e, trivial⟩) fun s _ => loop_u as fun y hy => h y (List.mem_cons_of_mem _ hy)
theorem eqA_ans {m : SL.W PV} (h : WF ts) (k : WF us) (hm : Ans m S (· = sh ca (us.map Tst.pv))) : Ans (eqAW (ca 1) (ar2 (F_Sheet___eq__ ca)) (SL.ret (sh ca (ts.map Tst.pv))) m) S (· = .bl (EQ ts us)) := by
  have e := eqA_sh (ca := ca) h k
  unfold eqAW at e ⊢
  rw [r_bind, r_bind] at e
  rw [r_bind]
  exact Ans.bind hm fun b eb => by
    subst eb
    exact Ans.of e rfl
theorem eqA_ans2 {m : SL.W PV} (h : WF ts) (k : WF us) (hm : Ans m S (· = sh ca (us.map Tst.pv))) : Ans (eqAW (ca 1) (ar2 (F_Sheet___eq__ ca)) m (SL.ret (sh ca (ts.map Tst.pv)))) S (· = .bl (EQ us ts)) := by
  have e := eqA_sh (ca := ca) k h
  unfold eqAW at e ⊢
  rw [r_bind, r_bind] at e
  exact Ans.bind hm fun b eb => by
    subst eb
    rw [r_bind]
    exact Ans.of e rfl
theorem two_ok (hS : LightS S) (h : Okk ts 0) (k : Okk us 0) (l1 : 1 ≤ us.length) (hl : us.length ≤ 100) : Ans (L_law_2 ca (sh ca (ts.map Tst.pv)) (.lst (ts.map Tst.pv)) (.lst (us.map Tst.pv)) ()) S fun fl => fl = .nx () := by
  have er : op2 eqF (SL.ret (.lst (us.map Tst.pv))) (SL.ret (.lst (ts.map Tst.pv))) = SL.ret (.bl (EQ us ts)) := by rw [r_op2, eq_rows k.wf h.wf, r_lift]
  unfold L_law_2
  rw [er]
  exact body0 (ans_or0 (f_neF (eqA_ans h.wf k.wf (make_lst k l1 hl hS)) (Ans.ret rfl) (by rw [EQ_comm]; exact nb _)) (f_neF (eqA_ans2 h.wf k.wf (make_lst k l1 hl hS)) (Ans.ret rfl) (nb _)))
theorem three_ok {v : PV} (h : isiF oddB [(ca 1, true)] v = some (.bl false)) (k : kindP v = true) : Ans (L_law_3 ca (sh ca L) v ()) S fun fl => fl = .nx () := by
  unfold L_law_3
  refine body0 (ans_or0 (f_isb (b := false) (Ans.of (eqA_no h k) rfl)) (ans_tst ((in_no h k (by simp)).mono fun a ea => ⟨false, by rw [ea], rfl⟩)))
theorem one_ok {qh : Addr} {qs : List Addr} (hS : LightS S) (h : Okk ts 0) (l1 : 1 ≤ ts.length) (hl : ts.length ≤ 70) (rp : Rp S 3 (.ptr qh) (heldP ts) qs) (nd : qs.Nodup) : Ans (L_law_1 ca (.lst (ts.map Tst.pv)) (.ptr qh) (sh ca (ts.map Tst.pv)) ()) S fun fl => fl = .nx () := by
  have er : setl (lstO (vcons (op2 addF (SL.ret (.lst (ts.map Tst.pv))) (setl (lstO (vcons (SL.ret .non) vnil)))) (vcons (setl (lstO vnil)) vnil))) = SL.ret (heldP ts) := by
    have e1 : setl (lstO (vcons (SL.ret .non) vnil)) = SL.ret (.lst [.non]) := by simp
    have e2 : setl (lstO vnil) = SL.ret (.lst []) := by simp
    rw [e1, e2, r_op2, add_ls (by simp; omega), r_lift]
    unfold heldP
    simp
  unfold L_law_1
  refine body0 (ans_or0 (ans_not (b := true) (tru (looks hS h l1 hl))) (ans_tst ((deep_ans (P := (· = .bl false)) hS rp nd (fun S4 _ => ?_) fun c e => by rw [e]; rfl).mono fun a ea => ⟨false, by rw [ea], rfl⟩)))
  rw [er, r_op2, ne_held h.wf, r_lift]
  exact Ans.ret rfl
theorem mk_z : NF.Mk (PySem.Str.ofString "zzzz") := by unfold NF.Mk; decide +kernel
theorem bent_ok {k : Nat} (h : Okk ts 0) (hk : k < ts.length) : Okk (ts.take k ++ [Tst.mk (PySem.Str.ofString "zzzz")] ++ ts.drop (k + 1)) 0 ∧ (ts.take k ++ [Tst.mk (PySem.Str.ofString "zzzz")] ++ ts.drop (k + 1)).length = ts.length := by
  have ll : (ts.take k).length = k := by rw [List.length_take]; omega
  refine ⟨fun i u hu => ?_, by simp; omega⟩
  rw [List.append_assoc] at hu
  rcases Nat.lt_trichotomy i k with c | c | c
  · rw [List.getElem?_append_left (by omega), List.getElem?_take, if_pos c] at hu
    exact h i u hu
  · subst c
    rw [List.getElem?_append_right (by omega), ll, Nat.sub_self] at hu
    cases hu
    exact mk_z
  · rw [List.getElem?_append_right (by omega), ll, show i - k = (i - (k + 1)) + 1 by omega] at hu
    have hu : (ts.drop (k + 1))[i - (k + 1)]? = some u := hu
    rw [List.getElem?_drop, show k + 1 + (i - (k + 1)) = i by omega] at hu
    exact h i u hu
theorem turn61 {ns : List Int} {k : Nat} (hn : ns.length ≤ 63) (hk : k ≤ 1000) (hS0 : LightS S1) : Run (L_law_4 ca (.scr ns) (natP k) ()) S1 fun fl S2 => ∃ s, fl = .nx s ∧ LightS S2 := by
  unfold L_law_4
  refine Run.bind (bag_run hn hk) fun a S ⟨p, ea, hp, e2⟩ => ?_
  subst ea e2
  have hs : put S1 p .bag2 p = some .bag2 := put_same
  have hS : LightS (put S1 p .bag2) := light_put hS0 rfl
  generalize put S1 p .bag2 = S at hs hS
  refine Run.bindA (R := fun a => ∃ ts, a = .lst (ts.map Tst.pv) ∧ 1 ≤ ts.length ∧ ts.length ≤ 60 ∧ Okk ts 0) ?_ fun a ⟨ts, ea, l1, l9, ho⟩ => ?_
  · refine ans_setl (Ps := fun as => ∃ ts : List Tst, as = ts.map Tst.pv ∧ 1 ≤ ts.length ∧ ts.length ≤ 60 ∧ Okk ts 0) (ans_callO (ds := []) (Ps := fun as => ∃ z m, as = [.ptr p, .lst [.str z, sA], .int m] ∧ NF.Mk z ∧ 1 ≤ m ∧ m ≤ 60) (ans_cons (Pa := (· = .ptr p)) (Ps := fun as => ∃ z m, as = [.lst [.str z, sA], .int m] ∧ NF.Mk z ∧ 1 ≤ m ∧ m ≤ 60) (Ans.ret rfl) ((ans_two (Pa := fun a => ∃ z, a = .lst [.str z, sA] ∧ NF.Mk z) (Pb := fun a => ∃ m : Int, a = .int m ∧ 1 ≤ m ∧ m ≤ 60) (ans_setl (Ps := fun as => ∃ z, as = [.str z, sA] ∧ NF.Mk z) (ans_lst (ans_two (Pa := fun a => ∃ z, a = .str z ∧ NF.Mk z) (Pb := (· = sA)) (ans_call (ds := []) (Ps := (· = [.ptr p])) (Ans.of (by simp) rfl) fun as e => by subst e; exact (word_ans hs).mono fun r h => h) (Ans.ret rfl)) fun as ⟨a, b, e, ⟨z, ez, hz⟩, eb⟩ => ⟨by rw [e]; simp, z, by rw [e, ez, eb], hz⟩) fun as ⟨z, e, hz⟩ => ⟨z, by rw [e], hz⟩) (ans_op2 (Pa := (· = .int 1)) (Ans.ret rfl) (ans_outC (n := 60) hs (Ans.of rfl rfl) (by decide) (by decide)) fun a b ea ⟨d, eb, d0, d1⟩ => by subst ea eb; exact ⟨_, r_addI _ _, 1 + d, rfl, by omega, by omega⟩)).mono fun as ⟨a, b, e, ⟨z, ez, hz⟩, m, em, h⟩ => ⟨z, m, by rw [e, ez, em], hz, h⟩) fun a as ea ⟨z, m, e, h⟩ => ⟨z, m, by rw [ea, e], h⟩) fun as ⟨z, m, e, hz, m1, m9⟩ => ?_) fun as ⟨ts, e, h⟩ => ⟨ts, by rw [e], h⟩
    subst e
    exact (tests_ans hs hz m1 m9).mono fun r ⟨us, e, hl, ho⟩ => ⟨_, e, us, rfl, by omega, by omega, ho⟩
  subst ea
  refine Run.bind (Run.cell (P := fun as S2 => as = ts.map Tst.pv ∧ S2 = S) (Q := fun a S2 => ∃ ph, a = .ptr ph ∧ S ph = none ∧ S2 = put S ph (.lst (ts.map Tst.pv))) (Run.ans (R := (· = ts.map Tst.pv)) (Ans.of (by rw [r_vnil, r_vcons]; unfold cbO; rw [r_bind]; exact r_lift _) rfl)) fun as S2 ph ⟨e, e2⟩ hp => ⟨ph, rfl, by rw [← e2]; exact hp, by rw [e2, e]⟩) fun a S2 ⟨ph, ea, hph, e2⟩ => ?_
  subst ea e2
  have pph : p ≠ ph := fun e => by rw [e, hph] at hs; cases hs
  have hs1 : put S ph (.lst (ts.map Tst.pv)) p = some .bag2 := by rw [put_ne pph]; exact hs
  have hh1 : put S ph (.lst (ts.map Tst.pv)) ph = some (.lst (ts.map Tst.pv)) := put_same
  have hS1 : LightS (put S ph (.lst (ts.map Tst.pv))) := light_put hS (lights_ts ts)
  generalize put S ph (.lst (ts.map Tst.pv)) = S1 at hs1 hh1 hS1
  refine Run.bindA (make_ptr ho l1 (by omega) hS1 hh1) fun a ea => ?_
  subst ea
  refine Run.bindA (make_ptr ho l1 (by omega) hS1 hh1) fun a ea => ?_
  subst ea
  have el : cb lenF (vcons (SL.ret (.lst (ts.map Tst.pv))) vnil) = SL.ret (.int (ts.length : Int)) := by simp
  rw [el]
  refine Run.bindA (R := fun a => ∃ k : Nat, a = natP k ∧ k < ts.length) ((ans_outC (n := (ts.length : Int)) hs1 (Ans.of rfl rfl) (by omega) (by omega)).mono fun a ⟨d, e, d0, d1⟩ => ⟨d.toNat, by rw [e]; show PV.int d = PV.int _; congr 1; omega, by omega⟩) fun a ⟨k, ea, hk⟩ => ?_
  subst ea
  obtain ⟨bo, bl⟩ := bent_ok ho hk
  have eb : op2 addF (op2 addF (setl (cutO (SL.ret (.lst (ts.map Tst.pv))) noPart (partW (SL.ret (natP k))))) (setl (lstO (vcons (tupW (vcons (SL.ret (.str (PySem.Str.ofString "mark"))) (vcons (SL.ret (.str (PySem.Str.ofString "zzzz"))) vnil))) vnil)))) (setl (cutO (SL.ret (.lst (ts.map Tst.pv))) (partW (op2 addF (SL.ret (natP k)) (SL.ret (.int 1)))) noPart)) = SL.ret (.lst ((ts.take k ++ [Tst.mk (PySem.Str.ofString "zzzz")] ++ ts.drop (k + 1)).map Tst.pv)) := by
    have c1 : op2 addF (SL.ret (natP k)) (SL.ret (.int 1)) = SL.ret (natP (k + 1)) := by
      rw [r_op2, r_addI, r_lift]
      congr 2
    have t1 := cut_to (as := ts.map Tst.pv) (d := (k : Int)) (by omega) (by simp; omega)
    have f1 := cut_from (as := ts.map Tst.pv) (d := ((k + 1 : Nat) : Int)) (by omega) (by simp; omega)
    rw [Int.toNat_natCast] at t1 f1
    have z1 : setl (lstO (vcons (tupW (vcons (SL.ret (.str (PySem.Str.ofString "mark"))) (vcons (SL.ret (.str (PySem.Str.ofString "zzzz"))) vnil))) vnil)) = SL.ret (.lst [(Tst.mk (PySem.Str.ofString "zzzz")).pv]) := by simp; rfl
    rw [c1, t1, f1, z1, r_setl, r_setl, r_op2, add_ls (by simp; omega), r_lift, r_op2, add_ls (by simp; omega), r_lift, List.map_append, List.map_append, List.map_take, List.map_drop]
    rfl
  rw [eb, r_bind]
  generalize hus : ts.take k ++ [Tst.mk (PySem.Str.ofString "zzzz")] ++ ts.drop (k + 1) = us at bo bl
  refine Run.bindA (make_lst bo (by omega) (by omega) hS1) fun a ea => ?_
  subst ea
  refine run0 (ans_or0 (ans_not (b := true) (tru (looks hS1 ho l1 (by omega)))) (ans_tst ((deep_ans (P := (· = .bl false)) hS1 (rp_ptr hh1) (by simp) (fun S4 _ => by rw [r_op2, ne_rows ho.wf ho.wf, EQ_refl ho.wf, r_lift]; exact Ans.ret rfl) fun c e => by rw [e]; rfl).mono fun a ea => ⟨false, by rw [ea], rfl⟩))) ?_
  -- what is held
  refine Run.bind (P := fun a S4 => ∃ q1 q2 qh, a = .ptr qh ∧ S4 qh = some (.lst [.ptr q1, .ptr q2]) ∧ S4 q1 = some (.lst (ts.map Tst.pv)) ∧ S4 q2 = some (.lst (intsN (stps ts []))) ∧ q1 ≠ q2 ∧ qh ≠ q1 ∧ qh ≠ q2 ∧ ph ≠ q1 ∧ ph ≠ q2 ∧ ph ≠ qh ∧ S4 ph = some (.lst (ts.map Tst.pv)) ∧ LightS S4) ?_ fun a S4 ⟨q1, q2, qh, ea, h1, h2, h3, n12, nh1, nh2, np1, np2, nph, h4, l4⟩ => ?_
  · have li : ∀ l : List Nat, lights (l.map natP) = true := fun l => by
      induction l with
      | nil => rfl
      | cons a l ih => rw [List.map_cons, lights, ih]; rfl
    rw [rows_eq]
    have m1 : Run (cellW (SL.ret (ts.map Tst.pv))) S1 fun a S2 => ∃ q1, a = .ptr q1 ∧ S1 q1 = none ∧ S2 = put S1 q1 (.lst (ts.map Tst.pv)) := Run.cell (P := fun as S2 => as = ts.map Tst.pv ∧ S2 = S1) (Run.ret ⟨rfl, rfl⟩) fun as S2 q ⟨e, e2⟩ hp => ⟨q, rfl, by rw [← e2]; exact hp, by rw [e2, e]⟩
    have m2 : ∀ {S2 : Sto}, LightS S2 → Run (cellW (methO (ca 1) "steps" (ar1 (NT.F_Sheet_steps ca)) (SL.ret (sh ca (ts.map Tst.pv))) vnil)) S2 fun a S3 => ∃ q2, a = .ptr q2 ∧ S2 q2 = none ∧ S3 = put S2 q2 (.lst (intsN (stps ts []))) := fun {S2} l2 => Run.cell (P := fun as S3 => as = intsN (stps ts []) ∧ S3 = S2) (Run.ans (steps_meth l2 ho (by omega))) fun as S3 q ⟨e, e2⟩ hp => ⟨q, rfl, by rw [← e2]; exact hp, by rw [e2, e]⟩
    refine Run.cell (P := fun as S3 => ∃ q1 q2, as = [.ptr q1, .ptr q2] ∧ S1 q1 = none ∧ put S1 q1 (.lst (ts.map Tst.pv)) q2 = none ∧ S3 = put (put S1 q1 (.lst (ts.map Tst.pv))) q2 (.lst (intsN (stps ts [])))) ?_ fun as S3 qh ⟨q1, q2, ea, n1, n2, e3⟩ hp => ?_
    · unfold lstO vcons
      refine Run.bind (P := fun as S3 => ∃ q1 q2, as = [.ptr q1, .ptr q2] ∧ S1 q1 = none ∧ put S1 q1 (.lst (ts.map Tst.pv)) q2 = none ∧ S3 = put (put S1 q1 (.lst (ts.map Tst.pv))) q2 (.lst (intsN (stps ts [])))) (Run.bind m1 fun a S2 ⟨q1, ea, n1, e2⟩ => ?_) fun as S3 ⟨q1, q2, e, h⟩ => ?_
      · subst ea e2
        refine Run.bind (P := fun as S3 => ∃ q2, as = [.ptr q2] ∧ put S1 q1 (.lst (ts.map Tst.pv)) q2 = none ∧ S3 = put (put S1 q1 (.lst (ts.map Tst.pv))) q2 (.lst (intsN (stps ts [])))) (Run.bind (m2 (light_put hS1 (lights_ts ts))) fun b S3 ⟨q2, eb, n2, e3⟩ => ?_) fun as S3 ⟨q2, e, n2, e3⟩ => ?_
        · rw [r_vnil, r_bind, eb]
          exact Run.ret ⟨q2, rfl, n2, e3⟩
        · rw [e]
          exact Run.ret ⟨q1, q2, rfl, n1, n2, e3⟩
      · subst e
        refine Run.lift (a := [.ptr q1, .ptr q2]) (if_pos (by simp)) ?_
        exact ⟨q1, q2, rfl, h⟩
    subst ea e3
    have n12 : q1 ≠ q2 := fun e => by rw [← e, put_same] at n2; cases n2
    have nh2 : qh ≠ q2 := fun e => by rw [e, put_same] at hp; cases hp
    have nh1 : qh ≠ q1 := fun e => by rw [e, put_ne n12, put_same] at hp; cases hp
    have np1 : ph ≠ q1 := fun e => by rw [← e, hh1] at n1; cases n1
    have np2 : ph ≠ q2 := fun e => by rw [← e, put_ne np1, hh1] at n2; cases n2
    have nph : ph ≠ qh := fun e => by rw [← e, put_ne np2, put_ne np1, hh1] at hp; cases hp
    refine ⟨q1, q2, qh, rfl, put_same, by rw [put_ne (Ne.symm nh1), put_ne n12, put_same], by rw [put_ne (Ne.symm nh2), put_same], n12, nh1, nh2, np1, np2, nph, by rw [put_ne nph, put_ne np2, put_ne np1]; exact hh1, light_put (light_put (light_put hS1 (lights_ts ts)) (li _)) rfl⟩
  subst ea
  refine ixC_run (c := .ptr q1) h1 rfl ?_
  refine push_run h2 (by simp; omega) ?_
  refine ixC_run (c := .ptr q2) (by rw [put_ne nh1]; exact h1) rfl ?_
  refine clear_run (by rw [put_ne (Ne.symm n12)]; exact h3) ?_
  refine clear_run (as := ts.map Tst.pv) (by rw [put_ne np2, put_ne np1]; exact h4) ?_
  generalize hS7 : put (put (put S4 q1 (.lst (ts.map Tst.pv ++ [.non]))) q2 (.lst [])) ph (.lst []) = S7
  have l7 : LightS S7 := by
    rw [← hS7]
    refine light_put (light_put (light_put l4 ?_) rfl) rfl
    show lights (ts.map Tst.pv ++ [.non]) = true
    have : ∀ l : List Tst, lights (l.map Tst.pv ++ [.non]) = true := fun l => by
      induction l with
      | nil => rfl
      | cons a l ih => rw [List.map_cons, List.cons_append, lights, ih, light_t]; rfl
    exact this _
  have rp7 : Rp S7 3 (.ptr qh) (heldP ts) [qh, q1, q2] := by
    have g1 : S7 qh = some (.lst [.ptr q1, .ptr q2]) := by rw [← hS7, put_ne (Ne.symm nph), put_ne nh2, put_ne nh1]; exact h1
    have g2 : S7 q1 = some (.lst (ts.map Tst.pv ++ [.non])) := by rw [← hS7, put_ne (Ne.symm np1), put_ne n12, put_same]
    have g3 : S7 q2 = some (.lst []) := by rw [← hS7, put_ne (Ne.symm np2), put_same]
    refine ⟨_, _, [q1, q2], g1, rfl, rfl, _, _, [q1], [q2], rfl, rfl, ⟨_, _, [], g2, rfl, rfl, rpL_flat fun a ha => ?_⟩, _, _, [q2], [], rfl, rfl, ⟨_, _, [], g3, rfl, rfl, rfl, rfl⟩, rfl, rfl⟩
    rcases List.mem_append.mp ha with ha | ha
    · obtain ⟨t, _, rfl⟩ := List.mem_map.mp ha
      exact rp_row t 1
    · rw [List.mem_singleton.mp ha]
      exact rp_non 1
  have nd7 : [qh, q1, q2].Nodup := by
    simp
    exact ⟨⟨nh1, nh2⟩, n12⟩
  refine (Run.ans (R := fun fl => ∃ s, fl = .nx s) ?_).mono fun fl S8 ⟨⟨s, e⟩, e8⟩ => ⟨s, e, by rw [e8]; exact l7⟩
  have i1 : itL (setl (lstO (vcons (SL.ret (sh ca (ts.map Tst.pv))) (vcons (SL.ret (sh ca (ts.map Tst.pv))) vnil)))) = SL.ret [sh ca (ts.map Tst.pv), sh ca (ts.map Tst.pv)] := by simp
  rw [i1, r_bind]
  refine Ans.bindF (I := fun _ => True) ((loop_u _ (all_c (one_ok l7 ho l1 (by omega) rp7 nd7) (all_c (one_ok l7 ho l1 (by omega) rp7 nd7) all_n))).mono fun fl e => ⟨(), e, trivial⟩) fun _ _ => ?_
  have eqs : ∀ {ts us : List Tst}, WF ts → WF us → Ans (eqAW (ca 1) (ar2 (F_Sheet___eq__ ca)) (SL.ret (sh ca (ts.map Tst.pv))) (SL.ret (sh ca (us.map Tst.pv)))) S7 (· = .bl (EQ ts us)) := fun h k => Ans.of (eqA_sh h k) rfl
  have w := ho.wf
  have v := bo.wf
  refine if0 (ans_or0 (ans_not (b := true) (tru (looks l7 bo (by omega) (by omega)))) (ans_or0 (f_isb (b := true) ((eqs w w).mono fun a e => by rw [e, EQ_refl w])) (f_isb (b := true) ((eqs w w).mono fun a e => by rw [e, EQ_refl w])))) ?_
  have er : op2 eqF (SL.ret (.lst (us.map Tst.pv))) (SL.ret (.lst (ts.map Tst.pv))) = SL.ret (.bl (EQ us ts)) := by rw [r_op2, eq_rows v w, r_lift]
  have oN : isiF oddB [(ca 1, true)] .non = some (.bl false) := by simp [isiF, tyN, oddB, kinds0]
  rw [er]
  refine if0 (ans_or0 (f_neF (eqs w v) (Ans.ret rfl) (by rw [EQ_comm]; exact nb _)) (ans_or0 (f_neF (eqs v w) (Ans.ret rfl) (nb _)) (ans_tst ((in_twin w (by simp) oN).mono fun a ea => ⟨false, by rw [ea], rfl⟩)))) ?_
  have e1 : setl (cutO (SL.ret (.lst (ts.map Tst.pv))) noPart (partW (SL.ret (.int 1)))) = SL.ret (.lst ((ts.take 1).map Tst.pv)) := by
    have := cut_to (as := ts.map Tst.pv) (d := 1) (by omega) (by simp; omega)
    rw [this, r_setl, List.map_take]
    rfl
  have e3 : op2 addF (SL.ret (.lst (ts.map Tst.pv))) (setl (lstO (vcons (tupW (vcons (SL.ret (.str (PySem.Str.ofString "not"))) (vcons (SL.ret (.int 0)) vnil))) vnil))) = SL.ret (.lst ((ts ++ [Tst.nt 0]).map Tst.pv)) := by
    have z1 : setl (lstO (vcons (tupW (vcons (SL.ret (.str (PySem.Str.ofString "not"))) (vcons (SL.ret (.int 0)) vnil))) vnil)) = SL.ret (.lst [(Tst.nt 0).pv]) := by simp; rfl
    rw [z1, r_op2, add_ls (by simp; omega), r_lift, List.map_append]
    rfl
  have i2 : itL (setl (lstO (vcons (SL.ret (.lst ((ts.take 1).map Tst.pv))) (vcons (SL.ret (.lst ((ts ++ [Tst.nt 0]).map Tst.pv))) vnil)))) = SL.ret [.lst ((ts.take 1).map Tst.pv), .lst ((ts ++ [Tst.nt 0]).map Tst.pv)] := by simp
  rw [e1, e3, i2, r_bind]
  have o1 : Okk (ts.take 1) 0 := fun i t h => by
    rw [List.getElem?_take] at h
    split at h
    · exact ho i t h
    · cases h
  have o2 : Okk (ts ++ [Tst.nt 0]) 0 := ho.push l1
  refine Ans.bindF (I := fun _ => True) ((loop_u _ (all_c (two_ok l7 ho o1 (by rw [List.length_take]; omega) (by rw [List.length_take]; omega)) (all_c (two_ok l7 ho o2 (by simp) (by simp; omega)) all_n))).mono fun fl e => ⟨(), e, trivial⟩) fun _ _ => ?_
  have tu : tupOf (vcons (SL.ret (.lst (ts.map Tst.pv))) vnil) = SL.ret (.tup (ts.map Tst.pv)) := by
    unfold tupOf
    simp [tupF1]
  have i3 : itL (setl (lstO (vcons (SL.ret .non) (vcons (SL.ret (.int 0)) (vcons (op1 (repOF (ca 1) nsS txS) (SL.ret (sh ca (ts.map Tst.pv)))) (vcons (SL.ret (.lst (ts.map Tst.pv))) (vcons (tupOf (vcons (SL.ret (.lst (ts.map Tst.pv))) vnil)) (vcons (setl (lstO (vcons (SL.ret (sh ca (ts.map Tst.pv))) vnil))) (vcons (SL.ret (.dic [] [])) (vcons (SL.ret (.bl true)) (vcons (SL.ret (.str (PySem.Str.ofString "mark"))) (vcons (SL.ret (.lst (us.map Tst.pv))) vnil)))))))))))) = SL.ret [.non, .int 0, .str (shT (ts.map Tst.pv).length), .lst (ts.map Tst.pv), .tup (ts.map Tst.pv), .lst [sh ca (ts.map Tst.pv)], .dic [] [], .bl true, .str (PySem.Str.ofString "mark"), .lst (us.map Tst.pv)] := by
    rw [rep_eq (by simp; omega), tu]
    simp
  rw [i3, r_bind]
  have odd : ∀ {v : PV}, (tyN v = some "int" ∨ tyN v = some "str" ∨ tyN v = some "list" ∨ tyN v = some "tuple" ∨ tyN v = some "dict" ∨ tyN v = some "bool") → (∀ c ns as, v ≠ .ins c ns as) → isiF oddB [(ca 1, true)] v = some (.bl false) := fun {v} h hn => by
    unfold isiF
    split
    · exact absurd rfl (hn _ _ _)
    · rcases h with h | h | h | h | h | h <;> rw [h] <;> simp [oddB, kinds0]
  refine Ans.bindF (I := fun _ => True) ((loop_u _ (all_c (three_ok oN rfl) (all_c (three_ok (odd (by simp [tyN]) fun _ _ _ e => by cases e) rfl) (all_c (three_ok (odd (by simp [tyN]) fun _ _ _ e => by cases e) rfl) (all_c (three_ok (odd (by simp [tyN]) fun _ _ _ e => by cases e) rfl) (all_c (three_ok (odd (by simp [tyN]) fun _ _ _ e => by cases e) rfl) (all_c (three_ok (odd (by simp [tyN]) fun _ _ _ e => by cases e) rfl) (all_c (three_ok (odd (by simp [tyN]) fun _ _ _ e => by cases e) rfl) (all_c (three_ok (odd (by simp [tyN]) fun _ _ _ e => by cases e) rfl) (all_c (three_ok (odd (by simp [tyN]) fun _ _ _ e => by cases e) rfl) (all_c (three_ok (odd (by simp [tyN]) fun _ _ _ e => by cases e) rfl) all_n))))))))))).mono fun fl e => ⟨(), e, trivial⟩) fun _ _ => Ans.ret ⟨(), rfl⟩
theorem law_true (ca : Nat → Addr) (ns : List Int) (hn : ns.length ≤ 63) : F_law ca (.scr ns) S0 (fun r _ => r = .v (.bl true)) fun _ _ => False := by
  obtain ⟨m, m1, hm⟩ := turnsB (n := 20) hn (by decide) (by decide)
  have core : Run (F0_law ca (.scr ns)) S0 fun r _ => r = .v (.bl true) := by
    unfold F0_law B_law
    refine Run.runF ?_
    refine Run.bindF (I := fun _ S2 => LightS S2) ?_ fun s S2 l2 => ?_
    · show Run (SL.bind _ _) S0 _
      refine Run.bindA (R := (· = (List.range m).map natP)) (Ans.of hm rfl) fun as ea => ?_
      subst ea
      exact (run_forN (fun _ (_ : Unit) S2 => LightS S2) (fun q c e => by cases e) fun i s S2 hi l => (turn61 (ca := ca) (k := i) hn (by omega) l).mono fun fl S3 ⟨s, e, l⟩ => ⟨s, e, l⟩).mono fun fl S3 ⟨s, e, l⟩ => ⟨s, e, l⟩
    · rw [r_bind]
      exact Run.ret (.inl ⟨_, rfl, rfl⟩)
  exact core _ _ fun r S2 e => e
end B61
namespace B61
open PySem PySem.Spec PyProof.Rows L2 Evl NF WL SL
set_option maxHeartbeats 0 in
theorem all_mk {l : PySem.W.OpenLaw} {w : World} {K : PySem.W.Frag} {h : Heap} {mg : Str → Option Value} {fa : Addr} (X : K.In h) (G : h.Ns mainGlobals mg) (hfa : mg "law" = some (.ref fa))
    {f_is_whole : Addr} {od0 an0 : Option Addr} {sl0 : Array (Option Value)} {oc0 kV0 dc0 pm0 cd0 ct0 : Value}
    (a_is_whole : PySem.W.nsIn K mainGlobals "is_whole" = some (some (.ref f_is_whole))) (l_is_whole : K.lookup f_is_whole = some ⟨oc0, od0, .func (PySem.W.fnOf "is_whole" "is_whole" (defArgs s_is_whole) (defBody s_is_whole) (defScope s_is_whole) .none kV0 dc0 pm0 an0 cd0 ct0), sl0⟩) (d_is_whole : PySem.W.codeIn K cd0 "is_whole" = true) (k_is_whole : PySem.W.keepIn K (.ref f_is_whole) = true)
    {f_is_whole_within : Addr} {od1 an1 : Option Addr} {sl1 : Array (Option Value)} {oc1 kV1 dc1 pm1 cd1 ct1 : Value}
    (a_is_whole_within : PySem.W.nsIn K mainGlobals "is_whole_within" = some (some (.ref f_is_whole_within))) (l_is_whole_within : K.lookup f_is_whole_within = some ⟨oc1, od1, .func (PySem.W.fnOf "is_whole_within" "is_whole_within" (defArgs s_is_whole_within) (defBody s_is_whole_within) (defScope s_is_whole_within) .none kV1 dc1 pm1 an1 cd1 ct1), sl1⟩) (d_is_whole_within : PySem.W.codeIn K cd1 "is_whole_within" = true) (k_is_whole_within : PySem.W.keepIn K (.ref f_is_whole_within) = true)
    {f_greatest_divisor : Addr} {od2 an2 : Option Addr} {sl2 : Array (Option Value)} {oc2 kV2 dc2 pm2 cd2 ct2 : Value}
    (a_greatest_divisor : PySem.W.nsIn K mainGlobals "greatest_divisor" = some (some (.ref f_greatest_divisor))) (l_greatest_divisor : K.lookup f_greatest_divisor = some ⟨oc2, od2, .func (PySem.W.fnOf "greatest_divisor" "greatest_divisor" (defArgs s_greatest_divisor) (defBody s_greatest_divisor) (defScope s_greatest_divisor) .none kV2 dc2 pm2 an2 cd2 ct2), sl2⟩) (d_greatest_divisor : PySem.W.codeIn K cd2 "greatest_divisor" = true) (k_greatest_divisor : PySem.W.keepIn K (.ref f_greatest_divisor) = true)
    {f_is_fraction : Addr} {od3 an3 : Option Addr} {sl3 : Array (Option Value)} {oc3 kV3 dc3 pm3 cd3 ct3 : Value}
    (a_is_fraction : PySem.W.nsIn K mainGlobals "is_fraction" = some (some (.ref f_is_fraction))) (l_is_fraction : K.lookup f_is_fraction = some ⟨oc3, od3, .func (PySem.W.fnOf "is_fraction" "is_fraction" (defArgs s_is_fraction) (defBody s_is_fraction) (defScope s_is_fraction) .none kV3 dc3 pm3 an3 cd3 ct3), sl3⟩) (d_is_fraction : PySem.W.codeIn K cd3 "is_fraction" = true) (k_is_fraction : PySem.W.keepIn K (.ref f_is_fraction) = true)
    {f_is_amount : Addr} {od4 an4 : Option Addr} {sl4 : Array (Option Value)} {oc4 kV4 dc4 pm4 cd4 ct4 : Value}
    (a_is_amount : PySem.W.nsIn K mainGlobals "is_amount" = some (some (.ref f_is_amount))) (l_is_amount : K.lookup f_is_amount = some ⟨oc4, od4, .func (PySem.W.fnOf "is_amount" "is_amount" (defArgs s_is_amount) (defBody s_is_amount) (defScope s_is_amount) .none kV4 dc4 pm4 an4 cd4 ct4), sl4⟩) (d_is_amount : PySem.W.codeIn K cd4 "is_amount" = true) (k_is_amount : PySem.W.keepIn K (.ref f_is_amount) = true)
    {f_is_gap : Addr} {od5 an5 : Option Addr} {sl5 : Array (Option Value)} {oc5 kV5 dc5 pm5 cd5 ct5 : Value}
    (a_is_gap : PySem.W.nsIn K mainGlobals "is_gap" = some (some (.ref f_is_gap))) (l_is_gap : K.lookup f_is_gap = some ⟨oc5, od5, .func (PySem.W.fnOf "is_gap" "is_gap" (defArgs s_is_gap) (defBody s_is_gap) (defScope s_is_gap) .none kV5 dc5 pm5 an5 cd5 ct5), sl5⟩) (d_is_gap : PySem.W.codeIn K cd5 "is_gap" = true) (k_is_gap : PySem.W.keepIn K (.ref f_is_gap) = true)
    {f_is_mark : Addr} {od6 an6 : Option Addr} {sl6 : Array (Option Value)} {oc6 kV6 dc6 pm6 cd6 ct6 : Value}
    (a_is_mark : PySem.W.nsIn K mainGlobals "is_mark" = some (some (.ref f_is_mark))) (l_is_mark : K.lookup f_is_mark = some ⟨oc6, od6, .func (PySem.W.fnOf "is_mark" "is_mark" (defArgs s_is_mark) (defBody s_is_mark) (defScope s_is_mark) .none kV6 dc6 pm6 an6 cd6 ct6), sl6⟩) (d_is_mark : PySem.W.codeIn K cd6 "is_mark" = true) (k_is_mark : PySem.W.keepIn K (.ref f_is_mark) = true)
    {f_fits : Addr} {od7 an7 : Option Addr} {sl7 : Array (Option Value)} {oc7 kV7 dc7 pm7 cd7 ct7 : Value}
    (a_fits : PySem.W.nsIn K mainGlobals "fits" = some (some (.ref f_fits))) (l_fits : K.lookup f_fits = some ⟨oc7, od7, .func (PySem.W.fnOf "fits" "fits" (defArgs s_fits) (defBody s_fits) (defScope s_fits) .none kV7 dc7 pm7 an7 cd7 ct7), sl7⟩) (d_fits : PySem.W.codeIn K cd7 "fits" = true) (k_fits : PySem.W.keepIn K (.ref f_fits) = true)
    {f_is_sheet_row : Addr} {od8 an8 : Option Addr} {sl8 : Array (Option Value)} {oc8 kV8 dc8 pm8 cd8 ct8 : Value}
    (a_is_sheet_row : PySem.W.nsIn K mainGlobals "is_sheet_row" = some (some (.ref f_is_sheet_row))) (l_is_sheet_row : K.lookup f_is_sheet_row = some ⟨oc8, od8, .func (PySem.W.fnOf "is_sheet_row" "is_sheet_row" (defArgs s_is_sheet_row) (defBody s_is_sheet_row) (defScope s_is_sheet_row) .none kV8 dc8 pm8 an8 cd8 ct8), sl8⟩) (d_is_sheet_row : PySem.W.codeIn K cd8 "is_sheet_row" = true) (k_is_sheet_row : PySem.W.keepIn K (.ref f_is_sheet_row) = true)
    {f_check_rows : Addr} {od9 an9 : Option Addr} {sl9 : Array (Option Value)} {oc9 kV9 dc9 pm9 cd9 ct9 : Value}
    (a_check_rows : PySem.W.nsIn K mainGlobals "check_rows" = some (some (.ref f_check_rows))) (l_check_rows : K.lookup f_check_rows = some ⟨oc9, od9, .func (PySem.W.fnOf "check_rows" "check_rows" (defArgs s_check_rows) (defBody s_check_rows) (defScope s_check_rows) .none kV9 dc9 pm9 an9 cd9 ct9), sl9⟩) (d_check_rows : PySem.W.codeIn K cd9 "check_rows" = true) (k_check_rows : PySem.W.keepIn K (.ref f_check_rows) = true)
    {f_steps_of : Addr} {od10 an10 : Option Addr} {sl10 : Array (Option Value)} {oc10 kV10 dc10 pm10 cd10 ct10 : Value}
    (a_steps_of : PySem.W.nsIn K mainGlobals "steps_of" = some (some (.ref f_steps_of))) (l_steps_of : K.lookup f_steps_of = some ⟨oc10, od10, .func (PySem.W.fnOf "steps_of" "steps_of" (defArgs s_steps_of) (defBody s_steps_of) (defScope s_steps_of) .none kV10 dc10 pm10 an10 cd10 ct10), sl10⟩) (d_steps_of : PySem.W.codeIn K cd10 "steps_of" = true) (k_steps_of : PySem.W.keepIn K (.ref f_steps_of) = true)
    {f__law_bag : Addr} {od11 an11 : Option Addr} {sl11 : Array (Option Value)} {oc11 kV11 dc11 pm11 cd11 ct11 : Value}
    (a__law_bag : PySem.W.nsIn K mainGlobals "_law_bag" = some (some (.ref f__law_bag))) (l__law_bag : K.lookup f__law_bag = some ⟨oc11, od11, .func (PySem.W.fnOf "_law_bag" "_law_bag" (defArgs s__law_bag) (defBody s__law_bag) (defScope s__law_bag) .none kV11 dc11 pm11 an11 cd11 ct11), sl11⟩) (d__law_bag : PySem.W.codeIn K cd11 "_law_bag" = true) (k__law_bag : PySem.W.keepIn K (.ref f__law_bag) = true)
    {f__law_out : Addr} {od12 an12 : Option Addr} {sl12 : Array (Option Value)} {oc12 kV12 dc12 pm12 cd12 ct12 : Value}
    (a__law_out : PySem.W.nsIn K mainGlobals "_law_out" = some (some (.ref f__law_out))) (l__law_out : K.lookup f__law_out = some ⟨oc12, od12, .func (PySem.W.fnOf "_law_out" "_law_out" (defArgs s__law_out) (defBody s__law_out) (defScope s__law_out) .none kV12 dc12 pm12 an12 cd12 ct12), sl12⟩) (d__law_out : PySem.W.codeIn K cd12 "_law_out" = true) (k__law_out : PySem.W.keepIn K (.ref f__law_out) = true)
    {f__law_low : Addr} {od13 an13 : Option Addr} {sl13 : Array (Option Value)} {oc13 kV13 dc13 pm13 cd13 ct13 : Value}
    (a__law_low : PySem.W.nsIn K mainGlobals "_law_low" = some (some (.ref f__law_low))) (l__law_low : K.lookup f__law_low = some ⟨oc13, od13, .func (PySem.W.fnOf "_law_low" "_law_low" (defArgs s__law_low) (defBody s__law_low) (defScope s__law_low) .none kV13 dc13 pm13 an13 cd13 ct13), sl13⟩) (d__law_low : PySem.W.codeIn K cd13 "_law_low" = true) (k__law_low : PySem.W.keepIn K (.ref f__law_low) = true)
    {f__law_word : Addr} {od14 an14 : Option Addr} {sl14 : Array (Option Value)} {oc14 kV14 dc14 pm14 cd14 ct14 : Value}
    (a__law_word : PySem.W.nsIn K mainGlobals "_law_word" = some (some (.ref f__law_word))) (l__law_word : K.lookup f__law_word = some ⟨oc14, od14, .func (PySem.W.fnOf "_law_word" "_law_word" (defArgs s__law_word) (defBody s__law_word) (defScope s__law_word) .none kV14 dc14 pm14 an14 cd14 ct14), sl14⟩) (d__law_word : PySem.W.codeIn K cd14 "_law_word" = true) (k__law_word : PySem.W.keepIn K (.ref f__law_word) = true)
    {f__law_tests : Addr} {od15 an15 : Option Addr} {sl15 : Array (Option Value)} {oc15 kV15 dc15 pm15 cd15 ct15 : Value}
    (a__law_tests : PySem.W.nsIn K mainGlobals "_law_tests" = some (some (.ref f__law_tests))) (l__law_tests : K.lookup f__law_tests = some ⟨oc15, od15, .func (PySem.W.fnOf "_law_tests" "_law_tests" (defArgs s__law_tests) (defBody s__law_tests) (defScope s__law_tests) .none kV15 dc15 pm15 an15 cd15 ct15), sl15⟩) (d__law_tests : PySem.W.codeIn K cd15 "_law_tests" = true) (k__law_tests : PySem.W.keepIn K (.ref f__law_tests) = true)
    {f__law_steps : Addr} {od16 an16 : Option Addr} {sl16 : Array (Option Value)} {oc16 kV16 dc16 pm16 cd16 ct16 : Value}
    (a__law_steps : PySem.W.nsIn K mainGlobals "_law_steps" = some (some (.ref f__law_steps))) (l__law_steps : K.lookup f__law_steps = some ⟨oc16, od16, .func (PySem.W.fnOf "_law_steps" "_law_steps" (defArgs s__law_steps) (defBody s__law_steps) (defScope s__law_steps) .none kV16 dc16 pm16 an16 cd16 ct16), sl16⟩) (d__law_steps : PySem.W.codeIn K cd16 "_law_steps" = true) (k__law_steps : PySem.W.keepIn K (.ref f__law_steps) = true)
    {f__law_looks_right : Addr} {od17 an17 : Option Addr} {sl17 : Array (Option Value)} {oc17 kV17 dc17 pm17 cd17 ct17 : Value}
    (a__law_looks_right : PySem.W.nsIn K mainGlobals "_law_looks_right" = some (some (.ref f__law_looks_right))) (l__law_looks_right : K.lookup f__law_looks_right = some ⟨oc17, od17, .func (PySem.W.fnOf "_law_looks_right" "_law_looks_right" (defArgs s__law_looks_right) (defBody s__law_looks_right) (defScope s__law_looks_right) .none kV17 dc17 pm17 an17 cd17 ct17), sl17⟩) (d__law_looks_right : PySem.W.codeIn K cd17 "_law_looks_right" = true) (k__law_looks_right : PySem.W.keepIn K (.ref f__law_looks_right) = true)
    {f_law : Addr} {od18 an18 : Option Addr} {sl18 : Array (Option Value)} {oc18 kV18 dc18 pm18 cd18 ct18 : Value}
    (a_law : PySem.W.nsIn K mainGlobals "law" = some (some (.ref f_law))) (l_law : K.lookup f_law = some ⟨oc18, od18, .func (PySem.W.fnOf "law" "law" (defArgs s_law) (defBody s_law) (defScope s_law) .none kV18 dc18 pm18 an18 cd18 ct18), sl18⟩) (d_law : PySem.W.codeIn K cd18 "law" = true) (k_law : PySem.W.keepIn K (.ref f_law) = true)
    {c_Sheet : Addr} (g_Sheet : PySem.W.nsIn K mainGlobals "Sheet" = some (some (.ref c_Sheet)))
    {f_Sheet___init__ : Addr} {od20 an20 : Option Addr} {sl20 : Array (Option Value)} {oc20 kV20 dc20 pm20 cd20 ct20 : Value}
    (a_Sheet___init__ : PySem.W.findIn K (.ref c_Sheet) "__init__" = some (some (.ref f_Sheet___init__))) (i_Sheet___init__ : PySem.W.isFn K (.ref f_Sheet___init__) = true) (l_Sheet___init__ : K.lookup f_Sheet___init__ = some ⟨oc20, od20, .func (PySem.W.fnOf "__init__" "Sheet.__init__" (defArgs s_Sheet___init__) (defBody s_Sheet___init__) (defScope s_Sheet___init__) .none kV20 dc20 pm20 an20 cd20 ct20), sl20⟩) (d_Sheet___init__ : PySem.W.codeIn K cd20 "Sheet.__init__" = true) (k_Sheet___init__ : PySem.W.keepIn K (.ref f_Sheet___init__) = true)
    {f_Sheet_rows : Addr} {od21 an21 : Option Addr} {sl21 : Array (Option Value)} {oc21 kV21 dc21 pm21 cd21 ct21 : Value}
    (a_Sheet_rows : PySem.W.findIn K (.ref c_Sheet) "rows" = some (some (.ref f_Sheet_rows))) (i_Sheet_rows : PySem.W.isFn K (.ref f_Sheet_rows) = true) (l_Sheet_rows : K.lookup f_Sheet_rows = some ⟨oc21, od21, .func (PySem.W.fnOf "rows" "Sheet.rows" (defArgs s_Sheet_rows) (defBody s_Sheet_rows) (defScope s_Sheet_rows) .none kV21 dc21 pm21 an21 cd21 ct21), sl21⟩) (d_Sheet_rows : PySem.W.codeIn K cd21 "Sheet.rows" = true) (k_Sheet_rows : PySem.W.keepIn K (.ref f_Sheet_rows) = true)
    {f_Sheet_steps : Addr} {od22 an22 : Option Addr} {sl22 : Array (Option Value)} {oc22 kV22 dc22 pm22 cd22 ct22 : Value}
    (a_Sheet_steps : PySem.W.findIn K (.ref c_Sheet) "steps" = some (some (.ref f_Sheet_steps))) (i_Sheet_steps : PySem.W.isFn K (.ref f_Sheet_steps) = true) (l_Sheet_steps : K.lookup f_Sheet_steps = some ⟨oc22, od22, .func (PySem.W.fnOf "steps" "Sheet.steps" (defArgs s_Sheet_steps) (defBody s_Sheet_steps) (defScope s_Sheet_steps) .none kV22 dc22 pm22 an22 cd22 ct22), sl22⟩) (d_Sheet_steps : PySem.W.codeIn K cd22 "Sheet.steps" = true) (k_Sheet_steps : PySem.W.keepIn K (.ref f_Sheet_steps) = true)
    {f_Sheet___eq__ : Addr} {od23 an23 : Option Addr} {sl23 : Array (Option Value)} {oc23 kV23 dc23 pm23 cd23 ct23 : Value}
    (a_Sheet___eq__ : PySem.W.findIn K (.ref c_Sheet) "__eq__" = some (some (.ref f_Sheet___eq__))) (i_Sheet___eq__ : PySem.W.isFn K (.ref f_Sheet___eq__) = true) (l_Sheet___eq__ : K.lookup f_Sheet___eq__ = some ⟨oc23, od23, .func (PySem.W.fnOf "__eq__" "Sheet.__eq__" (defArgs s_Sheet___eq__) (defBody s_Sheet___eq__) (defScope s_Sheet___eq__) .none kV23 dc23 pm23 an23 cd23 ct23), sl23⟩) (d_Sheet___eq__ : PySem.W.codeIn K cd23 "Sheet.__eq__" = true) (k_Sheet___eq__ : PySem.W.keepIn K (.ref f_Sheet___eq__) = true)
    {f_Sheet___len__ : Addr} {od24 an24 : Option Addr} {sl24 : Array (Option Value)} {oc24 kV24 dc24 pm24 cd24 ct24 : Value}
    (a_Sheet___len__ : PySem.W.findIn K (.ref c_Sheet) "__len__" = some (some (.ref f_Sheet___len__))) (i_Sheet___len__ : PySem.W.isFn K (.ref f_Sheet___len__) = true) (l_Sheet___len__ : K.lookup f_Sheet___len__ = some ⟨oc24, od24, .func (PySem.W.fnOf "__len__" "Sheet.__len__" (defArgs s_Sheet___len__) (defBody s_Sheet___len__) (defScope s_Sheet___len__) .none kV24 dc24 pm24 an24 cd24 ct24), sl24⟩) (d_Sheet___len__ : PySem.W.codeIn K cd24 "Sheet.__len__" = true) (k_Sheet___len__ : PySem.W.keepIn K (.ref f_Sheet___len__) = true)
    {f_Sheet___repr__ : Addr} {od25 an25 : Option Addr} {sl25 : Array (Option Value)} {oc25 kV25 dc25 pm25 cd25 ct25 : Value}
    (a_Sheet___repr__ : PySem.W.findIn K (.ref c_Sheet) "__repr__" = some (some (.ref f_Sheet___repr__))) (i_Sheet___repr__ : PySem.W.isFn K (.ref f_Sheet___repr__) = true) (l_Sheet___repr__ : K.lookup f_Sheet___repr__ = some ⟨oc25, od25, .func (PySem.W.fnOf "__repr__" "Sheet.__repr__" (defArgs s_Sheet___repr__) (defBody s_Sheet___repr__) (defScope s_Sheet___repr__) .none kV25 dc25 pm25 an25 cd25 ct25), sl25⟩) (d_Sheet___repr__ : PySem.W.codeIn K cd25 "Sheet.__repr__" = true) (k_Sheet___repr__ : PySem.W.keepIn K (.ref f_Sheet___repr__) = true)
    {f_Sheet___str__ : Addr} {od26 an26 : Option Addr} {sl26 : Array (Option Value)} {oc26 kV26 dc26 pm26 cd26 ct26 : Value}
    (a_Sheet___str__ : PySem.W.findIn K (.ref c_Sheet) "__str__" = some (some (.ref f_Sheet___str__))) (i_Sheet___str__ : PySem.W.isFn K (.ref f_Sheet___str__) = true) (l_Sheet___str__ : K.lookup f_Sheet___str__ = some ⟨oc26, od26, .func (PySem.W.fnOf "__str__" "Sheet.__str__" (defArgs s_Sheet___str__) (defBody s_Sheet___str__) (defScope s_Sheet___str__) .none kV26 dc26 pm26 an26 cd26 ct26), sl26⟩) (d_Sheet___str__ : PySem.W.codeIn K cd26 "Sheet.__str__" = true) (k_Sheet___str__ : PySem.W.keepIn K (.ref f_Sheet___str__) = true)
    (z_abs : PySem.W.nsIn K mainGlobals "abs" = some none)
    (z_all : PySem.W.nsIn K mainGlobals "all" = some none)
    (z_bool : PySem.W.nsIn K mainGlobals "bool" = some none)
    (z_enumerate : PySem.W.nsIn K mainGlobals "enumerate" = some none)
    (z_int : PySem.W.nsIn K mainGlobals "int" = some none)
    (z_isinstance : PySem.W.nsIn K mainGlobals "isinstance" = some none)
    (z_len : PySem.W.nsIn K mainGlobals "len" = some none)
    (z_list : PySem.W.nsIn K mainGlobals "list" = some none)
    (z_max : PySem.W.nsIn K mainGlobals "max" = some none)
    (z_min : PySem.W.nsIn K mainGlobals "min" = some none)
    (z_range : PySem.W.nsIn K mainGlobals "range" = some none)
    (z_repr : PySem.W.nsIn K mainGlobals "repr" = some none)
    (z_str : PySem.W.nsIn K mainGlobals "str" = some none)
    (z_tuple : PySem.W.nsIn K mainGlobals "tuple" = some none)
    (z_zip : PySem.W.nsIn K mainGlobals "zip" = some none)
    {tk_LONGEST_MARK : Tok} (a_LONGEST_MARK : PySem.W.nsIn K mainGlobals "LONGEST_MARK" = some (some (.int 4 tk_LONGEST_MARK)))
    {tk_MOST_ROWS : Tok} (a_MOST_ROWS : PySem.W.nsIn K mainGlobals "MOST_ROWS" = some (some (.int 1500 tk_MOST_ROWS)))
    {A_FORMS : Addr} {es_FORMS : Array DictEntry} {nd_FORMS : Nat} (a_FORMS : PySem.W.nsIn K mainGlobals "FORMS" = some (some (.ref A_FORMS))) (l_FORMS : K.lookup A_FORMS = some ⟨.type "dict", none, .dict es_FORMS nd_FORMS, #[]⟩) (y_FORMS : PySem.W.KeysLit w.params es_FORMS.toList) (m_FORMS : (A_FORMS == sysModules) = false) (s_FORMS : (es_FORMS.toList.map fun e => strOfV e.key) = ([PySem.Str.ofString "mark", PySem.Str.ofString "next", PySem.Str.ofString "not", PySem.Str.ofString "less", PySem.Str.ofString "least", PySem.Str.ofString "most"] : List Str).map some)
    {T_FORMS_0 : Addr} {od_FORMS_0 : Option Addr} {sl_FORMS_0 : Array (Option Value)} {nt_FORMS_0 : Nat} {tk_FORMS_0_0 : Tok} (v_FORMS_0 : PySem.W.nsIn K A_FORMS (PySem.Str.ofString "mark") = some (some (.ref T_FORMS_0))) (u_FORMS_0 : K.lookup T_FORMS_0 = some ⟨.type "tuple", od_FORMS_0, .seq #[.str (PySem.Str.ofString "mark") tk_FORMS_0_0] nt_FORMS_0, sl_FORMS_0⟩)
    {T_FORMS_1 : Addr} {od_FORMS_1 : Option Addr} {sl_FORMS_1 : Array (Option Value)} {nt_FORMS_1 : Nat} {tk_FORMS_1_0 : Tok} (v_FORMS_1 : PySem.W.nsIn K A_FORMS (PySem.Str.ofString "next") = some (some (.ref T_FORMS_1))) (u_FORMS_1 : K.lookup T_FORMS_1 = some ⟨.type "tuple", od_FORMS_1, .seq #[.str (PySem.Str.ofString "row") tk_FORMS_1_0] nt_FORMS_1, sl_FORMS_1⟩)
    {T_FORMS_2 : Addr} {od_FORMS_2 : Option Addr} {sl_FORMS_2 : Array (Option Value)} {nt_FORMS_2 : Nat} {tk_FORMS_2_0 : Tok} (v_FORMS_2 : PySem.W.nsIn K A_FORMS (PySem.Str.ofString "not") = some (some (.ref T_FORMS_2))) (u_FORMS_2 : K.lookup T_FORMS_2 = some ⟨.type "tuple", od_FORMS_2, .seq #[.str (PySem.Str.ofString "row") tk_FORMS_2_0] nt_FORMS_2, sl_FORMS_2⟩)
    {T_FORMS_3 : Addr} {od_FORMS_3 : Option Addr} {sl_FORMS_3 : Array (Option Value)} {nt_FORMS_3 : Nat} {tk_FORMS_3_0 tk_FORMS_3_1 : Tok} (v_FORMS_3 : PySem.W.nsIn K A_FORMS (PySem.Str.ofString "less") = some (some (.ref T_FORMS_3))) (u_FORMS_3 : K.lookup T_FORMS_3 = some ⟨.type "tuple", od_FORMS_3, .seq #[.str (PySem.Str.ofString "row") tk_FORMS_3_0, .str (PySem.Str.ofString "cut") tk_FORMS_3_1] nt_FORMS_3, sl_FORMS_3⟩)
    {T_FORMS_4 : Addr} {od_FORMS_4 : Option Addr} {sl_FORMS_4 : Array (Option Value)} {nt_FORMS_4 : Nat} {tk_FORMS_4_0 tk_FORMS_4_1 : Tok} (v_FORMS_4 : PySem.W.nsIn K A_FORMS (PySem.Str.ofString "least") = some (some (.ref T_FORMS_4))) (u_FORMS_4 : K.lookup T_FORMS_4 = some ⟨.type "tuple", od_FORMS_4, .seq #[.str (PySem.Str.ofString "row") tk_FORMS_4_0, .str (PySem.Str.ofString "row") tk_FORMS_4_1] nt_FORMS_4, sl_FORMS_4⟩)
    {T_FORMS_5 : Addr} {od_FORMS_5 : Option Addr} {sl_FORMS_5 : Array (Option Value)} {nt_FORMS_5 : Nat} {tk_FORMS_5_0 tk_FORMS_5_1 : Tok} (v_FORMS_5 : PySem.W.nsIn K A_FORMS (PySem.Str.ofString "most") = some (some (.ref T_FORMS_5))) (u_FORMS_5 : K.lookup T_FORMS_5 = some ⟨.type "tuple", od_FORMS_5, .seq #[.str (PySem.Str.ofString "row") tk_FORMS_5_0, .str (PySem.Str.ofString "row") tk_FORMS_5_1] nt_FORMS_5, sl_FORMS_5⟩)
    (mk1_Sheet : PySem.W.makesIn K c_Sheet = true)
    (mk2_Sheet : PySem.W.keepIn K (.ref c_Sheet) = true)
    (cl1_Sheet : PySem.W.plainGet K c_Sheet Str.empty = true)
    (cl2_Sheet : PySem.W.hasDictIn K c_Sheet = true)
    (cl3_Sheet : PySem.W.plainOver K c_Sheet = true)
    (cl4_Sheet : PySem.W.findIn K (.ref c_Sheet) "__setattr__" = some (some (.builtin "object.__setattr__")))
    (t1_Sheet : PySem.W.findIn K (.ref c_Sheet) "__class__" = some (some (.builtin "object.__class__")))
    (t4_Sheet : PySem.W.mroIn K c_Sheet (.type "object") = some true)
    (t5_Sheet : PySem.W.kitOne K (.ref c_Sheet) (.ref c_Sheet) = some true)
    (y_sys : ∃ o, K.lookup PySem.sysModules = some o)
    (t2 : PySem.W.specialIn K (.builtin "object.__class__") "__get__" = some (some (.builtin "getset_descriptor.__get__")))
    (t3 : PySem.W.takesIn K (.builtin "object.__class__") = some true)
    (qu_NoneType_Sheet : PySem.W.subIn K (.type "NoneType") (.ref c_Sheet) = some false)
    (qd_NoneType_Sheet : PySem.W.subIn K (.ref c_Sheet) (.type "NoneType") = some false)
    (qu_bool_Sheet : PySem.W.subIn K (.type "bool") (.ref c_Sheet) = some false)
    (qd_bool_Sheet : PySem.W.subIn K (.ref c_Sheet) (.type "bool") = some false)
    (qu_int_Sheet : PySem.W.subIn K (.type "int") (.ref c_Sheet) = some false)
    (qd_int_Sheet : PySem.W.subIn K (.ref c_Sheet) (.type "int") = some false)
    (qu_str_Sheet : PySem.W.subIn K (.type "str") (.ref c_Sheet) = some false)
    (qd_str_Sheet : PySem.W.subIn K (.ref c_Sheet) (.type "str") = some false)
    (qu_list_Sheet : PySem.W.subIn K (.type "list") (.ref c_Sheet) = some false)
    (qd_list_Sheet : PySem.W.subIn K (.ref c_Sheet) (.type "list") = some false)
    (qu_tuple_Sheet : PySem.W.subIn K (.type "tuple") (.ref c_Sheet) = some false)
    (qd_tuple_Sheet : PySem.W.subIn K (.ref c_Sheet) (.type "tuple") = some false)
    (qu_dict_Sheet : PySem.W.subIn K (.type "dict") (.ref c_Sheet) = some false)
    (qd_dict_Sheet : PySem.W.subIn K (.ref c_Sheet) (.type "dict") = some false)
    (na_Sheet_kept_rows : PySem.W.findIn K (.ref c_Sheet) "kept_rows" = some none)
    (t6_Sheet : PySem.W.kitOne K (.type "int") (.ref c_Sheet) = some false) :
    ∃ fd : FuncData, (∀ (s : Shared) (v : Value), BindsTo s fd ⟨[v], []⟩ [("_law_script", v)]) ∧ ∀ base : Heap, K.In base → base.Ns mainGlobals mg → FnG l.prog w K mg base CX0 10 fa fd ["_law_script"] (SL.spEnd K) := by
  have e := hfa.symm.trans (PySem.W.mg_of X G a_law)
  cases e
  have F_is_whole := fun_mk (st := s_is_whole) l_is_whole d_is_whole k_is_whole
  have b_is_whole := F_is_whole.binds (ps := ["thing"]) fun _ _ _ _ _ _ us hl => match us, hl with | [_], _ => rfl
  have F_is_whole_within := fun_mk (st := s_is_whole_within) l_is_whole_within d_is_whole_within k_is_whole_within
  have b_is_whole_within := F_is_whole_within.binds (ps := ["thing", "least", "most"]) fun _ _ _ _ _ _ us hl => match us, hl with | [_, _, _], _ => rfl
  have F_greatest_divisor := fun_mk (st := s_greatest_divisor) l_greatest_divisor d_greatest_divisor k_greatest_divisor
  have b_greatest_divisor := F_greatest_divisor.binds (ps := ["one", "other"]) fun _ _ _ _ _ _ us hl => match us, hl with | [_, _], _ => rfl
  have F_is_fraction := fun_mk (st := s_is_fraction) l_is_fraction d_is_fraction k_is_fraction
  have b_is_fraction := F_is_fraction.binds (ps := ["thing"]) fun _ _ _ _ _ _ us hl => match us, hl with | [_], _ => rfl
  have F_is_amount := fun_mk (st := s_is_amount) l_is_amount d_is_amount k_is_amount
  have b_is_amount := F_is_amount.binds (ps := ["thing"]) fun _ _ _ _ _ _ us hl => match us, hl with | [_], _ => rfl
  have F_is_gap := fun_mk (st := s_is_gap) l_is_gap d_is_gap k_is_gap
  have b_is_gap := F_is_gap.binds (ps := ["thing"]) fun _ _ _ _ _ _ us hl => match us, hl with | [_], _ => rfl
  have F_is_mark := fun_mk (st := s_is_mark) l_is_mark d_is_mark k_is_mark
  have b_is_mark := F_is_mark.binds (ps := ["thing"]) fun _ _ _ _ _ _ us hl => match us, hl with | [_], _ => rfl
  have F_fits := fun_mk (st := s_fits) l_fits d_fits k_fits
  have b_fits := F_fits.binds (ps := ["kind", "number", "thing"]) fun _ _ _ _ _ _ us hl => match us, hl with | [_, _, _], _ => rfl
  have F_is_sheet_row := fun_mk (st := s_is_sheet_row) l_is_sheet_row d_is_sheet_row k_is_sheet_row
  have b_is_sheet_row := F_is_sheet_row.binds (ps := ["number", "thing"]) fun _ _ _ _ _ _ us hl => match us, hl with | [_, _], _ => rfl
  have F_check_rows := fun_mk (st := s_check_rows) l_check_rows d_check_rows k_check_rows
  have b_check_rows := F_check_rows.binds (ps := ["rows"]) fun _ _ _ _ _ _ us hl => match us, hl with | [_], _ => rfl
  have F_steps_of := fun_mk (st := s_steps_of) l_steps_of d_steps_of k_steps_of
  have b_steps_of := F_steps_of.binds (ps := ["rows"]) fun _ _ _ _ _ _ us hl => match us, hl with | [_], _ => rfl
  have F__law_bag := fun_mk (st := s__law_bag) l__law_bag d__law_bag k__law_bag
  have b__law_bag := F__law_bag.binds (ps := ["_law_script", "_law_k"]) fun _ _ _ _ _ _ us hl => match us, hl with | [_, _], _ => rfl
  have F__law_out := fun_mk (st := s__law_out) l__law_out d__law_out k__law_out
  have b__law_out := F__law_out.binds (ps := ["_law_bag_here", "_law_many"]) fun _ _ _ _ _ _ us hl => match us, hl with | [_, _], _ => rfl
  have F__law_low := fun_mk (st := s__law_low) l__law_low d__law_low k__law_low
  have b__law_low := F__law_low.binds (ps := ["_law_top", "_law_bottom"]) fun _ _ _ _ _ _ us hl => match us, hl with | [_, _], _ => rfl
  have F__law_word := fun_mk (st := s__law_word) l__law_word d__law_word k__law_word
  have b__law_word := F__law_word.binds (ps := ["_law_bag_here"]) fun _ _ _ _ _ _ us hl => match us, hl with | [_], _ => rfl
  have F__law_tests := fun_mk (st := s__law_tests) l__law_tests d__law_tests k__law_tests
  have b__law_tests := F__law_tests.binds (ps := ["_law_bag_here", "_law_words", "_law_many"]) fun _ _ _ _ _ _ us hl => match us, hl with | [_, _, _], _ => rfl
  have F__law_steps := fun_mk (st := s__law_steps) l__law_steps d__law_steps k__law_steps
  have b__law_steps := F__law_steps.binds (ps := ["_law_rows"]) fun _ _ _ _ _ _ us hl => match us, hl with | [_], _ => rfl
  have F__law_looks_right := fun_mk (st := s__law_looks_right) l__law_looks_right d__law_looks_right k__law_looks_right
  have b__law_looks_right := F__law_looks_right.binds (ps := ["_law_sheet", "_law_rows"]) fun _ _ _ _ _ _ us hl => match us, hl with | [_, _], _ => rfl
  have F_law := fun_mk (st := s_law) l_law d_law k_law
  have F_Sheet___init__ := fun_mk (st := s_Sheet___init__) l_Sheet___init__ d_Sheet___init__ k_Sheet___init__
  have b_Sheet___init__ := F_Sheet___init__.binds (ps := ["self", "rows"]) fun _ _ _ _ _ _ us hl => match us, hl with | [_, _], _ => rfl
  have F_Sheet_rows := fun_mk (st := s_Sheet_rows) l_Sheet_rows d_Sheet_rows k_Sheet_rows
  have b_Sheet_rows := F_Sheet_rows.binds (ps := ["self"]) fun _ _ _ _ _ _ us hl => match us, hl with | [_], _ => rfl
  have F_Sheet_steps := fun_mk (st := s_Sheet_steps) l_Sheet_steps d_Sheet_steps k_Sheet_steps
  have b_Sheet_steps := F_Sheet_steps.binds (ps := ["self"]) fun _ _ _ _ _ _ us hl => match us, hl with | [_], _ => rfl
  have F_Sheet___eq__ := fun_mk (st := s_Sheet___eq__) l_Sheet___eq__ d_Sheet___eq__ k_Sheet___eq__
  have b_Sheet___eq__ := F_Sheet___eq__.binds (ps := ["self", "other"]) fun _ _ _ _ _ _ us hl => match us, hl with | [_, _], _ => rfl
  have F_Sheet___len__ := fun_mk (st := s_Sheet___len__) l_Sheet___len__ d_Sheet___len__ k_Sheet___len__
  have b_Sheet___len__ := F_Sheet___len__.binds (ps := ["self"]) fun _ _ _ _ _ _ us hl => match us, hl with | [_], _ => rfl
  have F_Sheet___repr__ := fun_mk (st := s_Sheet___repr__) l_Sheet___repr__ d_Sheet___repr__ k_Sheet___repr__
  have b_Sheet___repr__ := F_Sheet___repr__.binds (ps := ["self"]) fun _ _ _ _ _ _ us hl => match us, hl with | [_], _ => rfl
  have F_Sheet___str__ := fun_mk (st := s_Sheet___str__) l_Sheet___str__ d_Sheet___str__ k_Sheet___str__
  have b_Sheet___str__ := F_Sheet___str__.binds (ps := ["self"]) fun _ _ _ _ _ _ us hl => match us, hl with | [_], _ => rfl
  refine ⟨(PySem.W.fnOf "law" "law" (defArgs s_law) (defBody s_law) (defScope s_law) .none kV18 dc18 pm18 an18 cd18 ct18), fun s v => .of_eq rfl, fun base hK _ => ?_⟩
  letI : PW := ⟨l.prog, w⟩
  have M := fun {x : Str} {u : Value} (a : PySem.W.nsIn K mainGlobals x = some (some u)) => PySem.W.mg_of X G a
  have Z := fun {x : Str} (a : PySem.W.nsIn K mainGlobals x = some none) => PySem.W.mg_none_of X G a
  have cl_Sheet : Cls K c_Sheet := ⟨cl1_Sheet, cl2_Sheet, cl3_Sheet, cl4_Sheet⟩
  have tb_Sheet := tab_one ⟨cl_Sheet, t1_Sheet, t2, t3, t4_Sheet⟩ t5_Sheet
  have tbo_Sheet := tab_odd ⟨cl_Sheet, t1_Sheet, t2, t3, t4_Sheet⟩ t5_Sheet t6_Sheet
  have D_FORMS : KTab K w A_FORMS [(PySem.Str.ofString "mark", PV.tup [.str (PySem.Str.ofString "mark")]), (PySem.Str.ofString "next", PV.tup [.str (PySem.Str.ofString "row")]), (PySem.Str.ofString "not", PV.tup [.str (PySem.Str.ofString "row")]), (PySem.Str.ofString "less", PV.tup [.str (PySem.Str.ofString "row"), .str (PySem.Str.ofString "cut")]), (PySem.Str.ofString "least", PV.tup [.str (PySem.Str.ofString "row"), .str (PySem.Str.ofString "row")]), (PySem.Str.ofString "most", PV.tup [.str (PySem.Str.ofString "row"), .str (PySem.Str.ofString "row")])] := ktab_of l_FORMS y_FORMS m_FORMS s_FORMS fun q hq => by
    simp only [List.mem_cons, List.not_mem_nil, or_false] at hq
    rcases hq with rfl | rfl | rfl | rfl | rfl | rfl
    · exact ⟨_, .ref T_FORMS_0, v_FORMS_0, rfl, tupS1_k u_FORMS_0⟩
    · exact ⟨_, .ref T_FORMS_1, v_FORMS_1, rfl, tupS1_k u_FORMS_1⟩
    · exact ⟨_, .ref T_FORMS_2, v_FORMS_2, rfl, tupS1_k u_FORMS_2⟩
    · exact ⟨_, .ref T_FORMS_3, v_FORMS_3, rfl, tupS2_k u_FORMS_3⟩
    · exact ⟨_, .ref T_FORMS_4, v_FORMS_4, rfl, tupS2_k u_FORMS_4⟩
    · exact ⟨_, .ref T_FORMS_5, v_FORMS_5, rfl, tupS2_k u_FORMS_5⟩
  have C_is_whole := cal_mk (ok_is_whole (base := base) (ca := (fun _ : Nat => c_Sheet)) F_is_whole (Z z_bool) (Z z_int) (Z z_isinstance)) (M a_is_whole) k_is_whole b_is_whole .nil
  have C_is_whole_within := cal_mk (ok_is_whole_within (base := base) (ca := (fun _ : Nat => c_Sheet)) F_is_whole_within C_is_whole) (M a_is_whole_within) k_is_whole_within b_is_whole_within .nil
  have C_greatest_divisor := cal_mk (ok_greatest_divisor (base := base) (ca := (fun _ : Nat => c_Sheet)) F_greatest_divisor (Z z_abs)) (M a_greatest_divisor) k_greatest_divisor b_greatest_divisor .nil
  have C_is_fraction := cal_mk (ok_is_fraction (base := base) (ca := (fun _ : Nat => c_Sheet)) F_is_fraction (Z z_isinstance) (Z z_len) (Z z_tuple) C_greatest_divisor C_is_whole) (M a_is_fraction) k_is_fraction b_is_fraction .nil
  have C_is_amount := cal_mk (ok_is_amount (base := base) (ca := (fun _ : Nat => c_Sheet)) F_is_amount C_is_fraction) (M a_is_amount) k_is_amount b_is_amount .nil
  have C_is_gap := cal_mk (ok_is_gap (base := base) (ca := (fun _ : Nat => c_Sheet)) F_is_gap C_is_amount) (M a_is_gap) k_is_gap b_is_gap .nil
  have C_is_mark := cal_mk (ok_is_mark (base := base) (ca := (fun _ : Nat => c_Sheet)) F_is_mark (Z z_all) (Z z_isinstance) (Z z_len) (Z z_str) (M a_LONGEST_MARK)) (M a_is_mark) k_is_mark b_is_mark .nil
  have C_fits := cal_mk (ok_fits (base := base) (ca := (fun _ : Nat => c_Sheet)) F_fits C_is_gap C_is_mark C_is_whole_within) (M a_fits) k_fits b_fits .nil
  have C_is_sheet_row := cal_mk (ok_is_sheet_row (base := base) (ca := (fun _ : Nat => c_Sheet)) F_is_sheet_row (Z z_all) (Z z_isinstance) (Z z_len) (Z z_str) (Z z_tuple) (Z z_zip) C_fits (M a_FORMS) D_FORMS) (M a_is_sheet_row) k_is_sheet_row b_is_sheet_row .nil
  have C_check_rows := cal_mk (ok_check_rows (base := base) (ca := (fun _ : Nat => c_Sheet)) F_check_rows (Z z_enumerate) (Z z_isinstance) (Z z_len) (Z z_list) (M a_MOST_ROWS) C_is_sheet_row) (M a_check_rows) k_check_rows b_check_rows .nil
  have C_steps_of := cal_mk (ok_steps_of (base := base) (ca := (fun _ : Nat => c_Sheet)) F_steps_of (Z z_max) (Z z_zip) (M a_FORMS) D_FORMS) (M a_steps_of) k_steps_of b_steps_of .nil
  have K_Sheet : CalK l.prog w K mg base 8 "Sheet" c_Sheet ["self", "rows"] (spW K (ar2 (B61.F_Sheet___init__ (fun _ : Nat => c_Sheet)))) := ⟨⟨_, _, ⟨mk1_Sheet, a_Sheet___init__, i_Sheet___init__, mk2_Sheet⟩, ok_Sheet___init__ (base := base) (ca := (fun _ : Nat => c_Sheet)) F_Sheet___init__ (Z z_list) cl_Sheet na_Sheet_kept_rows C_check_rows, b_Sheet___init__⟩, M g_Sheet⟩
  have M_Sheet_rows : CalM l.prog w K mg base c_Sheet 1 "rows" ["self"] (spW K (ar1 (NT.F_Sheet_rows (fun _ : Nat => c_Sheet)))) := ⟨⟨_, _, ⟨a_Sheet_rows, i_Sheet_rows, k_Sheet_rows⟩, ok_Sheet_rows (base := base) (ca := (fun _ : Nat => c_Sheet)) F_Sheet_rows (Z z_list) cl_Sheet na_Sheet_kept_rows, b_Sheet_rows⟩, cl_Sheet⟩
  have M_Sheet_steps : CalM l.prog w K mg base c_Sheet 2 "steps" ["self"] (spW K (ar1 (NT.F_Sheet_steps (fun _ : Nat => c_Sheet)))) := ⟨⟨_, _, ⟨a_Sheet_steps, i_Sheet_steps, k_Sheet_steps⟩, ok_Sheet_steps (base := base) (ca := (fun _ : Nat => c_Sheet)) F_Sheet_steps cl_Sheet na_Sheet_kept_rows C_steps_of, b_Sheet_steps⟩, cl_Sheet⟩
  have E_Sheet : EqO l.prog w K mg base c_Sheet 1 (spW K (ar2 (B61.F_Sheet___eq__ (fun _ : Nat => c_Sheet)))) := ⟨⟨_, _, a_Sheet___eq__, i_Sheet___eq__, ok_Sheet___eq__ (base := base) (ca := (fun _ : Nat => c_Sheet)) F_Sheet___eq__ (Z z_isinstance) (M g_Sheet) cl_Sheet na_Sheet_kept_rows tbo_Sheet, b_Sheet___eq__⟩⟩
  have L_Sheet : LenO l.prog w K mg base c_Sheet 1 (spW K (ar1 (NT.F_Sheet___len__ (fun _ : Nat => c_Sheet)))) := ⟨⟨_, _, a_Sheet___len__, i_Sheet___len__, ok_Sheet___len__ (base := base) (ca := (fun _ : Nat => c_Sheet)) F_Sheet___len__ (Z z_len) cl_Sheet na_Sheet_kept_rows, b_Sheet___len__⟩⟩
  have RC_Sheet : RepC l.prog w K mg base c_Sheet 1 nsS txS := ok_Sheet___repr__ (base := base) (ca := (fun _ : Nat => c_Sheet)) F_Sheet___repr__ cl_Sheet na_Sheet_kept_rows (Z z_len) a_Sheet___repr__ i_Sheet___repr__ b_Sheet___repr__
  have SO_Sheet : StrO l.prog w K mg base c_Sheet 1 (spW K (ar1 (NT.F_Sheet___str__ (fun _ : Nat => c_Sheet)))) := ⟨⟨_, _, a_Sheet___str__, i_Sheet___str__, ok_Sheet___str__ (base := base) (ca := (fun _ : Nat => c_Sheet)) F_Sheet___str__ (Z z_len) cl_Sheet na_Sheet_kept_rows, b_Sheet___str__⟩⟩
  have C__law_bag := cal_mk (ok__law_bag (P := l.prog) (w := w) (base := base) F__law_bag (Z z_len)) (M a__law_bag) k__law_bag b__law_bag .nil
  have C__law_out := cal_mk (ok__law_out (P := l.prog) (w := w) (base := base) F__law_out ) (M a__law_out) k__law_out b__law_out .nil
  have C__law_low := cal_mk (ok__law_low (base := base) (ca := (fun _ : Nat => c_Sheet)) F__law_low (Z z_abs)) (M a__law_low) k__law_low b__law_low .nil
  have C__law_word := cal_mk (ok__law_word (base := base) (ca := (fun _ : Nat => c_Sheet)) F__law_word (Z z_range) C__law_out) (M a__law_word) k__law_word b__law_word .nil
  have C__law_tests := cal_mk (ok__law_tests (base := base) (ca := (fun _ : Nat => c_Sheet)) F__law_tests (Z z_int) (Z z_len) (Z z_max) (Z z_range) C__law_low C__law_out) (M a__law_tests) k__law_tests b__law_tests .nil
  have C__law_steps := cal_mk (ok__law_steps (base := base) (ca := (fun _ : Nat => c_Sheet)) F__law_steps (Z z_int) (Z z_max)) (M a__law_steps) k__law_steps b__law_steps .nil
  have C__law_looks_right := caG_mk (ok__law_looks_right (base := base) (ca := (fun _ : Nat => c_Sheet)) F__law_looks_right (Z z_len) (Z z_repr) (Z z_str) L_Sheet SO_Sheet RC_Sheet M_Sheet_rows M_Sheet_steps C__law_steps y_sys) (M a__law_looks_right) k__law_looks_right b__law_looks_right .nil
  exact ad_end (law_true (fun _ : Nat => c_Sheet)) (ok_law (base := base) (ca := (fun _ : Nat => c_Sheet)) F_law (Z z_len) (Z z_list) (Z z_max) (Z z_min) (Z z_range) (Z z_repr) (Z z_tuple) E_Sheet ⟨tyn_all qu_NoneType_Sheet qu_bool_Sheet qu_int_Sheet qu_str_Sheet qu_list_Sheet qu_tuple_Sheet qu_dict_Sheet, tyn_all qd_NoneType_Sheet qd_bool_Sheet qd_int_Sheet qd_str_Sheet qd_list_Sheet qd_tuple_Sheet qd_dict_Sheet⟩ RC_Sheet K_Sheet M_Sheet_rows M_Sheet_steps C__law_bag C__law_looks_right C__law_out C__law_tests C__law_word)
end B61
open PySem PySem.W PyProof.Rows
set_option maxHeartbeats 0 in
theorem PySem.Challenge.cw_neartwins_k61_sheets_told_holds : PySem.Challenge.rw_neartwins_k61_sheets_told.Holds := by
  w_on; o_law; x_head; (case hw => w_witness2)
  k_fill
  refine NF.walk_g (l := PySem.Challenge.rw_neartwins_k61_sheets_told) (n := 63) (k := 10) (x := "_law_script") (sp := fun w => SL.spEnd _) rfl (by decide) rfl ⟨rfl, by decide, by decide⟩ (fun w h Y => PySem.W.kIn_of Y) ?F (fun _ _ a ns hl _ hS => ⟨a, ns, rfl, hS, hl, fun _ => rfl⟩)
  case F =>
    intro w mg fa h KX G hmg
    refine' B61.all_mk KX G hmg ?a_is_whole ?l_is_whole ?d_is_whole ?k_is_whole ?a_is_whole_within ?l_is_whole_within ?d_is_whole_within ?k_is_whole_within ?a_greatest_divisor ?l_greatest_divisor ?d_greatest_divisor ?k_greatest_divisor ?a_is_fraction ?l_is_fraction ?d_is_fraction ?k_is_fraction ?a_is_amount ?l_is_amount ?d_is_amount ?k_is_amount ?a_is_gap ?l_is_gap ?d_is_gap ?k_is_gap ?a_is_mark ?l_is_mark ?d_is_mark ?k_is_mark ?a_fits ?l_fits ?d_fits ?k_fits ?a_is_sheet_row ?l_is_sheet_row ?d_is_sheet_row ?k_is_sheet_row ?a_check_rows ?l_check_rows ?d_check_rows ?k_check_rows ?a_steps_of ?l_steps_of ?d_steps_of ?k_steps_of ?a__law_bag ?l__law_bag ?d__law_bag ?k__law_bag ?a__law_out ?l__law_out ?d__law_out ?k__law_out ?a__law_low ?l__law_low ?d__law_low ?k__law_low ?a__law_word ?l__law_word ?d__law_word ?k__law_word ?a__law_tests ?l__law_tests ?d__law_tests ?k__law_tests ?a__law_steps ?l__law_steps ?d__law_steps ?k__law_steps ?a__law_looks_right ?l__law_looks_right ?d__law_looks_right ?k__law_looks_right ?a_law ?l_law ?d_law ?k_law ?g_Sheet ?a_Sheet___init__ ?i_Sheet___init__ ?l_Sheet___init__ ?d_Sheet___init__ ?k_Sheet___init__ ?a_Sheet_rows ?i_Sheet_rows ?l_Sheet_rows ?d_Sheet_rows ?k_Sheet_rows ?a_Sheet_steps ?i_Sheet_steps ?l_Sheet_steps ?d_Sheet_steps ?k_Sheet_steps ?a_Sheet___eq__ ?i_Sheet___eq__ ?l_Sheet___eq__ ?d_Sheet___eq__ ?k_Sheet___eq__ ?a_Sheet___len__ ?i_Sheet___len__ ?l_Sheet___len__ ?d_Sheet___len__ ?k_Sheet___len__ ?a_Sheet___repr__ ?i_Sheet___repr__ ?l_Sheet___repr__ ?d_Sheet___repr__ ?k_Sheet___repr__ ?a_Sheet___str__ ?i_Sheet___str__ ?l_Sheet___str__ ?d_Sheet___str__ ?k_Sheet___str__ ?z_abs ?z_all ?z_bool ?z_enumerate ?z_int ?z_isinstance ?z_len ?z_list ?z_max ?z_min ?z_range ?z_repr ?z_str ?z_tuple ?z_zip ?a_LONGEST_MARK ?a_MOST_ROWS ?a_FORMS ?l_FORMS ?y_FORMS ?m_FORMS ?s_FORMS ?v_FORMS_0 ?u_FORMS_0 ?v_FORMS_1 ?u_FORMS_1 ?v_FORMS_2 ?u_FORMS_2 ?v_FORMS_3 ?u_FORMS_3 ?v_FORMS_4 ?u_FORMS_4 ?v_FORMS_5 ?u_FORMS_5 ?mk1_Sheet ?mk2_Sheet ?cl1_Sheet ?cl2_Sheet ?cl3_Sheet ?cl4_Sheet ?t1_Sheet ?t4_Sheet ?t5_Sheet ?y_sys ?t2 ?t3 ?qu_NoneType_Sheet ?qd_NoneType_Sheet ?qu_bool_Sheet ?qd_bool_Sheet ?qu_int_Sheet ?qd_int_Sheet ?qu_str_Sheet ?qd_str_Sheet ?qu_list_Sheet ?qd_list_Sheet ?qu_tuple_Sheet ?qd_tuple_Sheet ?qu_dict_Sheet ?qd_dict_Sheet ?na_Sheet_kept_rows ?t6_Sheet
    (case a_is_whole => k_is); (case l_is_whole => k_is); (case d_is_whole => k_is); (case k_is_whole => k_is); (case a_is_whole_within => k_is); (case l_is_whole_within => k_is); (case d_is_whole_within => k_is); (case k_is_whole_within => k_is); (case a_greatest_divisor => k_is); (case l_greatest_divisor => k_is); (case d_greatest_divisor => k_is); (case k_greatest_divisor => k_is); (case a_is_fraction => k_is); (case l_is_fraction => k_is); (case d_is_fraction => k_is); (case k_is_fraction => k_is); (case a_is_amount => k_is); (case l_is_amount => k_is); (case d_is_amount => k_is); (case k_is_amount => k_is); (case a_is_gap => k_is); (case l_is_gap => k_is); (case d_is_gap => k_is); (case k_is_gap => k_is); (case a_is_mark => k_is); (case l_is_mark => k_is); (case d_is_mark => k_is); (case k_is_mark => k_is); (case a_fits => k_is); (case l_fits => k_is); (case d_fits => k_is); (case k_fits => k_is); (case a_is_sheet_row => k_is); (case l_is_sheet_row => k_is); (case d_is_sheet_row => k_is); (case k_is_sheet_row => k_is); (case a_check_rows => k_is); (case l_check_rows => k_is); (case d_check_rows => k_is); (case k_check_rows => k_is); (case a_steps_of => k_is); (case l_steps_of => k_is); (case d_steps_of => k_is); (case k_steps_of => k_is); (case a__law_bag => k_is); (case l__law_bag => k_is); (case d__law_bag => k_is); (case k__law_bag => k_is); (case a__law_out => k_is); (case l__law_out => k_is); (case d__law_out => k_is); (case k__law_out => k_is); (case a__law_low => k_is); (case l__law_low => k_is); (case d__law_low => k_is); (case k__law_low => k_is); (case a__law_word => k_is); (case l__law_word => k_is); (case d__law_word => k_is); (case k__law_word => k_is); (case a__law_tests => k_is); (case l__law_tests => k_is); (case d__law_tests => k_is); (case k__law_tests => k_is); (case a__law_steps => k_is); (case l__law_steps => k_is); (case d__law_steps => k_is); (case k__law_steps => k_is); (case a__law_looks_right => k_is); (case l__law_looks_right => k_is); (case d__law_looks_right => k_is); (case k__law_looks_right => k_is); (case a_law => k_is); (case l_law => k_is); (case d_law => k_is); (case k_law => k_is); (case g_Sheet => k_is); (case a_Sheet___init__ => k_is); (case i_Sheet___init__ => k_is); (case l_Sheet___init__ => k_is); (case d_Sheet___init__ => k_is); (case k_Sheet___init__ => k_is); (case a_Sheet_rows => k_is); (case i_Sheet_rows => k_is); (case l_Sheet_rows => k_is); (case d_Sheet_rows => k_is); (case k_Sheet_rows => k_is); (case a_Sheet_steps => k_is); (case i_Sheet_steps => k_is); (case l_Sheet_steps => k_is); (case d_Sheet_steps => k_is); (case k_Sheet_steps => k_is); (case a_Sheet___eq__ => k_is); (case i_Sheet___eq__ => k_is); (case l_Sheet___eq__ => k_is); (case d_Sheet___eq__ => k_is); (case k_Sheet___eq__ => k_is); (case a_Sheet___len__ => k_is); (case i_Sheet___len__ => k_is); (case l_Sheet___len__ => k_is); (case d_Sheet___len__ => k_is); (case k_Sheet___len__ => k_is); (case a_Sheet___repr__ => k_is); (case i_Sheet___repr__ => k_is); (case l_Sheet___repr__ => k_is); (case d_Sheet___repr__ => k_is); (case k_Sheet___repr__ => k_is); (case a_Sheet___str__ => k_is); (case i_Sheet___str__ => k_is); (case l_Sheet___str__ => k_is); (case d_Sheet___str__ => k_is); (case k_Sheet___str__ => k_is); (case z_abs => k_is); (case z_all => k_is); (case z_bool => k_is); (case z_enumerate => k_is); (case z_int => k_is); (case z_isinstance => k_is); (case z_len => k_is); (case z_list => k_is); (case z_max => k_is); (case z_min => k_is); (case z_range => k_is); (case z_repr => k_is); (case z_str => k_is); (case z_tuple => k_is); (case z_zip => k_is); (case a_LONGEST_MARK => k_is); (case a_MOST_ROWS => k_is); (case a_FORMS => k_is); (case l_FORMS => k_is); (case y_FORMS => k_keys); (case m_FORMS => (first | rfl | decide)); (case s_FORMS => rfl); (case v_FORMS_0 => k_is); (case u_FORMS_0 => k_is); (case v_FORMS_1 => k_is); (case u_FORMS_1 => k_is); (case v_FORMS_2 => k_is); (case u_FORMS_2 => k_is); (case v_FORMS_3 => k_is); (case u_FORMS_3 => k_is); (case v_FORMS_4 => k_is); (case u_FORMS_4 => k_is); (case v_FORMS_5 => k_is); (case u_FORMS_5 => k_is); (case mk1_Sheet => k_is); (case mk2_Sheet => k_is); (case cl1_Sheet => k_is); (case cl2_Sheet => k_is); (case cl3_Sheet => k_is); (case cl4_Sheet => k_is); (case t1_Sheet => k_is); (case t4_Sheet => k_is); (case t5_Sheet => kit_is); (case y_sys => exact ⟨_, by k_is⟩); (case t2 => k_is); (case t3 => k_is); (case qu_NoneType_Sheet => (first | rfl | k_is)); (case qd_NoneType_Sheet => (first | rfl | k_is)); (case qu_bool_Sheet => (first | rfl | k_is)); (case qd_bool_Sheet => (first | rfl | k_is)); (case qu_int_Sheet => (first | rfl | k_is)); (case qd_int_Sheet => (first | rfl | k_is)); (case qu_str_Sheet => (first | rfl | k_is)); (case qd_str_Sheet => (first | rfl | k_is)); (case qu_list_Sheet => (first | rfl | k_is)); (case qd_list_Sheet => (first | rfl | k_is)); (case qu_tuple_Sheet => (first | rfl | k_is)); (case qd_tuple_Sheet => (first | rfl | k_is)); (case qu_dict_Sheet => (first | rfl | k_is)); (case qd_dict_Sheet => (first | rfl | k_is)); (case na_Sheet_kept_rows => k_is); (case t6_Sheet => kit_is)
