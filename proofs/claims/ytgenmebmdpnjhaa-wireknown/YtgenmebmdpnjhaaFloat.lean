
/- The contracts of package float's calls, and of what they call of package math. -/
import Derived.Test.YtgenmebmdpnjhaaChecked
import Derived.Test.YtgenmebmdpnjhaaFl
import Derived.WalkKit
import Derived.WalkLawsBesides
import Derived.Lib.Hide
namespace Go.Proofs.Ytgenmebmdpnjhaa
open Go.RowKit

namespace Fl
/-- -1, 0, 1. -/
def sgn (a b : Int) : Int := if a < b then -1 else if b < a then 1 else 0
def cmp (a b : Nat) : Int := if nan a || nan b then 0 else sgn (Z a) (Z b)
def cmpOk (a b : Nat) : Bool := !nan a && !nan b
def cmpInt (n : Int) (x : Nat) : Int := if nan x then 0 else sgn (n * (U : Int)) (Z x)
def isZero (x : Nat) : Bool := decide (rung x = 0)
def bits (x : Nat) : Nat := if nan x then 9221120237041090560 else if isZero x then 0 else x

abbrev ord (x y : Nat) : Option Ordering := FloatKind.f64.format.order x y

theorem ord_nan {x y : Nat} (h : (nan x || nan y) = true) : FloatKind.f64.format.order x y = none := by
  rw [Bool.or_eq_true] at h
  rcases h with h | h
  · exact order_nan_l h
  · exact order_nan_r h
theorem ord_num {x y : Nat} (h : (nan x || nan y) = false) : FloatKind.f64.format.order x y = some (compare (Z x) (Z y)) := by
  rw [Bool.or_eq_false_iff] at h
  exact order_num h.1 h.2
theorem ord_lt {x y : Nat} (h : (nan x || nan y) = false) (hl : Z x < Z y) : FloatKind.f64.format.order x y = some .lt := by rw [ord_num h, compare_lt' hl]
theorem ord_gt {x y : Nat} (h : (nan x || nan y) = false) (hl : Z y < Z x) : FloatKind.f64.format.order x y = some .gt := by rw [ord_num h, compare_gt' hl]
theorem ord_eq {x y : Nat} (h : (nan x || nan y) = false) (hl : Z x = Z y) : FloatKind.f64.format.order x y = some .eq := by rw [ord_num h, Int.compare_eq_eq.2 hl]
theorem ord_self (x : Nat) : (FloatKind.f64.format.order x x != some .eq) = nan x := by
  cases h : nan x
  · rw [ord_eq (by simp [h]) rfl]; rfl
  · rw [ord_nan (by simp [h])]; rfl
theorem ord_self' (x : Nat) : (FloatKind.f64.format.order x x == some .eq) = !nan x := by
  cases h : nan x
  · rw [ord_eq (by simp [h]) rfl]; rfl
  · rw [ord_nan (by simp [h])]; rfl

theorem Z_zero_iff (x : Nat) : Z x = 0 ↔ rung x = 0 := by
  have h : K (rung x) = 0 ↔ rung x = 0 := ⟨fun h => K_inj (h.trans K_zero.symm), fun h => by rw [h]; exact K_zero⟩
  rw [← h]
  unfold Z
  generalize K (rung x) = k
  cases neg x <;> simp
theorem Z_zero : Z 0 = 0 := by decide
theorem nan_zero : nan 0 = false := by decide
theorem ord_zero {x : Nat} (h : nan x = false) : (FloatKind.f64.format.order x 0 == some .eq) = isZero x := by
  rw [ord_num (by simp [h, nan_zero]), Z_zero]
  unfold isZero
  by_cases e : rung x = 0
  · rw [Int.compare_eq_eq.2 ((Z_zero_iff x).2 e)]; simp [e]
  · have : Z x ≠ 0 := fun h => e ((Z_zero_iff x).1 h)
    have h2 : compare (Z x) 0 ≠ .eq := fun h => this (Int.compare_eq_eq.1 h)
    simp [e, h2]

/-- 2^63, and what is below 0 of it. -/
def top : Nat := 4890909195324358656
def bot : Nat := 14114281232179134464
theorem K_two63 : K (1086 * 2 ^ 52) = 2 ^ 63 * U := by
  unfold K
  rw [if_neg (by decide), show 1086 * 2 ^ 52 % bin = 0 by decide, show 1086 * 2 ^ 52 / bin - 1 = 1085 by decide]
  have hP := P_is
  unfold U
  generalize P = q at hP
  generalize h : 1085 = t
  rw [Nat.add_zero, show bin * 2 ^ t = 2 ^ (52 + t) by rw [Nat.pow_add]; rfl, show 2 ^ 63 * 2 ^ q = 2 ^ (63 + q) by rw [Nat.pow_add], show 52 + t = 63 + q by omega]
theorem Z_top : Z top = 2 ^ 63 * (U : Int) := by
  have h1 : rung top = 1086 * 2 ^ 52 := by decide
  have h2 : neg top = false := by decide
  unfold Z
  rw [h1, h2, K_two63]
  generalize U = u
  simp
theorem Z_bot : Z bot = -(2 ^ 63 * (U : Int)) := by
  have h1 : rung bot = 1086 * 2 ^ 52 := by decide
  have h2 : neg bot = true := by decide
  unfold Z
  rw [h1, h2, K_two63]
  generalize U = u
  simp
theorem nan_top : nan top = false := by decide
theorem nan_bot : nan bot = false := by decide
end Fl

/-- math.Float64frombits, math.Float64bits: in place. -/
theorem frombits_run (n : Int) (w : World) : (callFunc 97 #[.int .u64 n]).run Try.prog w = .ok (.value (.float .f64 n.toNat)) w := by kernel_rfl
theorem tobits_run (x : Nat) (w : World) : (callFunc 90 #[.float .f64 x]).run Try.prog w = .ok (.value (.int .u64 x)) w := by kernel_rfl

theorem isnan_any (x : Nat) (w : World) : Calls Try.prog 89 #[.float .f64 x] w fun e w' => e = .returned (.bool (Fl.nan x)) ∧ w = w' := by
  have h := Fl.ord_self x
  go_enter Try.func89, Try.ntmps89
  go_wp2
  go_ret
  exact ⟨rfl, rfl⟩

namespace Fl
theorem sgn_lt {a b : Int} (h : a < b) : sgn a b = -1 := by simp [sgn, h]
theorem sgn_gt {a b : Int} (h : b < a) : sgn a b = 1 := by simp [sgn, h]; omega
theorem sgn_eq {a b : Int} (h : a = b) : sgn a b = 0 := by simp [sgn, h]
theorem cmp_nan {a b : Nat} (h : (nan a || nan b) = true) : cmp a b = 0 ∧ cmpOk a b = false := by
  constructor
  · simp [cmp, h]
  · simp only [cmpOk]; cases ha : nan a <;> simp_all
theorem cmp_num {a b : Nat} (h : (nan a || nan b) = false) : cmp a b = sgn (Z a) (Z b) ∧ cmpOk a b = true := by
  constructor
  · simp [cmp, h]
  · simp only [cmpOk]; cases ha : nan a <;> simp_all
end Fl

/-- A pair of an integer and a bool. -/
abbrev pairIB (i : Int) (b : Bool) : Value := .tuple #[.int .i64 i, .bool b]

theorem pairIB_eq {i j : Int} {b c : Bool} (h1 : i = j) (h2 : b = c) : Ending.returned (pairIB i b) = .returned (pairIB j c) := by rw [h1, h2]

namespace Fl
theorem mul_lt_of {n q z u : Int} (hu : 0 < u) (h : n < q) (hz : q * u ≤ z) : n * u < z := by
  have := Int.mul_lt_mul_of_pos_right h hu
  omega
theorem mul_gt_of {n q z u : Int} (hu : 0 < u) (h : q < n) (hz : z < q * u + u) : z < n * u := by
  have h1 : q + 1 ≤ n := h
  have := Int.mul_le_mul_of_nonneg_right h1 (Int.le_of_lt hu)
  rw [Int.add_mul, Int.one_mul] at this
  omega
theorem cmpInt_nan {n : Int} {x : Nat} (h : nan x = true) : cmpInt n x = 0 := by simp [cmpInt, h]
theorem cmpInt_num {n : Int} {x : Nat} (h : nan x = false) : cmpInt n x = sgn (n * (U : Int)) (Z x) := by simp [cmpInt, h]
theorem UI : (0 : Int) < (U : Int) := by have := U_pos; omega
theorem floor_bounds (z : Int) : z / (U : Int) * (U : Int) ≤ z ∧ z < z / (U : Int) * (U : Int) + (U : Int) := by
  have h0 := Int.mul_ediv_add_emod z (U : Int)
  have h1 := Int.emod_nonneg z (Int.ne_of_gt UI)
  have h2 := Int.emod_lt_of_pos z UI
  rw [Int.mul_comm] at h0
  omega
theorem floor_range {x : Nat} (h : fits x) : -9223372036854775808 ≤ Z x / (U : Int) ∧ Z x / (U : Int) ≤ 9223372036854775807 := by
  obtain ⟨_, h1, h2⟩ := h
  have hu := UI
  constructor
  · refine (Int.le_ediv_iff_mul_le hu).2 ?_
    generalize Z x = z at *
    generalize (U : Int) = u at *
    omega
  · refine Int.le_of_lt_add_one ((Int.ediv_lt_iff_lt_mul hu).2 ?_)
    generalize Z x = z at *
    generalize (U : Int) = u at *
    omega
/-- The floor's own integer fits. -/
theorem flo_int {x : Nat} (h : fits x) : floatToIntVal .f64 (flo x) .i64 = some (Z x / (U : Int)) := by
  have e := (flo_spec h).2.2.2
  have hr := floor_range h
  have e' : (FloatKind.f64.decode (flo x)).toInt .zero = some (Z x / (U : Int)) := e
  unfold floatToIntVal
  rw [e']
  simp only
  rw [if_pos]
  exact hr
theorem trn_range {x : Nat} (h : fits x) : -9223372036854775808 ≤ (Z x).tdiv (U : Int) ∧ (Z x).tdiv (U : Int) ≤ 9223372036854775807 := by
  obtain ⟨_, h1, h2⟩ := h
  have hu := UI
  by_cases h0 : 0 ≤ Z x
  · rw [Int.tdiv_eq_ediv_of_nonneg h0]
    constructor
    · have := Int.ediv_nonneg h0 (Int.le_of_lt hu); omega
    · refine Int.le_of_lt_add_one ((Int.ediv_lt_iff_lt_mul hu).2 ?_)
      generalize Z x = z at *
      generalize (U : Int) = u at *
      omega
  · have e : (Z x).tdiv (U : Int) = -((-(Z x)) / (U : Int)) := by
      have : Z x = -(-(Z x)) := by omega
      rw [this, Int.neg_tdiv, Int.tdiv_eq_ediv_of_nonneg (by omega), Int.neg_neg]
    have p : 0 ≤ (-(Z x)) / (U : Int) := Int.ediv_nonneg (by omega) (Int.le_of_lt hu)
    have q : (-(Z x)) / (U : Int) ≤ 9223372036854775808 := by
      refine Int.le_of_lt_add_one ((Int.ediv_lt_iff_lt_mul hu).2 ?_)
      generalize Z x = z at *
      generalize (U : Int) = u at *
      omega
    rw [e]; omega
theorem trn_int {x : Nat} (h : fits x) : floatToIntVal .f64 (trn x) .i64 = some ((Z x).tdiv (U : Int)) := by
  have e := (trn_spec h).2.2.2
  have hr := trn_range h
  have e' : (FloatKind.f64.decode (trn x)).toInt .zero = some ((Z x).tdiv (U : Int)) := e
  unfold floatToIntVal
  rw [e']
  simp only
  rw [if_pos]
  exact hr
theorem mul_gt_of' {n z u : Int} (hu : 0 < u) (h : -9223372036854775808 ≤ n) (hz : z < -(2 ^ 63 * u)) : z < n * u := by
  have := Int.mul_le_mul_of_nonneg_right h (Int.le_of_lt hu)
  omega
/-- Beyond 2^63; below -2^63; between. -/
theorem cases3 {x : Nat} (hn : nan x = false) :
    ((FloatKind.f64.format.order x 4890909195324358656 = some .gt ∨ FloatKind.f64.format.order x 4890909195324358656 = some .eq) ∧ (9223372036854775807 + 1) * (U : Int) ≤ Z x) ∨
    (FloatKind.f64.format.order x 4890909195324358656 = some .lt ∧ FloatKind.f64.format.order x 14114281232179134464 = some .lt ∧ Z x < -(2 ^ 63 * (U : Int))) ∨
    (FloatKind.f64.format.order x 4890909195324358656 = some .lt ∧ (FloatKind.f64.format.order x 14114281232179134464 = some .gt ∨ FloatKind.f64.format.order x 14114281232179134464 = some .eq) ∧ fits x) := by
  have ht : (nan x || nan top) = false := by simp [hn, nan_top]
  have hb : (nan x || nan bot) = false := by simp [hn, nan_bot]
  have zt := Z_top
  have zb := Z_bot
  have hu := UI
  rcases Int.lt_trichotomy (Z x) (Z top) with h | h | h
  · have h1 : FloatKind.f64.format.order x 4890909195324358656 = some .lt := ord_lt ht h
    rcases Int.lt_trichotomy (Z x) (Z bot) with g | g | g
    · exact .inr (.inl ⟨h1, ord_lt hb g, by rw [← zb]; exact g⟩)
    · exact .inr (.inr ⟨h1, .inr (ord_eq hb g), hn, by rw [g, zb]; exact Int.le_refl _, by rw [← zt]; exact h⟩)
    · exact .inr (.inr ⟨h1, .inl (ord_gt hb g), hn, by rw [← zb]; exact Int.le_of_lt g, by rw [← zt]; exact h⟩)
  · exact .inl ⟨.inr (ord_eq ht h), by rw [h, zt]; exact Int.le_refl _⟩
  · refine .inl ⟨.inl (ord_gt ht h), ?_⟩
    rw [zt] at h
    exact Int.le_of_lt h
end Fl

theorem toint_run (x : Nat) (q : Int) (h : floatToIntVal .f64 x .i64 = some q) (w : World) : (convert 39 2 (.float .f64 x)).run Try.prog w = .ok (.int .i64 q) w :=
  run_convert_float_int w 39 2 .f64 .i64 x q (by rw [Try.underlying39]; rfl) Try.underlying2 h

namespace Fl
theorem bits_nan {x : Nat} (h : nan x = true) : bits x = 9221120237041090560 := by simp [bits, h]
theorem bits_zero {x : Nat} (h : nan x = false) (h0 : isZero x = true) : bits x = 0 := by simp [bits, h, h0]
theorem bits_else {x : Nat} (h : nan x = false) (h0 : isZero x = false) : bits x = x := by simp [bits, h, h0]
/-- Are these bits told of any float? -/
def told (b : Nat) : Bool := bits b == b
def same (a b : Nat) : Bool := bits a == bits b
theorem same_cast (a b : Nat) : (((bits a : Nat) : Int) == ((bits b : Nat) : Int)) = same a b := by
  unfold same
  rw [Bool.eq_iff_iff]; simp [Int.ofNat_inj]
end Fl

theorem bits_any (x : Nat) (w : World) : Calls Try.prog 77 #[.float .f64 x] w fun e w' => e = .returned (.int .u64 (Fl.bits x : Nat)) ∧ w = w' := by
  cases hn : Fl.nan x
  · have h0 := Fl.ord_zero hn
    cases hz : Fl.isZero x
    · rw [Fl.bits_else hn hz]
      rw [hz] at h0
      clear hz
      have ht := tobits_run x
      go_enter Try.func77, Try.ntmps77
      go_wp2_with (go_at_call 89; refine (isnan_any _ _).mono ?_; rintro e w' ⟨rfl, rfl⟩)
      go_ret
      exact ⟨rfl, rfl⟩
    · rw [Fl.bits_zero hn hz]
      rw [hz] at h0
      clear hz
      go_enter Try.func77, Try.ntmps77
      go_wp2_with (go_at_call 89; refine (isnan_any _ _).mono ?_; rintro e w' ⟨rfl, rfl⟩)
      go_ret
      exact ⟨rfl, rfl⟩
  · rw [Fl.bits_nan hn]
    go_enter Try.func77, Try.ntmps77
    go_wp2_with (go_at_call 89; refine (isnan_any _ _).mono ?_; rintro e w' ⟨rfl, rfl⟩)
    go_ret
    exact ⟨rfl, rfl⟩

theorem of_any (b : Nat) (w : World) : Calls Try.prog 96 #[.int .u64 b] w fun e w' => e = .returned (.tuple #[.float .f64 (if Fl.told b then b else 0), .bool (Fl.told b)]) ∧ w = w' := by
  have hf := frombits_run b
  rw [Int.toNat_natCast] at hf
  cases ht : Fl.told b
  · have h1 : (Fl.bits b != b) = true := by simpa [Fl.told] using ht
    simp only [Bool.false_eq_true, if_false]
    clear ht
    go_enter Try.func96, Try.ntmps96
    go_wp2_with (go_at_call 77; refine (bits_any _ _).mono ?_; rintro e w' ⟨rfl, rfl⟩)
    go_ret2
    exact ⟨rfl, rfl⟩
  · have h1 : (Fl.bits b != b) = false := by simpa [Fl.told] using ht
    simp only [if_true]
    clear ht
    go_enter Try.func96, Try.ntmps96
    go_wp2_with (go_at_call 77; refine (bits_any _ _).mono ?_; rintro e w' ⟨rfl, rfl⟩)
    go_ret2
    exact ⟨rfl, rfl⟩

theorem same_any (a b : Nat) (w : World) : Calls Try.prog 79 #[.float .f64 a, .float .f64 b] w fun e w' => e = .returned (.bool (Fl.same a b)) ∧ w = w' := by
  go_enter Try.func79, Try.ntmps79
  go_wp2_with (go_at_call 77; refine (bits_any _ _).mono ?_; rintro e w' ⟨rfl, rfl⟩)
  go_ret
  exact ⟨congrArg (fun b => Ending.returned (.bool b)) (Fl.same_cast a b), rfl⟩

end Go.Proofs.Ytgenmebmdpnjhaa
