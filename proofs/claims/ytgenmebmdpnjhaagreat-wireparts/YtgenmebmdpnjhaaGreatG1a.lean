/- G1a: Fl, Float, Kept, Hand, Math, Val in one text. -/
import Ieee.Arith
import Derived.Test.YtgenmebmdpnjhaaGreatChecked
import Derived.WalkKit
import Derived.WalkLawsBesides
import Derived.Lib.Hide
import Derived.Below
import Derived.IntWalk
import Derived.Deep.QuietTactic
import Derived.BigQuiet
import Derived.OpenShut
import Derived.Deep.RegionWith
namespace Go.Proofs.YtgenmebmdpnjhaaGreat
namespace Fl
open Ieee

def bin : Nat := 2 ^ 52
def inf : Nat := 2047 * 2 ^ 52
def sw : Nat := 2 ^ 63

theorem d_bin : double.binade = bin := rfl
theorem d_inf : double.infRung = inf := by decide
theorem d_sw : double.signWeight = sw := by decide
theorem d_lp : double.leastPlace = -1074 := by decide

/-- A rung's magnitude, in units of 2^-1074; of the rung of infinity one beyond all others. -/
def K (r : Nat) : Nat := if r < bin then r else (bin + r % bin) * 2 ^ (r / bin - 1)

theorem bin_pos : 0 < bin := by decide

theorem K_succ (r : Nat) : K r < K (r + 1) := by
  unfold K
  by_cases h : r + 1 < bin
  · rw [if_pos (by omega), if_pos h]; omega
  by_cases h0 : r + 1 = bin
  · rw [if_pos (by omega), if_neg (by omega), h0, Nat.mod_self, Nat.div_self bin_pos]; simp; omega
  have hr : ¬ r < bin := by omega
  rw [if_neg hr, if_neg h]
  have q1 : 1 ≤ r / bin := (Nat.one_le_div_iff bin_pos).2 (by omega)
  have hm := Nat.mod_lt r bin_pos
  by_cases hc : r % bin + 1 < bin
  · have e1 : (r + 1) % bin = r % bin + 1 := by rw [Nat.add_mod, Nat.mod_eq_of_lt (a := 1) (by decide), Nat.mod_eq_of_lt hc]
    have e2 : (r + 1) / bin = r / bin := by
      have a := Nat.div_add_mod r bin
      have b := Nat.div_add_mod (r + 1) bin
      rw [e1] at b
      have : bin * (r / bin) = bin * ((r + 1) / bin) := by omega
      exact (Nat.eq_of_mul_eq_mul_left bin_pos this).symm
    rw [e1, e2]
    exact Nat.mul_lt_mul_of_pos_right (by omega) (Nat.two_pow_pos _)
  · have e0 : r % bin + 1 = bin := by omega
    have e1 : (r + 1) = bin * (r / bin + 1) := by
      have a := Nat.div_add_mod r bin
      rw [Nat.mul_add]; omega
    have e2 : (r + 1) % bin = 0 := by rw [e1]; exact Nat.mul_mod_right _ _
    have e3 : (r + 1) / bin = r / bin + 1 := by rw [e1]; exact Nat.mul_div_cancel_left _ bin_pos
    rw [e2, e3]
    have : 2 ^ (r / bin + 1 - 1) = 2 * 2 ^ (r / bin - 1) := by
      rw [show r / bin + 1 - 1 = (r / bin - 1) + 1 by omega, Nat.pow_succ, Nat.mul_comm]
    rw [this, Nat.add_zero, ← Nat.mul_assoc]
    exact Nat.mul_lt_mul_of_pos_right (by omega) (Nat.two_pow_pos _)

theorem K_lt {r s : Nat} (h : r < s) : K r < K s := by
  induction s with
  | zero => omega
  | succ s ih =>
    by_cases e : r = s
    · subst e; exact K_succ r
    · exact Nat.lt_trans (ih (by omega)) (K_succ s)

theorem K_zero : K 0 = 0 := by decide
theorem K_inj {r s : Nat} (h : K r = K s) : r = s := by
  rcases Nat.lt_trichotomy r s with h1 | h1 | h1
  · have := K_lt h1; omega
  · exact h1
  · have := K_lt h1; omega

def rung (x : Nat) : Nat := x % sw
def neg (x : Nat) : Bool := x / sw % 2 == 1
def nan (x : Nat) : Bool := decide (inf < rung x)
/-- The number, in units of 2^-1074. -/
def Z (x : Nat) : Int := if neg x then -(K (rung x) : Int) else K (rung x)

theorem read_nan {x : Nat} (h : nan x = true) : ∃ s t, double.read x = .nan s t := by
  have h' : inf < x % sw := of_decide_eq_true h
  have : bin < inf := by decide
  refine ⟨neg x, x % sw - inf, ?_⟩
  unfold Format.read
  simp only [d_bin, d_inf, d_sw]
  rw [if_neg (by omega), if_neg (by omega), if_neg (by omega)]
  rfl

theorem read_inf {x : Nat} (h : rung x = inf) : double.read x = .infinity (neg x) := by
  have h' : x % sw = inf := h
  have : bin < inf := by decide
  unfold Format.read
  simp only [d_bin, d_inf, d_sw]
  rw [if_neg (by omega), if_neg (by omega), if_pos h']
  rfl

/-- A finite word: its digits and its place; the place is never below the least. -/
theorem read_num {x : Nat} (h : rung x < inf) : ∃ (m : Nat) (e : Nat), double.read x = .number (neg x) m (-1074 + (e : Int)) ∧ m * 2 ^ e = K (rung x) ∧ m < 2 * bin ∧ e ≤ 2045 := by
  have h' : x % sw < inf := h
  unfold Format.read
  simp only [d_bin, d_inf, d_sw, d_lp]
  by_cases hb : x % sw < bin
  · rw [if_pos hb]
    refine ⟨x % sw, 0, ?_, ?_, by omega, by omega⟩
    · simp [neg]
    · simp [K, rung, hb]
  · rw [if_neg hb, if_pos h']
    refine ⟨bin + x % sw % bin, x % sw / bin - 1, rfl, ?_, ?_, ?_⟩
    · simp [K, rung, hb]
    · have := Nat.mod_lt (x % sw) bin_pos; omega
    · have : x % sw / bin < 2047 := Nat.div_lt_of_lt_mul (by rw [Nat.mul_comm]; exact h')
      omega

theorem signed_scale (s : Bool) (m a b : Nat) : signed s m a * (2 ^ b : Nat) = if s then -((m * 2 ^ (a + b) : Nat) : Int) else ((m * 2 ^ (a + b) : Nat) : Int) := by
  unfold signed
  cases s <;> simp [Nat.shiftLeft_eq, Nat.pow_add, Int.mul_assoc, Int.neg_mul]

theorem compare_scale (a b : Int) (p : Nat) (hp : 0 < p) : compare (a * (p : Int)) (b * (p : Int)) = compare a b := by
  have hp' : (0 : Int) < p := by omega
  rcases Int.lt_trichotomy a b with h | h | h
  · rw [Int.compare_eq_lt.2 h, Int.compare_eq_lt.2 (Int.mul_lt_mul_of_pos_right h hp')]
  · subst h; rw [Int.compare_eq_eq.2 rfl, Int.compare_eq_eq.2 rfl]
  · rw [Int.compare_eq_gt.2 h, Int.compare_eq_gt.2 (Int.mul_lt_mul_of_pos_right h hp')]

theorem order_nan_l {x y : Nat} (h : nan x = true) : double.order x y = none := by
  obtain ⟨s, t, e⟩ := read_nan h
  simp [Format.order, e, Datum.order]

theorem order_nan_r {x y : Nat} (h : nan y = true) : double.order x y = none := by
  obtain ⟨s, t, e⟩ := read_nan h
  unfold Format.order
  rw [e]
  cases double.read x <;> rfl

theorem rung_le_of {x : Nat} (h : nan x = false) : rung x ≤ inf := by
  simpa [nan] using h

theorem compare_lt' {a b : Int} (h : a < b) : compare a b = .lt := Int.compare_eq_lt.2 h
theorem compare_gt' {a b : Int} (h : b < a) : compare a b = .gt := Int.compare_eq_gt.2 h

theorem order_num {x y : Nat} (hx : nan x = false) (hy : nan y = false) : double.order x y = some (compare (Z x) (Z y)) := by
  have hx' := rung_le_of hx
  have hy' := rung_le_of hy
  have kp : 0 < K inf := by have := K_lt (r := 0) (s := inf) (by decide); omega
  unfold Format.order Z
  by_cases ex : rung x = inf
  · rw [read_inf ex]
    by_cases ey : rung y = inf
    · rw [read_inf ey, ex, ey]
      simp only [Datum.order]
      generalize K inf = k at kp
      have c1 : compare (k : Int) (-(k : Int)) = .gt := compare_gt' (by omega)
      have c2 : compare (-(k : Int)) (k : Int) = .lt := compare_lt' (by omega)
      cases neg x <;> cases neg y <;> simp [c1, c2] <;> rfl
    · obtain ⟨m, e, hr, hm, _, _⟩ := read_num (x := y) (by omega)
      have kl : K (rung y) < K inf := K_lt (by omega)
      rw [hr, ex]
      simp only [Datum.order]
      cases neg x <;> cases neg y <;> simp <;> symm <;> first | exact compare_gt' (by omega) | exact compare_lt' (by omega)
  · obtain ⟨m, e, hr, hm, _, _⟩ := read_num (x := x) (by omega)
    have kx : K (rung x) < K inf := K_lt (by omega)
    by_cases ey : rung y = inf
    · rw [hr, read_inf ey, ey]
      simp only [Datum.order]
      cases neg x <;> cases neg y <;> simp <;> symm <;> first | exact compare_gt' (by omega) | exact compare_lt' (by omega)
    · obtain ⟨n, g, hs, hn, _, _⟩ := read_num (x := y) (by omega)
      rw [hr, hs]
      simp only [Datum.order]
      rw [← compare_scale _ _ (2 ^ (min e g)) (Nat.two_pow_pos _), signed_scale, signed_scale]
      have e1 : (-1074 + (e : Int) - min (-1074 + (e : Int)) (-1074 + (g : Int))).toNat + min e g = e := by omega
      have e2 : (-1074 + (g : Int) - min (-1074 + (e : Int)) (-1074 + (g : Int))).toNat + min e g = g := by omega
      rw [e1, e2, hm, hn]

/-! ### Whole parts -/

/-- One, in units of 2^-1074. -/
def P : Nat := 1074
def U : Nat := 2 ^ P
theorem P_is : P = 1074 := rfl
theorem U_pos : 0 < U := Nat.two_pow_pos _

theorem gap_div (n drop : Nat) : n / (1 <<< min drop (n.log2 + 2)) = n / 2 ^ drop ∧ n % (1 <<< min drop (n.log2 + 2)) = n % 2 ^ drop := by
  rw [Nat.shiftLeft_eq, Nat.one_mul]
  by_cases h : drop ≤ n.log2 + 2
  · rw [Nat.min_eq_left h]; exact ⟨rfl, rfl⟩
  · rw [Nat.min_eq_right (by omega)]
    have h1 : n < 2 ^ (n.log2 + 1) := Nat.lt_log2_self
    have h2 : n < 2 ^ (n.log2 + 2) := Nat.lt_of_lt_of_le h1 (Nat.pow_le_pow_right (by omega) (by omega))
    have h3 : n < 2 ^ drop := Nat.lt_of_lt_of_le h2 (Nat.pow_le_pow_right (by omega) (by omega))
    exact ⟨by rw [Nat.div_eq_of_lt h2, Nat.div_eq_of_lt h3], by rw [Nat.mod_eq_of_lt h2, Nat.mod_eq_of_lt h3]⟩

theorem cut_down (s : Bool) (n drop : Nat) : Toward.down.cut s n drop = n / 2 ^ drop + (s && n % 2 ^ drop != 0).toNat := by
  unfold Toward.cut
  simp only [(gap_div n drop).1, (gap_div n drop).2]

theorem cut_zero (s : Bool) (n drop : Nat) : Toward.zero.cut s n drop = n / 2 ^ drop := by
  unfold Toward.cut
  simp only [(gap_div n drop).1]
  rfl

theorem cut_even (s : Bool) (n drop : Nat) (h : n % 2 ^ drop = 0) : Toward.even.cut s n drop = n / 2 ^ drop := by
  unfold Toward.cut
  simp only [(gap_div n drop).1, (gap_div n drop).2, h]
  rw [Nat.shiftLeft_eq, Nat.one_mul]
  have := Nat.two_pow_pos (min drop (n.log2 + 2))
  have h1 : ¬ (2 ^ min drop (n.log2 + 2) < 2 * 0) := by omega
  have h2 : (2 ^ min drop (n.log2 + 2) == 2 * 0) = false := by
    rw [beq_eq_false_iff_ne]; omega
  simp [h2]

/-- What is above, and what is below, the point, of digits at a place. -/
theorem whole_parts (m e : Nat) : (m <<< (-1074 + (e : Int)).toNat) / 2 ^ (-(-1074 + (e : Int))).toNat = m * 2 ^ e / U ∧
    ((m <<< (-1074 + (e : Int)).toNat) % 2 ^ (-(-1074 + (e : Int))).toNat = 0 ↔ m * 2 ^ e % U = 0) := by
  rw [Nat.shiftLeft_eq]
  unfold U
  have hP := P_is
  generalize P = p at hP
  by_cases h : p ≤ e
  · have e1 : (-1074 + (e : Int)).toNat = e - p := by omega
    have e2 : (-(-1074 + (e : Int))).toNat = 0 := by omega
    have e3 : m * 2 ^ e = m * 2 ^ (e - p) * 2 ^ p := by rw [Nat.mul_assoc, ← Nat.pow_add, Nat.sub_add_cancel h]
    rw [e1, e2, e3, Nat.mul_div_cancel _ (Nat.two_pow_pos _), Nat.mul_mod_left, Nat.pow_zero, Nat.div_one, Nat.mod_one]
    exact ⟨rfl, Iff.rfl⟩
  · have e1 : (-1074 + (e : Int)).toNat = 0 := by omega
    have e2 : (-(-1074 + (e : Int))).toNat = p - e := by omega
    have e3 : (2 : Nat) ^ p = 2 ^ (p - e) * 2 ^ e := by rw [← Nat.pow_add, Nat.sub_add_cancel (by omega)]
    rw [e1, e2, e3, Nat.pow_zero, Nat.mul_one, Nat.mul_div_mul_right _ _ (Nat.two_pow_pos _), Nat.mul_mod_mul_right]
    refine ⟨rfl, ?_⟩
    rw [Nat.mul_eq_zero]
    have := Nat.two_pow_pos e
    omega

theorem rung_word (s : Bool) {r : Nat} (h : r < sw) : rung (double.word s r) = r ∧ neg (double.word s r) = s ∧ double.word s r < 2 ^ 64 := by
  unfold Format.word rung neg
  rw [d_sw]
  have hp : 0 < sw := by decide
  have h2 : 2 * sw = 2 ^ 64 := by decide
  cases s
  · simp only [Bool.false_eq_true, if_false]
    rw [Nat.mod_eq_of_lt h, Nat.div_eq_of_lt h]
    exact ⟨rfl, rfl, by omega⟩
  · simp only [if_true]
    rw [Nat.add_mod_left, Nat.mod_eq_of_lt h, Nat.add_div_left _ hp, Nat.div_eq_of_lt h]
    exact ⟨rfl, rfl, by omega⟩

/-- Whole numbers of at most 53 digits (noughts behind them apart) are written as they are. -/
theorem nearest_exact (s : Bool) (c k F : Nat) (hF : F = c * 2 ^ k) (hc : c < 2 * bin) (h0 : 0 < F) (h64 : F < 2 ^ 64) :
    ∃ r, double.nearest s F 0 = double.word s r ∧ K r = F * U ∧ r < inf := by
  have hL1 : 2 ^ F.log2 ≤ F := Nat.log2_self_le (by omega)
  have hL2 : F < 2 ^ (F.log2 + 1) := Nat.lt_log2_self
  have hL : F.log2 < 64 := (Nat.log2_lt (by omega)).2 h64
  have hdiv : F * 2 ^ (52 - F.log2) % 2 ^ (F.log2 - 52) = 0 := by
    by_cases h : F.log2 ≤ 52
    · rw [show F.log2 - 52 = 0 by omega, Nat.pow_zero, Nat.mod_one]
    · have hk : F.log2 - 52 ≤ k := by
        have h1 : 2 ^ F.log2 < 2 ^ (53 + k) := by
          have : c * 2 ^ k < 2 * bin * 2 ^ k := Nat.mul_lt_mul_of_pos_right hc (Nat.two_pow_pos _)
          have e : 2 * bin * 2 ^ k = 2 ^ (53 + k) := by rw [Nat.pow_add]; rfl
          omega
        have := (Nat.pow_lt_pow_iff_right (a := 2) (by omega)).1 h1
        omega
      have e : F = c * 2 ^ (k - (F.log2 - 52)) * 2 ^ (F.log2 - 52) := by rw [Nat.mul_assoc, ← Nat.pow_add, Nat.sub_add_cancel hk, ← hF]
      rw [show 52 - F.log2 = 0 by omega, Nat.pow_zero, Nat.mul_one]
      generalize F.log2 - 52 = d at e
      rw [e]
      exact Nat.mul_mod_left _ _
  generalize hg : F * 2 ^ (52 - F.log2) / 2 ^ (F.log2 - 52) = g
  have hmul : g * 2 ^ (F.log2 - 52) = F * 2 ^ (52 - F.log2) := by
    rw [← hg]; exact Nat.div_mul_cancel (Nat.dvd_of_mod_eq_zero hdiv)
  have hsum : g * 2 ^ F.log2 = F * 2 ^ 52 := by
    by_cases h : F.log2 ≤ 52
    · rw [show F.log2 - 52 = 0 by omega, Nat.pow_zero, Nat.mul_one] at hmul
      rw [hmul, Nat.mul_assoc, ← Nat.pow_add, Nat.sub_add_cancel h]
    · rw [show 52 - F.log2 = 0 by omega, Nat.pow_zero, Nat.mul_one] at hmul
      rw [show F * 2 ^ 52 = g * 2 ^ (F.log2 - 52) * 2 ^ 52 by rw [hmul], Nat.mul_assoc, ← Nat.pow_add, Nat.sub_add_cancel (by omega)]
  have hp := Nat.two_pow_pos F.log2
  have g1 : bin ≤ g := by
    refine Nat.le_of_mul_le_mul_right (c := 2 ^ F.log2) ?_ hp
    rw [hsum, Nat.mul_comm]; exact Nat.mul_le_mul_right _ hL1
  have g2 : g < 2 * bin := by
    refine Nat.lt_of_mul_lt_mul_right (a := 2 ^ F.log2) ?_
    rw [hsum, show 2 * bin * 2 ^ F.log2 = 2 ^ (F.log2 + 1) * 2 ^ 52 by rw [Nat.pow_succ, Nat.mul_comm (2 ^ F.log2), Nat.mul_right_comm]; rfl]
    exact Nat.mul_lt_mul_of_pos_right hL2 (Nat.two_pow_pos _)
  have hlt : (F.log2 + 1022) * bin + g < inf := by
    have : (F.log2 + 1022) * bin ≤ 1085 * bin := Nat.mul_le_mul_right _ (by omega)
    have e : inf = 2047 * bin := rfl
    omega
  refine ⟨(F.log2 + 1022) * bin + g, ?_, ?_, hlt⟩
  · unfold Format.nearest
    simp only [d_bin, d_inf, d_lp]
    rw [if_neg (by omega)]
    have e0 : max (0 + (F.log2 : Int) - (double.fractionBits : Nat)) (-1074) = (F.log2 : Int) - 52 := by
      have : ((double.fractionBits : Nat) : Int) = 52 := rfl
      rw [this]; omega
    rw [e0]
    have e1 : (0 - ((F.log2 : Int) - 52)).toNat = 52 - F.log2 := by omega
    have e2 : ((F.log2 : Int) - 52 - 0).toNat = F.log2 - 52 := by omega
    have e3 : ((F.log2 : Int) - 52 - -1074).toNat = F.log2 + 1022 := by omega
    rw [e1, e2, e3, Nat.shiftLeft_eq, cut_even _ _ _ hdiv, hg, Nat.min_eq_left (by omega)]
  · unfold K
    have hge : bin ≤ (F.log2 + 1022) * bin + g := by omega
    rw [if_neg (by omega)]
    have q : ((F.log2 + 1022) * bin + g) / bin = F.log2 + 1023 := by
      rw [Nat.add_comm, Nat.add_mul_div_right _ _ bin_pos]
      have : g / bin = 1 := Nat.div_eq_of_lt_le (by omega) (by omega)
      omega
    have t : ((F.log2 + 1022) * bin + g) % bin = g - bin := by
      rw [Nat.add_comm, Nat.add_mul_mod_self_right, Nat.mod_eq_sub_mod g1, Nat.mod_eq_of_lt (by omega)]
    rw [q, t, show bin + (g - bin) = g by omega, show F.log2 + 1023 - 1 = F.log2 + 1022 by omega]
    have hP := P_is
    unfold U
    generalize P = p at hP
    rw [show F.log2 + 1022 = F.log2 + (p - 52) by omega, Nat.pow_add, ← Nat.mul_assoc, hsum, Nat.mul_assoc, ← Nat.pow_add, show 52 + (p - 52) = p by omega]

/-- A whole number as a float: what it is, and what it is as an integer again. -/
theorem whole_spec (s : Bool) (c k F : Nat) (hF : F = c * 2 ^ k) (hc : c < 2 * bin) (h64 : F < 2 ^ 64) :
    double.nearest s F 0 < 2 ^ 64 ∧ rung (double.nearest s F 0) < inf ∧ K (rung (double.nearest s F 0)) = F * U ∧ neg (double.nearest s F 0) = s ∧
      (double.read (double.nearest s F 0)).toInt .zero = some (if s then -(F : Int) else F) := by
  have key : ∃ r, double.nearest s F 0 = double.word s r ∧ K r = F * U ∧ r < inf := by
    by_cases h0 : 0 < F
    · exact nearest_exact s c k F hF hc h0 h64
    · have : F = 0 := by omega
      subst this
      exact ⟨0, by simp [Format.nearest], by simp [K_zero], by decide⟩
  obtain ⟨r, e, hK, hr⟩ := key
  obtain ⟨w1, w2, w3⟩ := rung_word s (r := r) (Nat.lt_trans hr (by decide))
  rw [e]
  refine ⟨w3, by rw [w1]; exact hr, by rw [w1]; exact hK, w2, ?_⟩
  obtain ⟨m, p, hread, hm, _, _⟩ := read_num (x := double.word s r) (by rw [w1]; exact hr)
  rw [hread, w2]
  simp only [Datum.toInt, Datum.integral]
  rw [cut_zero, (whole_parts m p).1, hm, w1, hK, Nat.mul_div_cancel _ U_pos]
  unfold signed
  rw [Nat.shiftLeft_zero]

def flo (x : Nat) : Nat := double.write ((double.read x).integral .down)
def trn (x : Nat) : Nat := double.write ((double.read x).integral .zero)

/-- The magnitude of the floor. -/
def floMag (x : Nat) : Nat := K (rung x) / U + (neg x && K (rung x) % U != 0).toNat

theorem toNat_le (b : Bool) : b.toNat ≤ 1 := by cases b <;> simp

theorem flo_is {x : Nat} (h : rung x < inf) : ∃ c k, flo x = double.nearest (neg x) (floMag x) 0 ∧ floMag x = c * 2 ^ k ∧ c < 2 * bin := by
  obtain ⟨m, e, hr, hm, hm2, he⟩ := read_num h
  obtain ⟨p1, p2⟩ := whole_parts m e
  have e1 : flo x = double.nearest (neg x) (floMag x) 0 := by
    unfold flo floMag
    rw [hr]
    simp only [Datum.integral, Format.write]
    rw [cut_down, p1, ← hm]
    have : ((m <<< (-1074 + (e : Int)).toNat) % 2 ^ (-(-1074 + (e : Int))).toNat != 0) = (m * 2 ^ e % U != 0) := by
      rw [Bool.eq_iff_iff]; simp only [bne_iff_ne, ne_eq, p2]
    rw [this]
  by_cases hp : 1074 ≤ e
  · refine ⟨m, e - 1074, e1, ?_, hm2⟩
    unfold floMag
    have e3 : m * 2 ^ e = m * 2 ^ (e - 1074) * U := by
      have hP := P_is
      unfold U
      generalize P = q at hP
      rw [Nat.mul_assoc, ← Nat.pow_add, show e - 1074 + q = e by omega]
    rw [← hm, e3, Nat.mul_div_cancel _ U_pos, Nat.mul_mod_left]
    simp
  · refine ⟨floMag x, 0, e1, by simp, ?_⟩
    unfold floMag
    have l : K (rung x) / U < bin := by
      rw [← hm]
      refine Nat.div_lt_of_lt_mul ?_
      have hP := P_is
      unfold U
      generalize P = q at hP
      have e4 : (2 : Nat) ^ q = 2 ^ (q - e - 1) * 2 * 2 ^ e := by
        rw [← Nat.pow_succ, ← Nat.pow_add, show q - e - 1 + 1 + e = q by omega]
      rw [e4, show 2 ^ (q - e - 1) * 2 * 2 ^ e * bin = 2 ^ (q - e - 1) * (2 * bin) * 2 ^ e by rw [Nat.mul_right_comm, Nat.mul_assoc (2 ^ (q - e - 1))]]
      refine Nat.mul_lt_mul_of_pos_right ?_ (Nat.two_pow_pos _)
      exact Nat.lt_of_lt_of_le hm2 (Nat.le_mul_of_pos_left _ (Nat.two_pow_pos _))
    have := toNat_le (neg x && K (rung x) % U != 0)
    have : 1 < bin := by decide
    omega

theorem trn_is {x : Nat} (h : rung x < inf) : ∃ c k, trn x = double.nearest (neg x) (K (rung x) / U) 0 ∧ K (rung x) / U = c * 2 ^ k ∧ c < 2 * bin := by
  obtain ⟨m, e, hr, hm, hm2, he⟩ := read_num h
  obtain ⟨p1, p2⟩ := whole_parts m e
  have e1 : trn x = double.nearest (neg x) (K (rung x) / U) 0 := by
    unfold trn
    rw [hr]
    simp only [Datum.integral, Format.write]
    rw [cut_zero, p1, ← hm]
  by_cases hp : 1074 ≤ e
  · refine ⟨m, e - 1074, e1, ?_, hm2⟩
    have e3 : m * 2 ^ e = m * 2 ^ (e - 1074) * U := by
      have hP := P_is
      unfold U
      generalize P = q at hP
      rw [Nat.mul_assoc, ← Nat.pow_add, show e - 1074 + q = e by omega]
    rw [← hm, e3, Nat.mul_div_cancel _ U_pos]
  · refine ⟨K (rung x) / U, 0, e1, by simp, ?_⟩
    rw [← hm]
    refine Nat.div_lt_of_lt_mul ?_
    have hP := P_is
    unfold U
    generalize P = q at hP
    have e4 : (2 : Nat) ^ q = 2 ^ (q - e) * 2 ^ e := by rw [← Nat.pow_add, show q - e + e = q by omega]
    rw [e4, Nat.mul_right_comm]
    refine Nat.mul_lt_mul_of_pos_right ?_ (Nat.two_pow_pos _)
    exact Nat.lt_of_lt_of_le hm2 (Nat.le_mul_of_pos_left _ (Nat.two_pow_pos _))

/-- Within 64 bits: at least -2^63, below 2^63. -/
def fits (x : Nat) : Prop := nan x = false ∧ -(2 ^ 63 * (U : Int)) ≤ Z x ∧ Z x < 2 ^ 63 * (U : Int)

theorem fits_K {x : Nat} (h : fits x) : rung x < inf ∧ K (rung x) ≤ 2 ^ 63 * U := by
  obtain ⟨hn, h1, h2⟩ := h
  have hk : K (rung x) ≤ 2 ^ 63 * U := by
    unfold Z at h1 h2
    generalize U = u at h1 h2 ⊢
    generalize K (rung x) = k at h1 h2 ⊢
    cases hg : neg x <;> simp only [hg, Bool.false_eq_true, if_true, if_false] at h1 h2 <;> omega
  refine ⟨?_, hk⟩
  have := rung_le_of hn
  refine Nat.lt_of_le_of_ne this fun e => ?_
  rw [e] at hk
  have hU : 2 ^ 63 * U < K inf := by
    unfold K
    rw [if_neg (by decide)]
    have e1 : inf % bin = 0 := by decide
    have e2 : inf / bin - 1 = 2046 := by decide
    rw [e1, e2, Nat.add_zero]
    have hP := P_is
    unfold U
    generalize P = q at hP
    generalize h46 : 2046 = t
    have : 2 ^ 63 * 2 ^ q = 2 ^ (63 + q) := by rw [Nat.pow_add]
    rw [this, show bin * 2 ^ t = 2 ^ (52 + t) by rw [Nat.pow_add]; rfl]
    exact Nat.pow_lt_pow_right (by omega) (by omega)
  omega

theorem floMag_Z {x : Nat} : (if neg x then -(floMag x : Int) else floMag x) = Z x / (U : Int) := by
  have hU : (0 : Int) < U := by have := U_pos; omega
  unfold floMag Z
  have hd := Nat.div_add_mod (K (rung x)) U
  have hm := Nat.mod_lt (K (rung x)) U_pos
  generalize K (rung x) = k at hd hm
  cases hn : neg x
  · simp
  · simp only [if_true, Bool.true_and]
    by_cases h0 : k % U = 0
    · have : (k % U != 0) = false := by simp [h0]
      rw [this]
      simp only [Bool.toNat_false, Nat.add_zero]
      have := (Int.ediv_emod_unique (a := -(k : Int)) (b := U) (r := 0) (q := -((k / U : Nat) : Int)) hU).2 ⟨by
        rw [Int.mul_neg, ← Int.natCast_mul]; omega, by omega, hU⟩
      exact this.1.symm
    · have : (k % U != 0) = true := by simp [h0]
      rw [this]
      simp only [Bool.toNat_true]
      have := (Int.ediv_emod_unique (a := -(k : Int)) (b := U) (r := (U : Int) - ((k % U : Nat) : Int)) (q := -((k / U + 1 : Nat) : Int)) hU).2 ⟨by
        rw [Int.mul_neg, ← Int.natCast_mul, Nat.mul_add, Nat.mul_one]; omega, by omega, by omega⟩
      exact this.1.symm

theorem floMag_le {x : Nat} (h : K (rung x) ≤ 2 ^ 63 * U) : floMag x < 2 ^ 64 := by
  unfold floMag
  have : K (rung x) / U ≤ 2 ^ 63 := Nat.div_le_of_le_mul (by rw [Nat.mul_comm]; exact h)
  have := toNat_le (neg x && K (rung x) % U != 0)
  omega

theorem nan_of_lt {x : Nat} (h : rung x < inf) : nan x = false := by
  unfold nan
  rw [decide_eq_false_iff_not]; omega

theorem flo_spec {x : Nat} (h : fits x) : flo x < 2 ^ 64 ∧ nan (flo x) = false ∧ Z (flo x) = Z x / (U : Int) * (U : Int) ∧ (double.read (flo x)).toInt .zero = some (Z x / (U : Int)) := by
  obtain ⟨h1, h2⟩ := fits_K h
  obtain ⟨c, k, e, hF, hc⟩ := flo_is h1
  obtain ⟨a1, a2, a3, a4, a5⟩ := whole_spec (neg x) c k (floMag x) hF hc (floMag_le h2)
  rw [← e] at a1 a2 a3 a4 a5
  refine ⟨a1, nan_of_lt a2, ?_, by rw [a5, floMag_Z]⟩
  rw [← floMag_Z]
  rw [show Z (flo x) = if neg (flo x) then -(K (rung (flo x)) : Int) else K (rung (flo x)) from rfl, a4, a3]
  cases neg x <;> simp [Int.neg_mul]

theorem trn_spec {x : Nat} (h : fits x) : trn x < 2 ^ 64 ∧ nan (trn x) = false ∧ Z (trn x) = (Z x).tdiv (U : Int) * (U : Int) ∧ (double.read (trn x)).toInt .zero = some ((Z x).tdiv (U : Int)) := by
  obtain ⟨h1, h2⟩ := fits_K h
  obtain ⟨c, k, e, hF, hc⟩ := trn_is h1
  have hl : K (rung x) / U < 2 ^ 64 := by
    have : K (rung x) / U ≤ 2 ^ 63 := Nat.div_le_of_le_mul (by rw [Nat.mul_comm]; exact h2)
    omega
  obtain ⟨a1, a2, a3, a4, a5⟩ := whole_spec (neg x) c k (K (rung x) / U) hF hc hl
  rw [← e] at a1 a2 a3 a4 a5
  have et : (Z x).tdiv (U : Int) = if neg x then -((K (rung x) / U : Nat) : Int) else ((K (rung x) / U : Nat) : Int) := by
    unfold Z
    cases neg x <;> simp [Int.neg_tdiv]
    all_goals rw [Int.tdiv_eq_ediv_of_nonneg (by omega)]
  refine ⟨a1, nan_of_lt a2, ?_, by rw [a5, et]⟩
  rw [et]
  rw [show Z (trn x) = if neg (trn x) then -(K (rung (trn x)) : Int) else K (rung (trn x)) from rfl, a4, a3]
  cases neg x <;> simp [Int.neg_mul]

end Fl
end Go.Proofs.YtgenmebmdpnjhaaGreat

namespace Go.Proofs.YtgenmebmdpnjhaaGreat
open Go.RowKit

namespace Fl
/-- -1, 0, 1. -/
def sgn (a b : Int) : Int := if a < b then -1 else if b < a then 1 else 0
def cmp (a b : Nat) : Int := if nan a || nan b then 0 else sgn (Z a) (Z b)
def cmpOk (a b : Nat) : Bool := !nan a && !nan b
def cmpInt (n : Int) (x : Nat) : Int := if nan x then 0 else sgn (n * (U : Int)) (Z x)
def isZero (x : Nat) : Bool := decide (rung x = 0)
def bits (x : Nat) : Nat := if nan x then 9221120237041090560 else if isZero x then 0 else x

abbrev ord (x y : Nat) : Option Ordering := FloatKind.f64.format.order x y

theorem ord_nan {x y : Nat} (h : (nan x || nan y) = true) : FloatKind.f64.format.order x y = none := by
  rw [Bool.or_eq_true] at h
  rcases h with h | h
  · exact order_nan_l h
  · exact order_nan_r h
theorem ord_num {x y : Nat} (h : (nan x || nan y) = false) : FloatKind.f64.format.order x y = some (compare (Z x) (Z y)) := by
  rw [Bool.or_eq_false_iff] at h
  exact order_num h.1 h.2
theorem ord_lt {x y : Nat} (h : (nan x || nan y) = false) (hl : Z x < Z y) : FloatKind.f64.format.order x y = some .lt := by rw [ord_num h, compare_lt' hl]
theorem ord_gt {x y : Nat} (h : (nan x || nan y) = false) (hl : Z y < Z x) : FloatKind.f64.format.order x y = some .gt := by rw [ord_num h, compare_gt' hl]
theorem ord_eq {x y : Nat} (h : (nan x || nan y) = false) (hl : Z x = Z y) : FloatKind.f64.format.order x y = some .eq := by rw [ord_num h, Int.compare_eq_eq.2 hl]
theorem ord_self (x : Nat) : (FloatKind.f64.format.order x x != some .eq) = nan x := by
  cases h : nan x
  · rw [ord_eq (by simp [h]) rfl]; rfl
  · rw [ord_nan (by simp [h])]; rfl
theorem ord_self' (x : Nat) : (FloatKind.f64.format.order x x == some .eq) = !nan x := by
  cases h : nan x
  · rw [ord_eq (by simp [h]) rfl]; rfl
  · rw [ord_nan (by simp [h])]; rfl

theorem Z_zero_iff (x : Nat) : Z x = 0 ↔ rung x = 0 := by
  have h : K (rung x) = 0 ↔ rung x = 0 := ⟨fun h => K_inj (h.trans K_zero.symm), fun h => by rw [h]; exact K_zero⟩
  rw [← h]
  unfold Z
  generalize K (rung x) = k
  cases neg x <;> simp
theorem Z_zero : Z 0 = 0 := by decide
theorem nan_zero : nan 0 = false := by decide
theorem ord_zero {x : Nat} (h : nan x = false) : (FloatKind.f64.format.order x 0 == some .eq) = isZero x := by
  rw [ord_num (by simp [h, nan_zero]), Z_zero]
  unfold isZero
  by_cases e : rung x = 0
  · rw [Int.compare_eq_eq.2 ((Z_zero_iff x).2 e)]; simp [e]
  · have : Z x ≠ 0 := fun h => e ((Z_zero_iff x).1 h)
    have h2 : compare (Z x) 0 ≠ .eq := fun h => this (Int.compare_eq_eq.1 h)
    simp [e, h2]

/-- 2^63, and what is below 0 of it. -/
def top : Nat := 4890909195324358656
def bot : Nat := 14114281232179134464
theorem K_two63 : K (1086 * 2 ^ 52) = 2 ^ 63 * U := by
  unfold K
  rw [if_neg (by decide), show 1086 * 2 ^ 52 % bin = 0 by decide, show 1086 * 2 ^ 52 / bin - 1 = 1085 by decide]
  have hP := P_is
  unfold U
  generalize P = q at hP
  generalize h : 1085 = t
  rw [Nat.add_zero, show bin * 2 ^ t = 2 ^ (52 + t) by rw [Nat.pow_add]; rfl, show 2 ^ 63 * 2 ^ q = 2 ^ (63 + q) by rw [Nat.pow_add], show 52 + t = 63 + q by omega]
theorem Z_top : Z top = 2 ^ 63 * (U : Int) := by
  have h1 : rung top = 1086 * 2 ^ 52 := by decide
  have h2 : neg top = false := by decide
  unfold Z
  rw [h1, h2, K_two63]
  generalize U = u
  simp
theorem Z_bot : Z bot = -(2 ^ 63 * (U : Int)) := by
  have h1 : rung bot = 1086 * 2 ^ 52 := by decide
  have h2 : neg bot = true := by decide
  unfold Z
  rw [h1, h2, K_two63]
  generalize U = u
  simp
theorem nan_top : nan top = false := by decide
theorem nan_bot : nan bot = false := by decide
end Fl

/-- math.Float64frombits, math.Float64bits: in place. -/
theorem frombits_run (n : Int) (w : World) : (callFunc 164 #[.int .u64 n]).run Tryz.prog w = .ok (.value (.float .f64 n.toNat)) w := by kernel_rfl
theorem tobits_run (x : Nat) (w : World) : (callFunc 154 #[.float .f64 x]).run Tryz.prog w = .ok (.value (.int .u64 x)) w := by kernel_rfl

theorem isnan_any (x : Nat) (w : World) : Calls Tryz.prog 156 #[.float .f64 x] w fun e w' => e = .returned (.bool (Fl.nan x)) ∧ w = w' := by
  have h := Fl.ord_self x
  go_enter Tryz.func156, Tryz.ntmps156
  go_wp2
  go_ret
  exact ⟨rfl, rfl⟩

namespace Fl
theorem sgn_lt {a b : Int} (h : a < b) : sgn a b = -1 := by simp [sgn, h]
theorem sgn_gt {a b : Int} (h : b < a) : sgn a b = 1 := by simp [sgn, h]; omega
theorem sgn_eq {a b : Int} (h : a = b) : sgn a b = 0 := by simp [sgn, h]
theorem cmp_nan {a b : Nat} (h : (nan a || nan b) = true) : cmp a b = 0 ∧ cmpOk a b = false := by
  constructor
  · simp [cmp, h]
  · simp only [cmpOk]; cases ha : nan a <;> simp_all
theorem cmp_num {a b : Nat} (h : (nan a || nan b) = false) : cmp a b = sgn (Z a) (Z b) ∧ cmpOk a b = true := by
  constructor
  · simp [cmp, h]
  · simp only [cmpOk]; cases ha : nan a <;> simp_all
end Fl

/-- A pair of an integer and a bool. -/
abbrev pairIB (i : Int) (b : Bool) : Value := .tuple #[.int .i64 i, .bool b]

theorem pairIB_eq {i j : Int} {b c : Bool} (h1 : i = j) (h2 : b = c) : Ending.returned (pairIB i b) = .returned (pairIB j c) := by rw [h1, h2]

namespace Fl
theorem mul_lt_of {n q z u : Int} (hu : 0 < u) (h : n < q) (hz : q * u ≤ z) : n * u < z := by
  have := Int.mul_lt_mul_of_pos_right h hu
  omega
theorem mul_gt_of {n q z u : Int} (hu : 0 < u) (h : q < n) (hz : z < q * u + u) : z < n * u := by
  have h1 : q + 1 ≤ n := h
  have := Int.mul_le_mul_of_nonneg_right h1 (Int.le_of_lt hu)
  rw [Int.add_mul, Int.one_mul] at this
  omega
theorem cmpInt_nan {n : Int} {x : Nat} (h : nan x = true) : cmpInt n x = 0 := by simp [cmpInt, h]
theorem cmpInt_num {n : Int} {x : Nat} (h : nan x = false) : cmpInt n x = sgn (n * (U : Int)) (Z x) := by simp [cmpInt, h]
theorem UI : (0 : Int) < (U : Int) := by have := U_pos; omega
theorem floor_bounds (z : Int) : z / (U : Int) * (U : Int) ≤ z ∧ z < z / (U : Int) * (U : Int) + (U : Int) := by
  have h0 := Int.mul_ediv_add_emod z (U : Int)
  have h1 := Int.emod_nonneg z (Int.ne_of_gt UI)
  have h2 := Int.emod_lt_of_pos z UI
  rw [Int.mul_comm] at h0
  omega
theorem floor_range {x : Nat} (h : fits x) : -9223372036854775808 ≤ Z x / (U : Int) ∧ Z x / (U : Int) ≤ 9223372036854775807 := by
  obtain ⟨_, h1, h2⟩ := h
  have hu := UI
  constructor
  · refine (Int.le_ediv_iff_mul_le hu).2 ?_
    generalize Z x = z at *
    generalize (U : Int) = u at *
    omega
  · refine Int.le_of_lt_add_one ((Int.ediv_lt_iff_lt_mul hu).2 ?_)
    generalize Z x = z at *
    generalize (U : Int) = u at *
    omega
/-- The floor's own integer fits. -/
theorem flo_int {x : Nat} (h : fits x) : floatToIntVal .f64 (flo x) .i64 = some (Z x / (U : Int)) := by
  have e := (flo_spec h).2.2.2
  have hr := floor_range h
  have e' : (FloatKind.f64.decode (flo x)).toInt .zero = some (Z x / (U : Int)) := e
  unfold floatToIntVal
  rw [e']
  simp only
  rw [if_pos]
  exact hr
theorem trn_range {x : Nat} (h : fits x) : -9223372036854775808 ≤ (Z x).tdiv (U : Int) ∧ (Z x).tdiv (U : Int) ≤ 9223372036854775807 := by
  obtain ⟨_, h1, h2⟩ := h
  have hu := UI
  by_cases h0 : 0 ≤ Z x
  · rw [Int.tdiv_eq_ediv_of_nonneg h0]
    constructor
    · have := Int.ediv_nonneg h0 (Int.le_of_lt hu); omega
    · refine Int.le_of_lt_add_one ((Int.ediv_lt_iff_lt_mul hu).2 ?_)
      generalize Z x = z at *
      generalize (U : Int) = u at *
      omega
  · have e : (Z x).tdiv (U : Int) = -((-(Z x)) / (U : Int)) := by
      have : Z x = -(-(Z x)) := by omega
      rw [this, Int.neg_tdiv, Int.tdiv_eq_ediv_of_nonneg (by omega), Int.neg_neg]
    have p : 0 ≤ (-(Z x)) / (U : Int) := Int.ediv_nonneg (by omega) (Int.le_of_lt hu)
    have q : (-(Z x)) / (U : Int) ≤ 9223372036854775808 := by
      refine Int.le_of_lt_add_one ((Int.ediv_lt_iff_lt_mul hu).2 ?_)
      generalize Z x = z at *
      generalize (U : Int) = u at *
      omega
    rw [e]; omega
theorem trn_int {x : Nat} (h : fits x) : floatToIntVal .f64 (trn x) .i64 = some ((Z x).tdiv (U : Int)) := by
  have e := (trn_spec h).2.2.2
  have hr := trn_range h
  have e' : (FloatKind.f64.decode (trn x)).toInt .zero = some ((Z x).tdiv (U : Int)) := e
  unfold floatToIntVal
  rw [e']
  simp only
  rw [if_pos]
  exact hr
theorem mul_gt_of' {n z u : Int} (hu : 0 < u) (h : -9223372036854775808 ≤ n) (hz : z < -(2 ^ 63 * u)) : z < n * u := by
  have := Int.mul_le_mul_of_nonneg_right h (Int.le_of_lt hu)
  omega
/-- Beyond 2^63; below -2^63; between. -/
theorem cases3 {x : Nat} (hn : nan x = false) :
    ((FloatKind.f64.format.order x 4890909195324358656 = some .gt ∨ FloatKind.f64.format.order x 4890909195324358656 = some .eq) ∧ (9223372036854775807 + 1) * (U : Int) ≤ Z x) ∨
    (FloatKind.f64.format.order x 4890909195324358656 = some .lt ∧ FloatKind.f64.format.order x 14114281232179134464 = some .lt ∧ Z x < -(2 ^ 63 * (U : Int))) ∨
    (FloatKind.f64.format.order x 4890909195324358656 = some .lt ∧ (FloatKind.f64.format.order x 14114281232179134464 = some .gt ∨ FloatKind.f64.format.order x 14114281232179134464 = some .eq) ∧ fits x) := by
  have ht : (nan x || nan top) = false := by simp [hn, nan_top]
  have hb : (nan x || nan bot) = false := by simp [hn, nan_bot]
  have zt := Z_top
  have zb := Z_bot
  have hu := UI
  rcases Int.lt_trichotomy (Z x) (Z top) with h | h | h
  · have h1 : FloatKind.f64.format.order x 4890909195324358656 = some .lt := ord_lt ht h
    rcases Int.lt_trichotomy (Z x) (Z bot) with g | g | g
    · exact .inr (.inl ⟨h1, ord_lt hb g, by rw [← zb]; exact g⟩)
    · exact .inr (.inr ⟨h1, .inr (ord_eq hb g), hn, by rw [g, zb]; exact Int.le_refl _, by rw [← zt]; exact h⟩)
    · exact .inr (.inr ⟨h1, .inl (ord_gt hb g), hn, by rw [← zb]; exact Int.le_of_lt g, by rw [← zt]; exact h⟩)
  · exact .inl ⟨.inr (ord_eq ht h), by rw [h, zt]; exact Int.le_refl _⟩
  · refine .inl ⟨.inl (ord_gt ht h), ?_⟩
    rw [zt] at h
    exact Int.le_of_lt h
end Fl

theorem toint_run (x : Nat) (q : Int) (h : floatToIntVal .f64 x .i64 = some q) (w : World) : (convert 62 2 (.float .f64 x)).run Tryz.prog w = .ok (.int .i64 q) w :=
  run_convert_float_int w 62 2 .f64 .i64 x q (by rw [Tryz.underlying62]; rfl) Tryz.underlying2 h

namespace Fl
theorem bits_nan {x : Nat} (h : nan x = true) : bits x = 9221120237041090560 := by simp [bits, h]
theorem bits_zero {x : Nat} (h : nan x = false) (h0 : isZero x = true) : bits x = 0 := by simp [bits, h, h0]
theorem bits_else {x : Nat} (h : nan x = false) (h0 : isZero x = false) : bits x = x := by simp [bits, h, h0]
/-- Are these bits told of any float? -/
def told (b : Nat) : Bool := bits b == b
def same (a b : Nat) : Bool := bits a == bits b
theorem same_cast (a b : Nat) : (((bits a : Nat) : Int) == ((bits b : Nat) : Int)) = same a b := by
  unfold same
  rw [Bool.eq_iff_iff]; simp [Int.ofNat_inj]
end Fl

theorem bits_any (x : Nat) (w : World) : Calls Tryz.prog 140 #[.float .f64 x] w fun e w' => e = .returned (.int .u64 (Fl.bits x : Nat)) ∧ w = w' := by
  cases hn : Fl.nan x
  · have h0 := Fl.ord_zero hn
    cases hz : Fl.isZero x
    · rw [Fl.bits_else hn hz]
      rw [hz] at h0
      clear hz
      have ht := tobits_run x
      go_enter Tryz.func140, Tryz.ntmps140
      go_wp2_with (go_at_call 156; refine (isnan_any _ _).mono ?_; rintro e w' ⟨rfl, rfl⟩)
      go_ret
      exact ⟨rfl, rfl⟩
    · rw [Fl.bits_zero hn hz]
      rw [hz] at h0
      clear hz
      go_enter Tryz.func140, Tryz.ntmps140
      go_wp2_with (go_at_call 156; refine (isnan_any _ _).mono ?_; rintro e w' ⟨rfl, rfl⟩)
      go_ret
      exact ⟨rfl, rfl⟩
  · rw [Fl.bits_nan hn]
    go_enter Tryz.func140, Tryz.ntmps140
    go_wp2_with (go_at_call 156; refine (isnan_any _ _).mono ?_; rintro e w' ⟨rfl, rfl⟩)
    go_ret
    exact ⟨rfl, rfl⟩

theorem of_any (b : Nat) (w : World) : Calls Tryz.prog 167 #[.int .u64 b] w fun e w' => e = .returned (.tuple #[.float .f64 (if Fl.told b then b else 0), .bool (Fl.told b)]) ∧ w = w' := by
  have hf := frombits_run b
  rw [Int.toNat_natCast] at hf
  cases ht : Fl.told b
  · have h1 : (Fl.bits b != b) = true := by simpa [Fl.told] using ht
    simp only [Bool.false_eq_true, if_false]
    clear ht
    go_enter Tryz.func167, Tryz.ntmps167
    go_wp2_with (go_at_call 140; refine (bits_any _ _).mono ?_; rintro e w' ⟨rfl, rfl⟩)
    go_ret2
    exact ⟨rfl, rfl⟩
  · have h1 : (Fl.bits b != b) = false := by simpa [Fl.told] using ht
    simp only [if_true]
    clear ht
    go_enter Tryz.func167, Tryz.ntmps167
    go_wp2_with (go_at_call 140; refine (bits_any _ _).mono ?_; rintro e w' ⟨rfl, rfl⟩)
    go_ret2
    exact ⟨rfl, rfl⟩

theorem same_any (a b : Nat) (w : World) : Calls Tryz.prog 133 #[.float .f64 a, .float .f64 b] w fun e w' => e = .returned (.bool (Fl.same a b)) ∧ w = w' := by
  go_enter Tryz.func133, Tryz.ntmps133
  go_wp2_with (go_at_call 140; refine (bits_any _ _).mono ?_; rintro e w' ⟨rfl, rfl⟩)
  go_ret
  exact ⟨congrArg (fun b => Ending.returned (.bool b)) (Fl.same_cast a b), rfl⟩

end Go.Proofs.YtgenmebmdpnjhaaGreat

namespace Go.Proofs.YtgenmebmdpnjhaaGreat
open Go.RowKit

/-- Of the blocks that were there only those in S may have turned. -/
structure Kept (S : Nat → Prop) (w w' : World) : Prop where
  os : w'.os = w.os
  tape : w'.tape = w.tape
  output : w'.output = w.output
  size : w.heap.size ≤ w'.heap.size
  block : ∀ k, k < w.heap.size → ¬ S k → w'.heap[k]? = w.heap[k]?

theorem Kept.refl (S : Nat → Prop) (w : World) : Kept S w w := ⟨rfl, rfl, rfl, Nat.le_refl _, fun _ _ _ => rfl⟩
theorem Kept.trans {S T : Nat → Prop} {a b c : World} (h : Kept S a b) (k : Kept T b c) (hT : ∀ i, i < a.heap.size → T i → S i) : Kept S a c :=
  ⟨k.os.trans h.os, k.tape.trans h.tape, k.output.trans h.output, Nat.le_trans h.size k.size, fun i hi hs => (k.block i (Nat.lt_of_lt_of_le hi h.size) (fun t => hs (hT i hi t))).trans (h.block i hi hs)⟩
/-- Two steps of one kind. -/
theorem Kept.then {S : Nat → Prop} {a b c : World} (h : Kept S a b) (k : Kept S b c) : Kept S a c := h.trans k fun _ _ h => h
theorem Kept.mono {S T : Nat → Prop} {a b : World} (h : Kept S a b) (hT : ∀ i, i < a.heap.size → S i → T i) : Kept T a b :=
  ⟨h.os, h.tape, h.output, h.size, fun i hi hs => h.block i hi (fun t => hs (hT i hi t))⟩
theorem Kept.alloc (S : Nat → Prop) (w : World) (o : Obj) : Kept S w (w.alloc o) :=
  ⟨rfl, rfl, rfl, by simp, fun k hk _ => Below.heap_alloc _ _ _ hk⟩
theorem Kept.setCell {S : Nat → Prop} (w : World) (p : Addr) (hp : S p.block) (u : Value) : Kept S w (w.setCell p u) :=
  ⟨rfl, rfl, rfl, by simp [World.setCell], fun k _ hs => Below.heap_setCell _ _ _ _ (fun e => hs (e ▸ hp))⟩
theorem Kept.drewN (S : Nat → Prop) (w : World) (n : Nat) : Kept S w (w.drewN n) := ⟨rfl, rfl, rfl, Nat.le_refl _, fun _ _ _ => rfl⟩
theorem Kept.cell {S : Nat → Prop} {w w' : World} (h : Kept S w w') {p : Addr} (hp : p.block < w.heap.size) (hs : ¬ S p.block) : w'.cell? p = w.cell? p := World.cell?_of_block (w := w) (h.block p.block hp hs)
theorem Kept.frozen {S : Nat → Prop} {w w' : World} (h : Kept S w w') {p : Addr} (hp : p.block < w.heap.size) (hs : ¬ S p.block) : w'.frozen? p = w.frozen? p := World.frozen?_of_block (w := w) (h.block p.block hp hs)
theorem Kept.below {S : Nat → Prop} {w w' : World} (h : Kept S w w') {B : Nat} (hB : B ≤ w.heap.size) (hs : ∀ k, k < B → ¬ S k) : Below B w w' :=
  ⟨h.os, h.tape, h.output, h.size, fun k hk => h.block k (Nat.lt_of_lt_of_le hk hB) (hs k hk)⟩
/-- What turned nothing that was there. -/
theorem Kept.ofBelow {S : Nat → Prop} {w w' : World} (h : Below w.heap.size w w') : Kept S w w' :=
  ⟨h.os, h.tape, h.output, h.size, fun k hk _ => h.block k hk⟩
theorem Kept.ofBelow' {S : Nat → Prop} {w w' : World} {B : Nat} (h : Below B w w') (hs : ∀ k, B ≤ k → S k) : Kept S w w' :=
  ⟨h.os, h.tape, h.output, h.size, fun k _ hk => h.block k (Nat.lt_of_not_le fun hb => hk (hs k hb))⟩

/-- A cell that is there lies in a block that is there. -/
theorem cell_lt {w : World} {p : Addr} {v : Value} (h : w.cell? p = some v) : p.block < w.heap.size := World.block_lt_of_cell? w _ h

end Go.Proofs.YtgenmebmdpnjhaaGreat

namespace Go.Proofs.YtgenmebmdpnjhaaGreat
open Go.RowKit Go.ChangeShapes

theorem pick_emod (n m : Int) (hm : 1 ≤ m) : (if n.tmod m < 0 then n.tmod m + m else n.tmod m) = n % m := by
  have e := Int.mul_tdiv_add_tmod n m
  have h1 : n.tmod m < m := Int.tmod_lt_of_pos n (by omega)
  have h2 : -m < n.tmod m := by
    have := Int.tmod_lt_of_pos (-n) (b := m) (by omega); rw [Int.neg_tmod] at this; omega
  split
  · refine ((Int.ediv_emod_unique (a := n) (b := m) (r := n.tmod m + m) (q := n.tdiv m - 1) (by omega)).2 ⟨?_, by omega, by omega⟩).2.symm
    rw [Int.mul_sub, Int.mul_one]; omega
  · exact ((Int.ediv_emod_unique (a := n) (b := m) (r := n.tmod m) (q := n.tdiv m) (by omega)).2 ⟨by omega, by omega, by omega⟩).2.symm

theorem pick_any (n m : Int) (hm : 1 ≤ m) (hm2 : m ≤ 4611686018427387904) (w : World) : Calls Tryz.prog 17 #[.int .i64 n, .int .i64 m] w fun e w' => e = .returned (.int .i64 (n % m)) ∧ w = w' := by
  have h1 : n.tmod m < m := Int.tmod_lt_of_pos n (by omega)
  have h2 : -m < n.tmod m := by
    have := Int.tmod_lt_of_pos (-n) (b := m) (by omega); rw [Int.neg_tmod] at this; omega
  have hp := pick_emod n m hm
  have hd : ¬ m < 1 := by omega
  have hz : m ≠ 0 := by omega
  by_cases h : n.tmod m < 0
  · rw [if_pos h] at hp
    rw [← hp]
    clear hp
    go_enter Tryz.func17, Tryz.ntmps17
    go_wp2
    go_ret
    exact ⟨rfl, rfl⟩
  · rw [if_neg h] at hp
    rw [← hp]
    clear hp
    go_enter Tryz.func17, Tryz.ntmps17
    go_wp2
    go_ret
    exact ⟨rfl, rfl⟩

/-- A row of numbers, below block B: what a Feed draws from. -/
def Draws (B : Nat) (w : World) (a : Option Addr) (n : Nat) : Prop :=
  n ≤ 9223372036854775807 ∧ (0 < n → ∃ rb ro, a = some ⟨rb, ro, none⟩ ∧ rb < B ∧ ∀ i, i < n → ∃ x : Int, w.cell? ⟨rb, ro + i, none⟩ = some (.int .i64 x))

/-- Block b is a Feed, not younger than B, from which at most a numbers were drawn. -/
def IsFeed (B : Nat) (w : World) (b a : Nat) : Prop :=
  B ≤ b ∧ ∃ (L : Option Addr) (n cap k : Nat), k ≤ a ∧ w.cell? ⟨b, 0, none⟩ = some (.slice L n cap) ∧ w.cell? ⟨b, 1, none⟩ = some (.int .i64 (k : Int)) ∧ w.frozen? ⟨b, 1, none⟩ = false ∧ Draws B w L n

theorem Draws.kept {B : Nat} {w w' : World} {L : Option Addr} {n : Nat} {S : Nat → Prop} (h : Draws B w L n) (k : Kept S w w') (hB : B ≤ w.heap.size) (hs : ∀ i, i < B → ¬ S i) : Draws B w' L n := by
  refine ⟨h.1, fun hn => ?_⟩
  obtain ⟨rb, ro, e, hrb, hc⟩ := h.2 hn
  refine ⟨rb, ro, e, hrb, fun i hi => ?_⟩
  obtain ⟨x, hx⟩ := hc i hi
  exact ⟨x, by rw [k.cell (p := ⟨rb, ro + i, none⟩) (Nat.lt_of_lt_of_le hrb hB) (hs _ hrb)]; exact hx⟩

theorem IsFeed.lt {B : Nat} {w : World} {b a : Nat} (h : IsFeed B w b a) : b < w.heap.size := by
  obtain ⟨_, L, n, cap, k, _, h0, _⟩ := h
  exact cell_lt h0

/-- A Feed stays one where neither it nor what is below B turns. -/
theorem IsFeed.kept {B : Nat} {w w' : World} {b a : Nat} {S : Nat → Prop} (h : IsFeed B w b a) (k : Kept S w w') (hb : ¬ S b) (hs : ∀ i, i < B → ¬ S i) : IsFeed B w' b a := by
  have hlt := h.lt
  obtain ⟨hB, L, n, cap, q, hq, h0, h1, hf, hd⟩ := h
  exact ⟨hB, L, n, cap, q, hq, by rw [k.cell (p := ⟨b, 0, none⟩) hlt hb]; exact h0, by rw [k.cell (p := ⟨b, 1, none⟩) hlt hb]; exact h1, by rw [k.frozen (p := ⟨b, 1, none⟩) hlt hb]; exact hf, hd.kept k (by omega) hs⟩
theorem IsFeed.below {B : Nat} {w w' : World} {b a : Nat} (h : IsFeed B w b a) (k : Below w.heap.size w w') : IsFeed B w' b a :=
  h.kept (S := fun _ => False) (Kept.ofBelow k) id fun _ _ => id
theorem IsFeed.more {B : Nat} {w : World} {b a a' : Nat} (h : IsFeed B w b a) (ha : a ≤ a') : IsFeed B w b a' := by
  obtain ⟨hB, L, n, cap, q, hq, r⟩ := h
  exact ⟨hB, L, n, cap, q, Nat.le_trans hq ha, r⟩

/-- What Next tells: a number below n; the Feed is one still. -/
def NextPost (B b a : Nat) (n : Int) (w : World) (e : Ending) (w' : World) : Prop :=
  ∃ k : Nat, (k : Int) < n ∧ e = .returned (.int .i64 (k : Int)) ∧ IsFeed B w' b (a + 1) ∧ Kept (· = b) w w' ∧ w'.heap.size = w.heap.size

theorem next_ends {B b a : Nat} {n z : Int} {w : World} {rb ro len cap k nq : Nat} (hB : B ≤ b) (hk : k ≤ a) (h0 : w.cell? ⟨b, 0, none⟩ = some (.slice (some ⟨rb, ro, none⟩) len cap)) (h1 : w.cell? ⟨b, 1, none⟩ = some (.int .i64 (k : Int)))
    (hz : w.frozen? ⟨b, 1, none⟩ = false) (hl : len ≤ 9223372036854775807) (hrb : rb < B) (hc : ∀ i, i < len → ∃ x : Int, w.cell? ⟨rb, ro + i, none⟩ = some (.int .i64 x)) (hy : 0 ≤ z) (hy2 : z < n) :
    NextPost B b a n w (.returned (.int .i64 z)) ((w.drewN nq).setCell ⟨b, 1, none⟩ (.int .i64 ((k : Int) + 1))) := by
  have hlt : b < w.heap.size := cell_lt h1
  have K1 : Kept (· = b) w ((w.drewN nq).setCell ⟨b, 1, none⟩ (.int .i64 ((k : Int) + 1))) := (Kept.drewN _ w nq).then (Kept.setCell (S := (· = b)) _ ⟨b, 1, none⟩ rfl _)
  refine ⟨z.toNat, by omega, by rw [Int.toNat_of_nonneg hy], ⟨hB, some ⟨rb, ro, none⟩, len, cap, k + 1, by omega, ?_, ?_, ?_, ?_⟩, K1, by simp [World.setCell, World.drewN]⟩
  · rw [World.cell?_setCell_other _ _ _ _ (by simp)]
    exact h0
  · have hs := World.cell?_setCell_same (w.drewN nq) ⟨b, 1, none⟩ (v := .int .i64 ((k : Int) + 1)) (u := .int .i64 (k : Int)) h1
    rw [hs]
    rfl
  · rw [World.frozen?_setCell]
    exact hz
  · exact Draws.kept (w := w) ⟨hl, fun _ => ⟨rb, ro, rfl, hrb, hc⟩⟩ K1 (by omega) (by intro i hi e; omega)

set_option maxHeartbeats 1000000 in
theorem next_any {B b a : Nat} (n : Int) (hn : 1 ≤ n) (hn2 : n ≤ 4611686018427387904) (w : World) (ha : a < 4611686018427387904) (hf : IsFeed B w b a) :
    Calls Tryz.prog 20 #[.pointer (some ⟨b, 0, none⟩), .int .i64 n] w (NextPost B b a n w) := by
  have hF := hf
  obtain ⟨hB, L, len, cap, k, hk, h0, h1, hz, hl, hd⟩ := hf
  by_cases he : len = 0
  · subst he
    clear hd
    have HF := Lib.hid hF
    clear hF
    go_enter Tryz.func20, Tryz.ntmps20
    go_wp2
    go_ret
    exact ⟨0, by omega, rfl, HF.out.more (by omega), Kept.refl _ _, rfl⟩
  · obtain ⟨rb, ro, rfl, hrb, hc⟩ := hd (by omega)
    obtain ⟨x, hx⟩ := hc (k % len) (Nat.mod_lt _ (by omega))
    have HC := Lib.hid hc
    clear hc hd
    have HF := Lib.hid hF
    clear hF
    have e1 : ((k : Int)).tmod (len : Int) = ((k % len : Nat) : Int) := by rw [Int.tmod_eq_emod_of_nonneg (by omega)]; rfl
    have e2 : ((k : Int)).tdiv (len : Int) = ((k / len : Nat) : Int) := by rw [Int.tdiv_eq_ediv_of_nonneg (by omega)]; rfl
    have hm := Nat.mod_lt k (show 0 < len by omega)
    have hq : k / len ≤ k := Nat.div_le_self _ _
    have e0 : ((k % len : Nat) : Int) = (k : Int) % (len : Int) := rfl
    have e3 : ((k / len : Nat) : Int) = (k : Int) / (len : Int) := rfl
    generalize k % len = r at e1 hm hx e0
    generalize k / len = q at e2 hq e3
    clear e0 e3
    have l0 : ((len : Int) == 0) = false := by rw [beq_eq_false_iff_ne]; omega
    go_enter Tryz.func20, Tryz.ntmps20
    go_wp2
    have hw : IntKind.i64.wrap (1 + ((q : Nat) : Int)) = 1 + ((q : Nat) : Int) := IntWalk.i64_in _ (by omega)
    have l1 : ((1 + ((q : Nat) : Int)) == 0) = false := by rw [beq_eq_false_iff_ne]; omega
    go_quiet (fail)
    clear hw l1
    go_wp2_with fail
    generalize wrap64 (wrap64 (x.tdiv (1 + (q : Int))) + (q : Int)) = y
    refine (pick_any y n hn hn2 _).mono ?_
    rintro e w' ⟨rfl, rfl⟩
    have hy := Int.emod_nonneg y (show n ≠ 0 by omega)
    have hy2 := Int.emod_lt_of_pos y (show 0 < n by omega)
    generalize y % n = z at hy hy2
    clear hx e1 e2 l0 hq hm he
    go_wp2_with fail
    go_ret
    exact next_ends hB hk h0 h1 hz hl hrb HC.out hy hy2

/-- A row that came in is one to draw from. -/
def IsRow (k : IntKind) (w : World) (a : Option Addr) (len cap : Nat) (zs : List Int) : Prop :=
  (a = none ∧ len = 0 ∧ cap = 0 ∧ zs = []) ∨
  ∃ x, a = some x ∧ len ≤ cap ∧ cap ≤ maxLen ∧ zs.length = cap ∧ (∀ i, i < zs.length → w.cell? (x.add i) = some (.int k (zs.getD i 0))) ∧ ∀ n ∈ zs, (Lit.int k n).wf = true

theorem IsRow.draws {w : World} {a : Option Addr} {len cap : Nat} {zs : List Int} (h : IsRow .i64 w a len cap zs) : Draws w.heap.size w a len := by
  rcases h with ⟨rfl, rfl, rfl, rfl⟩ | ⟨x, rfl, hl, hm, hz, hc, _⟩
  · exact ⟨by omega, fun h => by omega⟩
  · refine ⟨by unfold maxLen at hm; omega, fun hn => ?_⟩
    obtain ⟨b, off, rfl, hc'⟩ := ints_at hc (by omega)
    refine ⟨b, off, rfl, cell_lt (hc' 0 (by omega)), fun i hi => ⟨_, hc' i (by omega)⟩⟩

/-- A new Feed. -/
theorem feed_new {w : World} {a : Option Addr} {len cap : Nat} (h : Draws w.heap.size w a len) (t : TypeId) : IsFeed w.heap.size (w.alloc (.cells #[.slice a len cap, .int .i64 0] t)) w.heap.size 0 := by
  refine ⟨Nat.le_refl _, a, len, cap, 0, Nat.le_refl _, by simp, by simp, by simp, ?_⟩
  exact h.kept (S := fun _ => False) (Kept.alloc _ w _) (Nat.le_refl _) (fun _ _ => id)

end Go.Proofs.YtgenmebmdpnjhaaGreat

namespace Go.Proofs.YtgenmebmdpnjhaaGreat
open Go.RowKit

theorem nan_any (w : World) : Calls Tryz.prog 149 #[] w fun e w' => e = .returned (.float .f64 9221120237041090561) ∧ w = w' := by
  have hf := frombits_run 9221120237041090561
  go_enter Tryz.func149, Tryz.ntmps149
  go_wp2
  go_ret
  exact ⟨rfl, rfl⟩
theorem inf_up (w : World) : Calls Tryz.prog 150 #[.int .i64 1] w fun e w' => e = .returned (.float .f64 9218868437227405312) ∧ w = w' := by
  have hf := frombits_run 9218868437227405312
  go_enter Tryz.func150, Tryz.ntmps150
  go_wp2
  go_ret
  exact ⟨rfl, rfl⟩
theorem inf_down (w : World) : Calls Tryz.prog 150 #[.int .i64 (-1)] w fun e w' => e = .returned (.float .f64 18442240474082181120) ∧ w = w' := by
  have hf := frombits_run 18442240474082181120
  go_enter Tryz.func150, Tryz.ntmps150
  go_wp2
  go_ret
  exact ⟨rfl, rfl⟩
/-- -0. -/
theorem copysign_zero (w : World) : Calls Tryz.prog 148 #[.float .f64 0, .float .f64 13830554455654793216] w fun e w' => e = .returned (.float .f64 9223372036854775808) ∧ w = w' := by
  have h1 := tobits_run 0
  have h2 := tobits_run 13830554455654793216
  have hf := frombits_run 9223372036854775808
  have b1 : bits BinOp.andNot IntKind.u64 0 9223372036854775808 = 0 := by decide
  have b2 : bits BinOp.and IntKind.u64 13830554455654793216 9223372036854775808 = 9223372036854775808 := by decide
  have b3 : bits BinOp.or IntKind.u64 0 9223372036854775808 = 9223372036854775808 := by decide
  go_enter Tryz.func148, Tryz.ntmps148
  go_wp2
  go_ret
  exact ⟨rfl, rfl⟩

/-- A float is one cell. -/
theorem store_float (a : Addr) (x : Nat) (w : World) : (store a (.float .f64 x)).run Tryz.prog w = stored Tryz.prog w a (.float .f64 x) .plain := run_store Tryz.prog w a _ .plain rfl

/-- What Feed.Float tells: some float. -/
def FloatPost (B b a : Nat) (w : World) (e : Ending) (w' : World) : Prop :=
  ∃ x : Nat, x < 2 ^ 64 ∧ e = .returned (.float .f64 x) ∧ IsFeed B w' b (a + 1) ∧ Kept (· = b) w w'

theorem feedfloat_any {B b a : Nat} (w : World) (ha : a < 4611686018427387904) (hf : IsFeed B w b a) :
    Calls Tryz.prog 130 #[.pointer (some ⟨b, 0, none⟩)] w (FloatPost B b a w) := by
  have hlt := hf.lt
  have HF := Lib.hid hf
  clear hf
  have hst := store_float
  go_enter Tryz.func130, Tryz.ntmps130
  go_wp2_with (first | (go_at_call 149; refine (nan_any _).mono ?_; rintro e w' ⟨rfl, rfl⟩) | (go_at_call 148; refine (copysign_zero _).mono ?_; rintro e w' ⟨rfl, rfl⟩) | (go_at_call_of 150 (Value.int .i64 1); refine (inf_up _).mono ?_; rintro e w' ⟨rfl, rfl⟩))
  refine (inf_down _).mono ?_
  rintro e w' ⟨rfl, rfl⟩
  go_wp2_with fail
  refine (next_any 14 (by omega) (by omega) _ ha (B := B) ?_).mono ?_
  · exact HF.out.below ((Below.refl _ _).alloc (Nat.le_refl _) _)
  rintro e w' ⟨k, hk, rfl, hF, hK, hs⟩
  have hK2 : Kept (· = b) w w' := (Kept.alloc _ w _).then hK
  obtain ⟨x, hx, hcell⟩ : ∃ x : Nat, x < 2 ^ 64 ∧ w'.cell? ⟨w.heap.size, k, none⟩ = some (.float .f64 x) := by
    have hc := hK.cell (p := ⟨w.heap.size, k, none⟩) (by simp) (by show ¬ w.heap.size = b; omega)
    rw [World.cell?_alloc_new] at hc
    have : k < 14 := by omega
    match k, this with
    | 0, _ | 1, _ | 2, _ | 3, _ | 4, _ | 5, _ | 6, _ | 7, _ | 8, _ | 9, _ | 10, _ | 11, _ | 12, _ | 13, _ => exact ⟨_, by decide, hc⟩
  have HF2 := Lib.hid hF
  have HK2 := Lib.hid hK2
  clear hF hK hK2 hs hst HF
  have hk0 : k < 14 := by omega
  go_wp2_with fail
  go_ret
  exact ⟨x, hx, rfl, HF2.out, HK2.out⟩

end Go.Proofs.YtgenmebmdpnjhaaGreat

namespace Go.Proofs.YtgenmebmdpnjhaaGreat
open Go.RowKit

/-- A value of package api: Kind, N, X, S, B. -/
structure Val where
  k : Int
  n : Int
  x : Nat
  s : ByteArray
  b : Bool

abbrev vl (k n : Int) (x : Nat) (s : ByteArray) (b : Bool) : Value := .agg #[.int .i64 k, .int .i64 n, .float .f64 x, .string s, .bool b]

namespace Vl
/-- Texts by their bytes. -/
def txt (a b : ByteArray) : Int := if Op.bytesLess a.toList b.toList then -1 else if a.toList == b.toList then 0 else 1
/-- false below true. -/
def bl (a b : Bool) : Int := if a == b then 0 else if b then -1 else 1
def cmp (a b : Val) : Int :=
  if a.k = 1 ∧ b.k = 1 then Fl.sgn a.n b.n
  else if a.k = 1 ∧ b.k = 2 then Fl.cmpInt a.n b.x
  else if a.k = 2 ∧ b.k = 1 then -Fl.cmpInt b.n a.x
  else if a.k = 2 ∧ b.k = 2 then Fl.cmp a.x b.x
  else if a.k = 3 ∧ b.k = 3 then txt a.s b.s
  else if a.k = 4 ∧ b.k = 4 then bl a.b b.b
  else 0
def ok (a b : Val) : Bool :=
  if a.k = 1 ∧ b.k = 1 then true
  else if a.k = 1 ∧ b.k = 2 then !Fl.nan b.x
  else if a.k = 2 ∧ b.k = 1 then !Fl.nan a.x
  else if a.k = 2 ∧ b.k = 2 then Fl.cmpOk a.x b.x
  else if a.k = 3 ∧ b.k = 3 then true
  else if a.k = 4 ∧ b.k = 4 then true
  else false
def is (a b : Val) : Bool := ok a b && decide (cmp a b = 0)
def same (a b : Val) : Bool := decide (a.k = b.k) && decide (a.n = b.n) && Fl.same a.x b.x && (a.s.toList == b.s.toList) && (a.b == b.b)
/-- A float at 0. -/
def zx (x : Nat) : Bool := decide (FloatKind.f64.format.order x 0 = some .eq)
def zs (s : ByteArray) : Bool := decide (s.toList = [])
def right (a : Val) : Bool :=
  if a.k = 1 then zx a.x && zs a.s && !a.b
  else if a.k = 2 then decide (a.n = 0) && zs a.s && !a.b
  else if a.k = 3 then decide (a.n = 0) && zx a.x && !a.b && decide (a.s.size ≤ 12)
  else if a.k = 4 then decide (a.n = 0) && zx a.x && zs a.s
  else false
theorem less_irrefl : ∀ l : List UInt8, Op.bytesLess l l = false
  | [] => rfl
  | a :: l => by simp [Op.bytesLess, less_irrefl l]
theorem size_nil {s : ByteArray} (h : s.toList = []) : s.size = 0 := by
  have : s.toList.length = s.size := by rw [ByteArray.toList_eq]; cases s; rfl
  rw [h] at this
  exact this.symm
end Vl

theorem vint_any (n : Int) (w : World) : Calls Tryz.prog 159 #[.int .i64 n] w fun e w' => e = .returned (vl 1 n 0 ⟨#[]⟩ false) ∧ Below w.heap.size w w' := by
  have hst := store_float
  go_enter Tryz.func159, Tryz.ntmps159
  go_wp2
  refine bodyPost_ret (results_cell_row rfl _ _ _ _ _ _ _ rfl (heap_alloc_new _ _) Tryz.underlying64 rfl (by kernel_rfl)) rfl ?_
  exact ⟨rfl, (Below.refl _ _).alloc (Nat.le_refl _) _⟩
theorem vfloat_any (x : Nat) (w : World) : Calls Tryz.prog 161 #[.float .f64 x] w fun e w' => e = .returned (vl 2 0 x ⟨#[]⟩ false) ∧ Below w.heap.size w w' := by
  have hst := store_float
  go_enter Tryz.func161, Tryz.ntmps161
  go_wp2
  refine bodyPost_ret (results_cell_row rfl _ _ _ _ _ _ _ rfl (heap_alloc_new _ _) Tryz.underlying64 rfl (by kernel_rfl)) rfl ?_
  exact ⟨rfl, (Below.refl _ _).alloc (Nat.le_refl _) _⟩
theorem vtext_any (s : ByteArray) (w : World) : Calls Tryz.prog 163 #[.string s] w fun e w' => e = .returned (vl 3 0 0 s false) ∧ Below w.heap.size w w' := by
  have hst := store_float
  go_enter Tryz.func163, Tryz.ntmps163
  go_wp2
  refine bodyPost_ret (results_cell_row rfl _ _ _ _ _ _ _ rfl (heap_alloc_new _ _) Tryz.underlying64 rfl (by kernel_rfl)) rfl ?_
  exact ⟨rfl, (Below.refl _ _).alloc (Nat.le_refl _) _⟩
theorem vbool_any (b : Bool) (w : World) : Calls Tryz.prog 64 #[.bool b] w fun e w' => e = .returned (vl 4 0 0 ⟨#[]⟩ b) ∧ Below w.heap.size w w' := by
  have hst := store_float
  go_enter Tryz.func64, Tryz.ntmps64
  go_wp2
  refine bodyPost_ret (results_cell_row rfl _ _ _ _ _ _ _ rfl (heap_alloc_new _ _) Tryz.underlying64 rfl (by kernel_rfl)) rfl ?_
  exact ⟨rfl, (Below.refl _ _).alloc (Nat.le_refl _) _⟩

namespace Vl
/-- The pairs of Kinds. -/
inductive Ways (a b : Int) : Prop where
  | ii (ha : a = 1) (hb : b = 1)
  | ix (ha : a = 1) (hb : b = 2)
  | xi (ha : a = 2) (hb : b = 1)
  | xx (ha : a = 2) (hb : b = 2)
  | ss (ha : a = 3) (hb : b = 3)
  | bb (ha : a = 4) (hb : b = 4)
  | ino (ha : a = 1) (h1 : ¬ b = 1) (h2 : ¬ b = 2)
  | xno (ha : a = 2) (h1 : ¬ b = 1) (h2 : ¬ b = 2)
  | sno (ha : a = 3) (h1 : ¬ b = 3)
  | bno (ha : a = 4) (h1 : ¬ b = 4)
  | no (h1 : ¬ a = 1) (h2 : ¬ a = 2) (h3 : ¬ a = 3) (h4 : ¬ a = 4)
theorem ways (a b : Int) : Ways a b := by
  by_cases h1 : a = 1
  · by_cases g1 : b = 1
    · exact .ii h1 g1
    · by_cases g2 : b = 2
      · exact .ix h1 g2
      · exact .ino h1 g1 g2
  · by_cases h2 : a = 2
    · by_cases g1 : b = 1
      · exact .xi h2 g1
      · by_cases g2 : b = 2
        · exact .xx h2 g2
        · exact .xno h2 g1 g2
    · by_cases h3 : a = 3
      · by_cases g : b = 3
        · exact .ss h3 g
        · exact .sno h3 g
      · by_cases h4 : a = 4
        · by_cases g : b = 4
          · exact .bb h4 g
          · exact .bno h4 g
        · exact .no h1 h2 h3 h4
end Vl

theorem two_new (w : World) (A B : Obj) : Below w.heap.size w ((w.alloc A).alloc B) := ((Below.refl _ _).alloc (Nat.le_refl _) _).alloc (by simp) _
theorem Vl.cmpInt_range (n : Int) (x : Nat) : -1 ≤ Fl.cmpInt n x ∧ Fl.cmpInt n x ≤ 1 := by
  unfold Fl.cmpInt Fl.sgn
  split
  · omega
  · split
    · omega
    · split <;> omega

end Go.Proofs.YtgenmebmdpnjhaaGreat
