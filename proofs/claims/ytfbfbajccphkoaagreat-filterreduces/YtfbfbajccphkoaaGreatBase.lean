/- Base: Fl, Kept, Later, Held, Movers, Split, Float, Hand, Math, OwnRow, Wide in one text. -/
import Ieee.Arith
import Derived.Test.YtfbfbajccphkoaaGreatChecked
import Derived.WalkKit
import Derived.WalkLawsBesides
import Derived.Lib.Hide
import Derived.Below
import Derived.IntWalk
import Derived.Deep.QuietTactic
import Derived.BigQuiet
import Derived.OpenShut
import Derived.Deep.RegionWith
import Derived.Lib.FrozenHead2
import Derived.KernelRfl
import Derived.Laws.CopyOwn
import Derived.Laws.OwnMore
import Derived.OwnWalk
import Derived.Laws.AppendOwn
import Derived.Deep.RegionHeld
import Derived.BigFrame
namespace Go.Proofs.YtfbfbajccphkoaaGreat
namespace Fl
open Ieee

def bin : Nat := 2 ^ 52
def inf : Nat := 2047 * 2 ^ 52
def sw : Nat := 2 ^ 63

theorem d_bin : double.binade = bin := rfl
theorem d_inf : double.infRung = inf := by decide
theorem d_sw : double.signWeight = sw := by decide
theorem d_lp : double.leastPlace = -1074 := by decide

/-- A rung's magnitude, in units of 2^-1074; of the rung of infinity one beyond all others. -/
def K (r : Nat) : Nat := if r < bin then r else (bin + r % bin) * 2 ^ (r / bin - 1)

theorem bin_pos : 0 < bin := by decide

theorem K_succ (r : Nat) : K r < K (r + 1) := by
  unfold K
  by_cases h : r + 1 < bin
  · rw [if_pos (by omega), if_pos h]; omega
  by_cases h0 : r + 1 = bin
  · rw [if_pos (by omega), if_neg (by omega), h0, Nat.mod_self, Nat.div_self bin_pos]; simp; omega
  have hr : ¬ r < bin := by omega
  rw [if_neg hr, if_neg h]
  have q1 : 1 ≤ r / bin := (Nat.one_le_div_iff bin_pos).2 (by omega)
  have hm := Nat.mod_lt r bin_pos
  by_cases hc : r % bin + 1 < bin
  · have e1 : (r + 1) % bin = r % bin + 1 := by rw [Nat.add_mod, Nat.mod_eq_of_lt (a := 1) (by decide), Nat.mod_eq_of_lt hc]
    have e2 : (r + 1) / bin = r / bin := by
      have a := Nat.div_add_mod r bin
      have b := Nat.div_add_mod (r + 1) bin
      rw [e1] at b
      have : bin * (r / bin) = bin * ((r + 1) / bin) := by omega
      exact (Nat.eq_of_mul_eq_mul_left bin_pos this).symm
    rw [e1, e2]
    exact Nat.mul_lt_mul_of_pos_right (by omega) (Nat.two_pow_pos _)
  · have e0 : r % bin + 1 = bin := by omega
    have e1 : (r + 1) = bin * (r / bin + 1) := by
      have a := Nat.div_add_mod r bin
      rw [Nat.mul_add]; omega
    have e2 : (r + 1) % bin = 0 := by rw [e1]; exact Nat.mul_mod_right _ _
    have e3 : (r + 1) / bin = r / bin + 1 := by rw [e1]; exact Nat.mul_div_cancel_left _ bin_pos
    rw [e2, e3]
    have : 2 ^ (r / bin + 1 - 1) = 2 * 2 ^ (r / bin - 1) := by
      rw [show r / bin + 1 - 1 = (r / bin - 1) + 1 by omega, Nat.pow_succ, Nat.mul_comm]
    rw [this, Nat.add_zero, ← Nat.mul_assoc]
    exact Nat.mul_lt_mul_of_pos_right (by omega) (Nat.two_pow_pos _)

theorem K_lt {r s : Nat} (h : r < s) : K r < K s := by
  induction s with
  | zero => omega
  | succ s ih =>
    by_cases e : r = s
    · subst e; exact K_succ r
    · exact Nat.lt_trans (ih (by omega)) (K_succ s)

theorem K_zero : K 0 = 0 := by decide
theorem K_inj {r s : Nat} (h : K r = K s) : r = s := by
  rcases Nat.lt_trichotomy r s with h1 | h1 | h1
  · have := K_lt h1; omega
  · exact h1
  · have := K_lt h1; omega

def rung (x : Nat) : Nat := x % sw
def neg (x : Nat) : Bool := x / sw % 2 == 1
def nan (x : Nat) : Bool := decide (inf < rung x)
/-- The number, in units of 2^-1074. -/
def Z (x : Nat) : Int := if neg x then -(K (rung x) : Int) else K (rung x)

theorem read_nan {x : Nat} (h : nan x = true) : ∃ s t, double.read x = .nan s t := by
  have h' : inf < x % sw := of_decide_eq_true h
  have : bin < inf := by decide
  refine ⟨neg x, x % sw - inf, ?_⟩
  unfold Format.read
  simp only [d_bin, d_inf, d_sw]
  rw [if_neg (by omega), if_neg (by omega), if_neg (by omega)]
  rfl

theorem read_inf {x : Nat} (h : rung x = inf) : double.read x = .infinity (neg x) := by
  have h' : x % sw = inf := h
  have : bin < inf := by decide
  unfold Format.read
  simp only [d_bin, d_inf, d_sw]
  rw [if_neg (by omega), if_neg (by omega), if_pos h']
  rfl

/-- A finite word: its digits and its place; the place is never below the least. -/
theorem read_num {x : Nat} (h : rung x < inf) : ∃ (m : Nat) (e : Nat), double.read x = .number (neg x) m (-1074 + (e : Int)) ∧ m * 2 ^ e = K (rung x) ∧ m < 2 * bin ∧ e ≤ 2045 := by
  have h' : x % sw < inf := h
  unfold Format.read
  simp only [d_bin, d_inf, d_sw, d_lp]
  by_cases hb : x % sw < bin
  · rw [if_pos hb]
    refine ⟨x % sw, 0, ?_, ?_, by omega, by omega⟩
    · simp [neg]
    · simp [K, rung, hb]
  · rw [if_neg hb, if_pos h']
    refine ⟨bin + x % sw % bin, x % sw / bin - 1, rfl, ?_, ?_, ?_⟩
    · simp [K, rung, hb]
    · have := Nat.mod_lt (x % sw) bin_pos; omega
    · have : x % sw / bin < 2047 := Nat.div_lt_of_lt_mul (by rw [Nat.mul_comm]; exact h')
      omega

theorem signed_scale (s : Bool) (m a b : Nat) : signed s m a * (2 ^ b : Nat) = if s then -((m * 2 ^ (a + b) : Nat) : Int) else ((m * 2 ^ (a + b) : Nat) : Int) := by
  unfold signed
  cases s <;> simp [Nat.shiftLeft_eq, Nat.pow_add, Int.mul_assoc, Int.neg_mul]

theorem compare_scale (a b : Int) (p : Nat) (hp : 0 < p) : compare (a * (p : Int)) (b * (p : Int)) = compare a b := by
  have hp' : (0 : Int) < p := by omega
  rcases Int.lt_trichotomy a b with h | h | h
  · rw [Int.compare_eq_lt.2 h, Int.compare_eq_lt.2 (Int.mul_lt_mul_of_pos_right h hp')]
  · subst h; rw [Int.compare_eq_eq.2 rfl, Int.compare_eq_eq.2 rfl]
  · rw [Int.compare_eq_gt.2 h, Int.compare_eq_gt.2 (Int.mul_lt_mul_of_pos_right h hp')]

theorem order_nan_l {x y : Nat} (h : nan x = true) : double.order x y = none := by
  obtain ⟨s, t, e⟩ := read_nan h
  simp [Format.order, e, Datum.order]

theorem order_nan_r {x y : Nat} (h : nan y = true) : double.order x y = none := by
  obtain ⟨s, t, e⟩ := read_nan h
  unfold Format.order
  rw [e]
  cases double.read x <;> rfl

theorem rung_le_of {x : Nat} (h : nan x = false) : rung x ≤ inf := by
  simpa [nan] using h

theorem compare_lt' {a b : Int} (h : a < b) : compare a b = .lt := Int.compare_eq_lt.2 h
theorem compare_gt' {a b : Int} (h : b < a) : compare a b = .gt := Int.compare_eq_gt.2 h

theorem order_num {x y : Nat} (hx : nan x = false) (hy : nan y = false) : double.order x y = some (compare (Z x) (Z y)) := by
  have hx' := rung_le_of hx
  have hy' := rung_le_of hy
  have kp : 0 < K inf := by have := K_lt (r := 0) (s := inf) (by decide); omega
  unfold Format.order Z
  by_cases ex : rung x = inf
  · rw [read_inf ex]
    by_cases ey : rung y = inf
    · rw [read_inf ey, ex, ey]
      simp only [Datum.order]
      generalize K inf = k at kp
      have c1 : compare (k : Int) (-(k : Int)) = .gt := compare_gt' (by omega)
      have c2 : compare (-(k : Int)) (k : Int) = .lt := compare_lt' (by omega)
      cases neg x <;> cases neg y <;> simp [c1, c2] <;> rfl
    · obtain ⟨m, e, hr, hm, _, _⟩ := read_num (x := y) (by omega)
      have kl : K (rung y) < K inf := K_lt (by omega)
      rw [hr, ex]
      simp only [Datum.order]
      cases neg x <;> cases neg y <;> simp <;> symm <;> first | exact compare_gt' (by omega) | exact compare_lt' (by omega)
  · obtain ⟨m, e, hr, hm, _, _⟩ := read_num (x := x) (by omega)
    have kx : K (rung x) < K inf := K_lt (by omega)
    by_cases ey : rung y = inf
    · rw [hr, read_inf ey, ey]
      simp only [Datum.order]
      cases neg x <;> cases neg y <;> simp <;> symm <;> first | exact compare_gt' (by omega) | exact compare_lt' (by omega)
    · obtain ⟨n, g, hs, hn, _, _⟩ := read_num (x := y) (by omega)
      rw [hr, hs]
      simp only [Datum.order]
      rw [← compare_scale _ _ (2 ^ (min e g)) (Nat.two_pow_pos _), signed_scale, signed_scale]
      have e1 : (-1074 + (e : Int) - min (-1074 + (e : Int)) (-1074 + (g : Int))).toNat + min e g = e := by omega
      have e2 : (-1074 + (g : Int) - min (-1074 + (e : Int)) (-1074 + (g : Int))).toNat + min e g = g := by omega
      rw [e1, e2, hm, hn]

/-! ### Whole parts -/

/-- One, in units of 2^-1074. -/
def P : Nat := 1074
def U : Nat := 2 ^ P
theorem P_is : P = 1074 := rfl
theorem U_pos : 0 < U := Nat.two_pow_pos _

theorem gap_div (n drop : Nat) : n / (1 <<< min drop (n.log2 + 2)) = n / 2 ^ drop ∧ n % (1 <<< min drop (n.log2 + 2)) = n % 2 ^ drop := by
  rw [Nat.shiftLeft_eq, Nat.one_mul]
  by_cases h : drop ≤ n.log2 + 2
  · rw [Nat.min_eq_left h]; exact ⟨rfl, rfl⟩
  · rw [Nat.min_eq_right (by omega)]
    have h1 : n < 2 ^ (n.log2 + 1) := Nat.lt_log2_self
    have h2 : n < 2 ^ (n.log2 + 2) := Nat.lt_of_lt_of_le h1 (Nat.pow_le_pow_right (by omega) (by omega))
    have h3 : n < 2 ^ drop := Nat.lt_of_lt_of_le h2 (Nat.pow_le_pow_right (by omega) (by omega))
    exact ⟨by rw [Nat.div_eq_of_lt h2, Nat.div_eq_of_lt h3], by rw [Nat.mod_eq_of_lt h2, Nat.mod_eq_of_lt h3]⟩

theorem cut_down (s : Bool) (n drop : Nat) : Toward.down.cut s n drop = n / 2 ^ drop + (s && n % 2 ^ drop != 0).toNat := by
  unfold Toward.cut
  simp only [(gap_div n drop).1, (gap_div n drop).2]

theorem cut_zero (s : Bool) (n drop : Nat) : Toward.zero.cut s n drop = n / 2 ^ drop := by
  unfold Toward.cut
  simp only [(gap_div n drop).1]
  rfl

theorem cut_even (s : Bool) (n drop : Nat) (h : n % 2 ^ drop = 0) : Toward.even.cut s n drop = n / 2 ^ drop := by
  unfold Toward.cut
  simp only [(gap_div n drop).1, (gap_div n drop).2, h]
  rw [Nat.shiftLeft_eq, Nat.one_mul]
  have := Nat.two_pow_pos (min drop (n.log2 + 2))
  have h1 : ¬ (2 ^ min drop (n.log2 + 2) < 2 * 0) := by omega
  have h2 : (2 ^ min drop (n.log2 + 2) == 2 * 0) = false := by
    rw [beq_eq_false_iff_ne]; omega
  simp [h2]

/-- What is above, and what is below, the point, of digits at a place. -/
theorem whole_parts (m e : Nat) : (m <<< (-1074 + (e : Int)).toNat) / 2 ^ (-(-1074 + (e : Int))).toNat = m * 2 ^ e / U ∧
    ((m <<< (-1074 + (e : Int)).toNat) % 2 ^ (-(-1074 + (e : Int))).toNat = 0 ↔ m * 2 ^ e % U = 0) := by
  rw [Nat.shiftLeft_eq]
  unfold U
  have hP := P_is
  generalize P = p at hP
  by_cases h : p ≤ e
  · have e1 : (-1074 + (e : Int)).toNat = e - p := by omega
    have e2 : (-(-1074 + (e : Int))).toNat = 0 := by omega
    have e3 : m * 2 ^ e = m * 2 ^ (e - p) * 2 ^ p := by rw [Nat.mul_assoc, ← Nat.pow_add, Nat.sub_add_cancel h]
    rw [e1, e2, e3, Nat.mul_div_cancel _ (Nat.two_pow_pos _), Nat.mul_mod_left, Nat.pow_zero, Nat.div_one, Nat.mod_one]
    exact ⟨rfl, Iff.rfl⟩
  · have e1 : (-1074 + (e : Int)).toNat = 0 := by omega
    have e2 : (-(-1074 + (e : Int))).toNat = p - e := by omega
    have e3 : (2 : Nat) ^ p = 2 ^ (p - e) * 2 ^ e := by rw [← Nat.pow_add, Nat.sub_add_cancel (by omega)]
    rw [e1, e2, e3, Nat.pow_zero, Nat.mul_one, Nat.mul_div_mul_right _ _ (Nat.two_pow_pos _), Nat.mul_mod_mul_right]
    refine ⟨rfl, ?_⟩
    rw [Nat.mul_eq_zero]
    have := Nat.two_pow_pos e
    omega

theorem rung_word (s : Bool) {r : Nat} (h : r < sw) : rung (double.word s r) = r ∧ neg (double.word s r) = s ∧ double.word s r < 2 ^ 64 := by
  unfold Format.word rung neg
  rw [d_sw]
  have hp : 0 < sw := by decide
  have h2 : 2 * sw = 2 ^ 64 := by decide
  cases s
  · simp only [Bool.false_eq_true, if_false]
    rw [Nat.mod_eq_of_lt h, Nat.div_eq_of_lt h]
    exact ⟨rfl, rfl, by omega⟩
  · simp only [if_true]
    rw [Nat.add_mod_left, Nat.mod_eq_of_lt h, Nat.add_div_left _ hp, Nat.div_eq_of_lt h]
    exact ⟨rfl, rfl, by omega⟩

/-- Whole numbers of at most 53 digits (noughts behind them apart) are written as they are. -/
theorem nearest_exact (s : Bool) (c k F : Nat) (hF : F = c * 2 ^ k) (hc : c < 2 * bin) (h0 : 0 < F) (h64 : F < 2 ^ 64) :
    ∃ r, double.nearest s F 0 = double.word s r ∧ K r = F * U ∧ r < inf := by
  have hL1 : 2 ^ F.log2 ≤ F := Nat.log2_self_le (by omega)
  have hL2 : F < 2 ^ (F.log2 + 1) := Nat.lt_log2_self
  have hL : F.log2 < 64 := (Nat.log2_lt (by omega)).2 h64
  have hdiv : F * 2 ^ (52 - F.log2) % 2 ^ (F.log2 - 52) = 0 := by
    by_cases h : F.log2 ≤ 52
    · rw [show F.log2 - 52 = 0 by omega, Nat.pow_zero, Nat.mod_one]
    · have hk : F.log2 - 52 ≤ k := by
        have h1 : 2 ^ F.log2 < 2 ^ (53 + k) := by
          have : c * 2 ^ k < 2 * bin * 2 ^ k := Nat.mul_lt_mul_of_pos_right hc (Nat.two_pow_pos _)
          have e : 2 * bin * 2 ^ k = 2 ^ (53 + k) := by rw [Nat.pow_add]; rfl
          omega
        have := (Nat.pow_lt_pow_iff_right (a := 2) (by omega)).1 h1
        omega
      have e : F = c * 2 ^ (k - (F.log2 - 52)) * 2 ^ (F.log2 - 52) := by rw [Nat.mul_assoc, ← Nat.pow_add, Nat.sub_add_cancel hk, ← hF]
      rw [show 52 - F.log2 = 0 by omega, Nat.pow_zero, Nat.mul_one]
      generalize F.log2 - 52 = d at e
      rw [e]
      exact Nat.mul_mod_left _ _
  generalize hg : F * 2 ^ (52 - F.log2) / 2 ^ (F.log2 - 52) = g
  have hmul : g * 2 ^ (F.log2 - 52) = F * 2 ^ (52 - F.log2) := by
    rw [← hg]; exact Nat.div_mul_cancel (Nat.dvd_of_mod_eq_zero hdiv)
  have hsum : g * 2 ^ F.log2 = F * 2 ^ 52 := by
    by_cases h : F.log2 ≤ 52
    · rw [show F.log2 - 52 = 0 by omega, Nat.pow_zero, Nat.mul_one] at hmul
      rw [hmul, Nat.mul_assoc, ← Nat.pow_add, Nat.sub_add_cancel h]
    · rw [show 52 - F.log2 = 0 by omega, Nat.pow_zero, Nat.mul_one] at hmul
      rw [show F * 2 ^ 52 = g * 2 ^ (F.log2 - 52) * 2 ^ 52 by rw [hmul], Nat.mul_assoc, ← Nat.pow_add, Nat.sub_add_cancel (by omega)]
  have hp := Nat.two_pow_pos F.log2
  have g1 : bin ≤ g := by
    refine Nat.le_of_mul_le_mul_right (c := 2 ^ F.log2) ?_ hp
    rw [hsum, Nat.mul_comm]; exact Nat.mul_le_mul_right _ hL1
  have g2 : g < 2 * bin := by
    refine Nat.lt_of_mul_lt_mul_right (a := 2 ^ F.log2) ?_
    rw [hsum, show 2 * bin * 2 ^ F.log2 = 2 ^ (F.log2 + 1) * 2 ^ 52 by rw [Nat.pow_succ, Nat.mul_comm (2 ^ F.log2), Nat.mul_right_comm]; rfl]
    exact Nat.mul_lt_mul_of_pos_right hL2 (Nat.two_pow_pos _)
  have hlt : (F.log2 + 1022) * bin + g < inf := by
    have : (F.log2 + 1022) * bin ≤ 1085 * bin := Nat.mul_le_mul_right _ (by omega)
    have e : inf = 2047 * bin := rfl
    omega
  refine ⟨(F.log2 + 1022) * bin + g, ?_, ?_, hlt⟩
  · unfold Format.nearest
    simp only [d_bin, d_inf, d_lp]
    rw [if_neg (by omega)]
    have e0 : max (0 + (F.log2 : Int) - (double.fractionBits : Nat)) (-1074) = (F.log2 : Int) - 52 := by
      have : ((double.fractionBits : Nat) : Int) = 52 := rfl
      rw [this]; omega
    rw [e0]
    have e1 : (0 - ((F.log2 : Int) - 52)).toNat = 52 - F.log2 := by omega
    have e2 : ((F.log2 : Int) - 52 - 0).toNat = F.log2 - 52 := by omega
    have e3 : ((F.log2 : Int) - 52 - -1074).toNat = F.log2 + 1022 := by omega
    rw [e1, e2, e3, Nat.shiftLeft_eq, cut_even _ _ _ hdiv, hg, Nat.min_eq_left (by omega)]
  · unfold K
    have hge : bin ≤ (F.log2 + 1022) * bin + g := by omega
    rw [if_neg (by omega)]
    have q : ((F.log2 + 1022) * bin + g) / bin = F.log2 + 1023 := by
      rw [Nat.add_comm, Nat.add_mul_div_right _ _ bin_pos]
      have : g / bin = 1 := Nat.div_eq_of_lt_le (by omega) (by omega)
      omega
    have t : ((F.log2 + 1022) * bin + g) % bin = g - bin := by
      rw [Nat.add_comm, Nat.add_mul_mod_self_right, Nat.mod_eq_sub_mod g1, Nat.mod_eq_of_lt (by omega)]
    rw [q, t, show bin + (g - bin) = g by omega, show F.log2 + 1023 - 1 = F.log2 + 1022 by omega]
    have hP := P_is
    unfold U
    generalize P = p at hP
    rw [show F.log2 + 1022 = F.log2 + (p - 52) by omega, Nat.pow_add, ← Nat.mul_assoc, hsum, Nat.mul_assoc, ← Nat.pow_add, show 52 + (p - 52) = p by omega]

/-- A whole number as a float: what it is, and what it is as an integer again. -/
theorem whole_spec (s : Bool) (c k F : Nat) (hF : F = c * 2 ^ k) (hc : c < 2 * bin) (h64 : F < 2 ^ 64) :
    double.nearest s F 0 < 2 ^ 64 ∧ rung (double.nearest s F 0) < inf ∧ K (rung (double.nearest s F 0)) = F * U ∧ neg (double.nearest s F 0) = s ∧
      (double.read (double.nearest s F 0)).toInt .zero = some (if s then -(F : Int) else F) := by
  have key : ∃ r, double.nearest s F 0 = double.word s r ∧ K r = F * U ∧ r < inf := by
    by_cases h0 : 0 < F
    · exact nearest_exact s c k F hF hc h0 h64
    · have : F = 0 := by omega
      subst this
      exact ⟨0, by simp [Format.nearest], by simp [K_zero], by decide⟩
  obtain ⟨r, e, hK, hr⟩ := key
  obtain ⟨w1, w2, w3⟩ := rung_word s (r := r) (Nat.lt_trans hr (by decide))
  rw [e]
  refine ⟨w3, by rw [w1]; exact hr, by rw [w1]; exact hK, w2, ?_⟩
  obtain ⟨m, p, hread, hm, _, _⟩ := read_num (x := double.word s r) (by rw [w1]; exact hr)
  rw [hread, w2]
  simp only [Datum.toInt, Datum.integral]
  rw [cut_zero, (whole_parts m p).1, hm, w1, hK, Nat.mul_div_cancel _ U_pos]
  unfold signed
  rw [Nat.shiftLeft_zero]

def flo (x : Nat) : Nat := double.write ((double.read x).integral .down)
def trn (x : Nat) : Nat := double.write ((double.read x).integral .zero)

/-- The magnitude of the floor. -/
def floMag (x : Nat) : Nat := K (rung x) / U + (neg x && K (rung x) % U != 0).toNat

theorem toNat_le (b : Bool) : b.toNat ≤ 1 := by cases b <;> simp

theorem flo_is {x : Nat} (h : rung x < inf) : ∃ c k, flo x = double.nearest (neg x) (floMag x) 0 ∧ floMag x = c * 2 ^ k ∧ c < 2 * bin := by
  obtain ⟨m, e, hr, hm, hm2, he⟩ := read_num h
  obtain ⟨p1, p2⟩ := whole_parts m e
  have e1 : flo x = double.nearest (neg x) (floMag x) 0 := by
    unfold flo floMag
    rw [hr]
    simp only [Datum.integral, Format.write]
    rw [cut_down, p1, ← hm]
    have : ((m <<< (-1074 + (e : Int)).toNat) % 2 ^ (-(-1074 + (e : Int))).toNat != 0) = (m * 2 ^ e % U != 0) := by
      rw [Bool.eq_iff_iff]; simp only [bne_iff_ne, ne_eq, p2]
    rw [this]
  by_cases hp : 1074 ≤ e
  · refine ⟨m, e - 1074, e1, ?_, hm2⟩
    unfold floMag
    have e3 : m * 2 ^ e = m * 2 ^ (e - 1074) * U := by
      have hP := P_is
      unfold U
      generalize P = q at hP
      rw [Nat.mul_assoc, ← Nat.pow_add, show e - 1074 + q = e by omega]
    rw [← hm, e3, Nat.mul_div_cancel _ U_pos, Nat.mul_mod_left]
    simp
  · refine ⟨floMag x, 0, e1, by simp, ?_⟩
    unfold floMag
    have l : K (rung x) / U < bin := by
      rw [← hm]
      refine Nat.div_lt_of_lt_mul ?_
      have hP := P_is
      unfold U
      generalize P = q at hP
      have e4 : (2 : Nat) ^ q = 2 ^ (q - e - 1) * 2 * 2 ^ e := by
        rw [← Nat.pow_succ, ← Nat.pow_add, show q - e - 1 + 1 + e = q by omega]
      rw [e4, show 2 ^ (q - e - 1) * 2 * 2 ^ e * bin = 2 ^ (q - e - 1) * (2 * bin) * 2 ^ e by rw [Nat.mul_right_comm, Nat.mul_assoc (2 ^ (q - e - 1))]]
      refine Nat.mul_lt_mul_of_pos_right ?_ (Nat.two_pow_pos _)
      exact Nat.lt_of_lt_of_le hm2 (Nat.le_mul_of_pos_left _ (Nat.two_pow_pos _))
    have := toNat_le (neg x && K (rung x) % U != 0)
    have : 1 < bin := by decide
    omega

theorem trn_is {x : Nat} (h : rung x < inf) : ∃ c k, trn x = double.nearest (neg x) (K (rung x) / U) 0 ∧ K (rung x) / U = c * 2 ^ k ∧ c < 2 * bin := by
  obtain ⟨m, e, hr, hm, hm2, he⟩ := read_num h
  obtain ⟨p1, p2⟩ := whole_parts m e
  have e1 : trn x = double.nearest (neg x) (K (rung x) / U) 0 := by
    unfold trn
    rw [hr]
    simp only [Datum.integral, Format.write]
    rw [cut_zero, p1, ← hm]
  by_cases hp : 1074 ≤ e
  · refine ⟨m, e - 1074, e1, ?_, hm2⟩
    have e3 : m * 2 ^ e = m * 2 ^ (e - 1074) * U := by
      have hP := P_is
      unfold U
      generalize P = q at hP
      rw [Nat.mul_assoc, ← Nat.pow_add, show e - 1074 + q = e by omega]
    rw [← hm, e3, Nat.mul_div_cancel _ U_pos]
  · refine ⟨K (rung x) / U, 0, e1, by simp, ?_⟩
    rw [← hm]
    refine Nat.div_lt_of_lt_mul ?_
    have hP := P_is
    unfold U
    generalize P = q at hP
    have e4 : (2 : Nat) ^ q = 2 ^ (q - e) * 2 ^ e := by rw [← Nat.pow_add, show q - e + e = q by omega]
    rw [e4, Nat.mul_right_comm]
    refine Nat.mul_lt_mul_of_pos_right ?_ (Nat.two_pow_pos _)
    exact Nat.lt_of_lt_of_le hm2 (Nat.le_mul_of_pos_left _ (Nat.two_pow_pos _))

/-- Within 64 bits: at least -2^63, below 2^63. -/
def fits (x : Nat) : Prop := nan x = false ∧ -(2 ^ 63 * (U : Int)) ≤ Z x ∧ Z x < 2 ^ 63 * (U : Int)

theorem fits_K {x : Nat} (h : fits x) : rung x < inf ∧ K (rung x) ≤ 2 ^ 63 * U := by
  obtain ⟨hn, h1, h2⟩ := h
  have hk : K (rung x) ≤ 2 ^ 63 * U := by
    unfold Z at h1 h2
    generalize U = u at h1 h2 ⊢
    generalize K (rung x) = k at h1 h2 ⊢
    cases hg : neg x <;> simp only [hg, Bool.false_eq_true, if_true, if_false] at h1 h2 <;> omega
  refine ⟨?_, hk⟩
  have := rung_le_of hn
  refine Nat.lt_of_le_of_ne this fun e => ?_
  rw [e] at hk
  have hU : 2 ^ 63 * U < K inf := by
    unfold K
    rw [if_neg (by decide)]
    have e1 : inf % bin = 0 := by decide
    have e2 : inf / bin - 1 = 2046 := by decide
    rw [e1, e2, Nat.add_zero]
    have hP := P_is
    unfold U
    generalize P = q at hP
    generalize h46 : 2046 = t
    have : 2 ^ 63 * 2 ^ q = 2 ^ (63 + q) := by rw [Nat.pow_add]
    rw [this, show bin * 2 ^ t = 2 ^ (52 + t) by rw [Nat.pow_add]; rfl]
    exact Nat.pow_lt_pow_right (by omega) (by omega)
  omega

theorem floMag_Z {x : Nat} : (if neg x then -(floMag x : Int) else floMag x) = Z x / (U : Int) := by
  have hU : (0 : Int) < U := by have := U_pos; omega
  unfold floMag Z
  have hd := Nat.div_add_mod (K (rung x)) U
  have hm := Nat.mod_lt (K (rung x)) U_pos
  generalize K (rung x) = k at hd hm
  cases hn : neg x
  · simp
  · simp only [if_true, Bool.true_and]
    by_cases h0 : k % U = 0
    · have : (k % U != 0) = false := by simp [h0]
      rw [this]
      simp only [Bool.toNat_false, Nat.add_zero]
      have := (Int.ediv_emod_unique (a := -(k : Int)) (b := U) (r := 0) (q := -((k / U : Nat) : Int)) hU).2 ⟨by
        rw [Int.mul_neg, ← Int.natCast_mul]; omega, by omega, hU⟩
      exact this.1.symm
    · have : (k % U != 0) = true := by simp [h0]
      rw [this]
      simp only [Bool.toNat_true]
      have := (Int.ediv_emod_unique (a := -(k : Int)) (b := U) (r := (U : Int) - ((k % U : Nat) : Int)) (q := -((k / U + 1 : Nat) : Int)) hU).2 ⟨by
        rw [Int.mul_neg, ← Int.natCast_mul, Nat.mul_add, Nat.mul_one]; omega, by omega, by omega⟩
      exact this.1.symm

theorem floMag_le {x : Nat} (h : K (rung x) ≤ 2 ^ 63 * U) : floMag x < 2 ^ 64 := by
  unfold floMag
  have : K (rung x) / U ≤ 2 ^ 63 := Nat.div_le_of_le_mul (by rw [Nat.mul_comm]; exact h)
  have := toNat_le (neg x && K (rung x) % U != 0)
  omega

theorem nan_of_lt {x : Nat} (h : rung x < inf) : nan x = false := by
  unfold nan
  rw [decide_eq_false_iff_not]; omega

theorem flo_spec {x : Nat} (h : fits x) : flo x < 2 ^ 64 ∧ nan (flo x) = false ∧ Z (flo x) = Z x / (U : Int) * (U : Int) ∧ (double.read (flo x)).toInt .zero = some (Z x / (U : Int)) := by
  obtain ⟨h1, h2⟩ := fits_K h
  obtain ⟨c, k, e, hF, hc⟩ := flo_is h1
  obtain ⟨a1, a2, a3, a4, a5⟩ := whole_spec (neg x) c k (floMag x) hF hc (floMag_le h2)
  rw [← e] at a1 a2 a3 a4 a5
  refine ⟨a1, nan_of_lt a2, ?_, by rw [a5, floMag_Z]⟩
  rw [← floMag_Z]
  rw [show Z (flo x) = if neg (flo x) then -(K (rung (flo x)) : Int) else K (rung (flo x)) from rfl, a4, a3]
  cases neg x <;> simp [Int.neg_mul]

theorem trn_spec {x : Nat} (h : fits x) : trn x < 2 ^ 64 ∧ nan (trn x) = false ∧ Z (trn x) = (Z x).tdiv (U : Int) * (U : Int) ∧ (double.read (trn x)).toInt .zero = some ((Z x).tdiv (U : Int)) := by
  obtain ⟨h1, h2⟩ := fits_K h
  obtain ⟨c, k, e, hF, hc⟩ := trn_is h1
  have hl : K (rung x) / U < 2 ^ 64 := by
    have : K (rung x) / U ≤ 2 ^ 63 := Nat.div_le_of_le_mul (by rw [Nat.mul_comm]; exact h2)
    omega
  obtain ⟨a1, a2, a3, a4, a5⟩ := whole_spec (neg x) c k (K (rung x) / U) hF hc hl
  rw [← e] at a1 a2 a3 a4 a5
  have et : (Z x).tdiv (U : Int) = if neg x then -((K (rung x) / U : Nat) : Int) else ((K (rung x) / U : Nat) : Int) := by
    unfold Z
    cases neg x <;> simp [Int.neg_tdiv]
    all_goals rw [Int.tdiv_eq_ediv_of_nonneg (by omega)]
  refine ⟨a1, nan_of_lt a2, ?_, by rw [a5, et]⟩
  rw [et]
  rw [show Z (trn x) = if neg (trn x) then -(K (rung (trn x)) : Int) else K (rung (trn x)) from rfl, a4, a3]
  cases neg x <;> simp [Int.neg_mul]

end Fl
end Go.Proofs.YtfbfbajccphkoaaGreat

namespace Go.Proofs.YtfbfbajccphkoaaGreat
open Go.RowKit

namespace Fl
/-- -1, 0, 1. -/
def sgn (a b : Int) : Int := if a < b then -1 else if b < a then 1 else 0
def cmp (a b : Nat) : Int := if nan a || nan b then 0 else sgn (Z a) (Z b)
def cmpOk (a b : Nat) : Bool := !nan a && !nan b
def cmpInt (n : Int) (x : Nat) : Int := if nan x then 0 else sgn (n * (U : Int)) (Z x)
def isZero (x : Nat) : Bool := decide (rung x = 0)
def bits (x : Nat) : Nat := if nan x then 9221120237041090560 else if isZero x then 0 else x

abbrev ord (x y : Nat) : Option Ordering := FloatKind.f64.format.order x y

theorem ord_nan {x y : Nat} (h : (nan x || nan y) = true) : FloatKind.f64.format.order x y = none := by
  rw [Bool.or_eq_true] at h
  rcases h with h | h
  · exact order_nan_l h
  · exact order_nan_r h
theorem ord_num {x y : Nat} (h : (nan x || nan y) = false) : FloatKind.f64.format.order x y = some (compare (Z x) (Z y)) := by
  rw [Bool.or_eq_false_iff] at h
  exact order_num h.1 h.2
theorem ord_lt {x y : Nat} (h : (nan x || nan y) = false) (hl : Z x < Z y) : FloatKind.f64.format.order x y = some .lt := by rw [ord_num h, compare_lt' hl]
theorem ord_gt {x y : Nat} (h : (nan x || nan y) = false) (hl : Z y < Z x) : FloatKind.f64.format.order x y = some .gt := by rw [ord_num h, compare_gt' hl]
theorem ord_eq {x y : Nat} (h : (nan x || nan y) = false) (hl : Z x = Z y) : FloatKind.f64.format.order x y = some .eq := by rw [ord_num h, Int.compare_eq_eq.2 hl]
theorem ord_self (x : Nat) : (FloatKind.f64.format.order x x != some .eq) = nan x := by
  cases h : nan x
  · rw [ord_eq (by simp [h]) rfl]; rfl
  · rw [ord_nan (by simp [h])]; rfl
theorem ord_self' (x : Nat) : (FloatKind.f64.format.order x x == some .eq) = !nan x := by
  cases h : nan x
  · rw [ord_eq (by simp [h]) rfl]; rfl
  · rw [ord_nan (by simp [h])]; rfl

theorem Z_zero_iff (x : Nat) : Z x = 0 ↔ rung x = 0 := by
  have h : K (rung x) = 0 ↔ rung x = 0 := ⟨fun h => K_inj (h.trans K_zero.symm), fun h => by rw [h]; exact K_zero⟩
  rw [← h]
  unfold Z
  generalize K (rung x) = k
  cases neg x <;> simp
theorem Z_zero : Z 0 = 0 := by decide
theorem nan_zero : nan 0 = false := by decide
theorem ord_zero {x : Nat} (h : nan x = false) : (FloatKind.f64.format.order x 0 == some .eq) = isZero x := by
  rw [ord_num (by simp [h, nan_zero]), Z_zero]
  unfold isZero
  by_cases e : rung x = 0
  · rw [Int.compare_eq_eq.2 ((Z_zero_iff x).2 e)]; simp [e]
  · have : Z x ≠ 0 := fun h => e ((Z_zero_iff x).1 h)
    have h2 : compare (Z x) 0 ≠ .eq := fun h => this (Int.compare_eq_eq.1 h)
    simp [e, h2]

/-- 2^63, and what is below 0 of it. -/
def top : Nat := 4890909195324358656
def bot : Nat := 14114281232179134464
theorem K_two63 : K (1086 * 2 ^ 52) = 2 ^ 63 * U := by
  unfold K
  rw [if_neg (by decide), show 1086 * 2 ^ 52 % bin = 0 by decide, show 1086 * 2 ^ 52 / bin - 1 = 1085 by decide]
  have hP := P_is
  unfold U
  generalize P = q at hP
  generalize h : 1085 = t
  rw [Nat.add_zero, show bin * 2 ^ t = 2 ^ (52 + t) by rw [Nat.pow_add]; rfl, show 2 ^ 63 * 2 ^ q = 2 ^ (63 + q) by rw [Nat.pow_add], show 52 + t = 63 + q by omega]
theorem Z_top : Z top = 2 ^ 63 * (U : Int) := by
  have h1 : rung top = 1086 * 2 ^ 52 := by decide
  have h2 : neg top = false := by decide
  unfold Z
  rw [h1, h2, K_two63]
  generalize U = u
  simp
theorem Z_bot : Z bot = -(2 ^ 63 * (U : Int)) := by
  have h1 : rung bot = 1086 * 2 ^ 52 := by decide
  have h2 : neg bot = true := by decide
  unfold Z
  rw [h1, h2, K_two63]
  generalize U = u
  simp
theorem nan_top : nan top = false := by decide
theorem nan_bot : nan bot = false := by decide
end Fl

/-- math.Float64frombits, math.Float64bits: in place. -/
theorem frombits_run (n : Int) (w : World) : (callFunc 95 #[.int .u64 n]).run Tryz.prog w = .ok (.value (.float .f64 n.toNat)) w := by kernel_rfl
theorem tobits_run (x : Nat) (w : World) : (callFunc 96 #[.float .f64 x]).run Tryz.prog w = .ok (.value (.int .u64 x)) w := by kernel_rfl

theorem archfloor_run (x : Nat) (w : World) (h : Fl.rung x < Fl.inf) : (callFunc 114 #[.float .f64 x]).run Tryz.prog w = .ok (.value (.float .f64 (Fl.flo x))) w := by
  obtain ⟨m, e, hr, _⟩ := Fl.read_num h
  have hd : FloatKind.f64.decode x = .number (Fl.neg x) m (-1074 + (e : Int)) := hr
  have e1 : (callFunc 114 #[.float .f64 x]).run Tryz.prog w = (do
      let v ← (match FloatKind.f64.decode x with
        | .nan s t => if FloatKind.f64.format.quiet t = t then pure (.float .f64 x) else do
          let kept ← choose (.extern "math.Floor,Ceil,Trunc,RoundToEven.signallingNaN kept" 2)
          pure (.float .f64 (if kept == 1 then x else FloatKind.f64.encode (.nan s (FloatKind.f64.format.quiet t))))
        | d => pure (.float .f64 (FloatKind.f64.encode (d.integral .down))) : Sem Value)
      pure (Next.value v) : Sem Next).run Tryz.prog w := by kernel_rfl
  rw [e1, hd]
  unfold Fl.flo
  rw [hr]
  rfl

theorem archtrunc_run (x : Nat) (w : World) (h : Fl.rung x < Fl.inf) : (callFunc 112 #[.float .f64 x]).run Tryz.prog w = .ok (.value (.float .f64 (Fl.trn x))) w := by
  obtain ⟨m, e, hr, _⟩ := Fl.read_num h
  have hd : FloatKind.f64.decode x = .number (Fl.neg x) m (-1074 + (e : Int)) := hr
  have e1 : (callFunc 112 #[.float .f64 x]).run Tryz.prog w = (do
      let v ← (match FloatKind.f64.decode x with
        | .nan s t => if FloatKind.f64.format.quiet t = t then pure (.float .f64 x) else do
          let kept ← choose (.extern "math.Floor,Ceil,Trunc,RoundToEven.signallingNaN kept" 2)
          pure (.float .f64 (if kept == 1 then x else FloatKind.f64.encode (.nan s (FloatKind.f64.format.quiet t))))
        | d => pure (.float .f64 (FloatKind.f64.encode (d.integral .zero))) : Sem Value)
      pure (Next.value v) : Sem Next).run Tryz.prog w := by kernel_rfl
  rw [e1, hd]
  unfold Fl.trn
  rw [hr]
  rfl

theorem isnan_any (x : Nat) (w : World) : Calls Tryz.prog 106 #[.float .f64 x] w fun e w' => e = .returned (.bool (Fl.nan x)) ∧ w = w' := by
  have h := Fl.ord_self x
  go_enter Tryz.func106, Tryz.ntmps106
  go_wp2
  go_ret
  exact ⟨rfl, rfl⟩

theorem floor_any (x : Nat) (h : Fl.rung x < Fl.inf) (w : World) : Calls Tryz.prog 110 #[.float .f64 x] w fun e w' => e = .returned (.float .f64 (Fl.flo x)) ∧ w = w' := by
  have h1 := fun w => archfloor_run x w h
  clear h
  go_enter Tryz.func110, Tryz.ntmps110
  go_wp2
  go_ret
  exact ⟨rfl, rfl⟩
theorem trunc_any (x : Nat) (h : Fl.rung x < Fl.inf) (w : World) : Calls Tryz.prog 105 #[.float .f64 x] w fun e w' => e = .returned (.float .f64 (Fl.trn x)) ∧ w = w' := by
  have h1 := fun w => archtrunc_run x w h
  clear h
  go_enter Tryz.func105, Tryz.ntmps105
  go_wp2
  go_ret
  exact ⟨rfl, rfl⟩

namespace Fl
theorem sgn_lt {a b : Int} (h : a < b) : sgn a b = -1 := by simp [sgn, h]
theorem sgn_gt {a b : Int} (h : b < a) : sgn a b = 1 := by simp [sgn, h]; omega
theorem sgn_eq {a b : Int} (h : a = b) : sgn a b = 0 := by simp [sgn, h]
theorem cmp_nan {a b : Nat} (h : (nan a || nan b) = true) : cmp a b = 0 ∧ cmpOk a b = false := by
  constructor
  · simp [cmp, h]
  · simp only [cmpOk]; cases ha : nan a <;> simp_all
theorem cmp_num {a b : Nat} (h : (nan a || nan b) = false) : cmp a b = sgn (Z a) (Z b) ∧ cmpOk a b = true := by
  constructor
  · simp [cmp, h]
  · simp only [cmpOk]; cases ha : nan a <;> simp_all
end Fl

/-- A pair of an integer and a bool. -/
abbrev pairIB (i : Int) (b : Bool) : Value := .tuple #[.int .i64 i, .bool b]

theorem pairIB_eq {i j : Int} {b c : Bool} (h1 : i = j) (h2 : b = c) : Ending.returned (pairIB i b) = .returned (pairIB j c) := by rw [h1, h2]

theorem cmp_any (a b : Nat) (w : World) : Calls Tryz.prog 100 #[.float .f64 a, .float .f64 b] w fun e w' => e = .returned (pairIB (Fl.cmp a b) (Fl.cmpOk a b)) ∧ w = w' := by
  cases hn : (Fl.nan a || Fl.nan b)
  · have hk := Fl.cmp_num hn
    rcases Int.lt_trichotomy (Fl.Z a) (Fl.Z b) with h | h | h
    · have h1 := Fl.ord_lt hn h
      rw [hk.1, hk.2, Fl.sgn_lt h]
      clear hk h hn
      go_enter Tryz.func100, Tryz.ntmps100
      go_wp2
      go_ret2
      exact ⟨rfl, rfl⟩
    · have h1 := Fl.ord_eq hn h
      rw [hk.1, hk.2, Fl.sgn_eq h]
      clear hk h hn
      go_enter Tryz.func100, Tryz.ntmps100
      go_wp2
      go_ret2
      exact ⟨rfl, rfl⟩
    · have h1 := Fl.ord_gt hn h
      rw [hk.1, hk.2, Fl.sgn_gt h]
      clear hk h hn
      go_enter Tryz.func100, Tryz.ntmps100
      go_wp2
      go_ret2
      exact ⟨rfl, rfl⟩
  · have hk := Fl.cmp_nan hn
    have h1 := Fl.ord_nan hn
    rw [hk.1, hk.2]
    clear hk hn
    go_enter Tryz.func100, Tryz.ntmps100
    go_wp2
    go_ret2
    exact ⟨rfl, rfl⟩

namespace Fl
theorem mul_lt_of {n q z u : Int} (hu : 0 < u) (h : n < q) (hz : q * u ≤ z) : n * u < z := by
  have := Int.mul_lt_mul_of_pos_right h hu
  omega
theorem mul_gt_of {n q z u : Int} (hu : 0 < u) (h : q < n) (hz : z < q * u + u) : z < n * u := by
  have h1 : q + 1 ≤ n := h
  have := Int.mul_le_mul_of_nonneg_right h1 (Int.le_of_lt hu)
  rw [Int.add_mul, Int.one_mul] at this
  omega
theorem cmpInt_nan {n : Int} {x : Nat} (h : nan x = true) : cmpInt n x = 0 := by simp [cmpInt, h]
theorem cmpInt_num {n : Int} {x : Nat} (h : nan x = false) : cmpInt n x = sgn (n * (U : Int)) (Z x) := by simp [cmpInt, h]
theorem UI : (0 : Int) < (U : Int) := by have := U_pos; omega
theorem floor_bounds (z : Int) : z / (U : Int) * (U : Int) ≤ z ∧ z < z / (U : Int) * (U : Int) + (U : Int) := by
  have h0 := Int.mul_ediv_add_emod z (U : Int)
  have h1 := Int.emod_nonneg z (Int.ne_of_gt UI)
  have h2 := Int.emod_lt_of_pos z UI
  rw [Int.mul_comm] at h0
  omega
theorem floor_range {x : Nat} (h : fits x) : -9223372036854775808 ≤ Z x / (U : Int) ∧ Z x / (U : Int) ≤ 9223372036854775807 := by
  obtain ⟨_, h1, h2⟩ := h
  have hu := UI
  constructor
  · refine (Int.le_ediv_iff_mul_le hu).2 ?_
    generalize Z x = z at *
    generalize (U : Int) = u at *
    omega
  · refine Int.le_of_lt_add_one ((Int.ediv_lt_iff_lt_mul hu).2 ?_)
    generalize Z x = z at *
    generalize (U : Int) = u at *
    omega
/-- The floor's own integer fits. -/
theorem flo_int {x : Nat} (h : fits x) : floatToIntVal .f64 (flo x) .i64 = some (Z x / (U : Int)) := by
  have e := (flo_spec h).2.2.2
  have hr := floor_range h
  have e' : (FloatKind.f64.decode (flo x)).toInt .zero = some (Z x / (U : Int)) := e
  unfold floatToIntVal
  rw [e']
  simp only
  rw [if_pos]
  exact hr
theorem trn_range {x : Nat} (h : fits x) : -9223372036854775808 ≤ (Z x).tdiv (U : Int) ∧ (Z x).tdiv (U : Int) ≤ 9223372036854775807 := by
  obtain ⟨_, h1, h2⟩ := h
  have hu := UI
  by_cases h0 : 0 ≤ Z x
  · rw [Int.tdiv_eq_ediv_of_nonneg h0]
    constructor
    · have := Int.ediv_nonneg h0 (Int.le_of_lt hu); omega
    · refine Int.le_of_lt_add_one ((Int.ediv_lt_iff_lt_mul hu).2 ?_)
      generalize Z x = z at *
      generalize (U : Int) = u at *
      omega
  · have e : (Z x).tdiv (U : Int) = -((-(Z x)) / (U : Int)) := by
      have : Z x = -(-(Z x)) := by omega
      rw [this, Int.neg_tdiv, Int.tdiv_eq_ediv_of_nonneg (by omega), Int.neg_neg]
    have p : 0 ≤ (-(Z x)) / (U : Int) := Int.ediv_nonneg (by omega) (Int.le_of_lt hu)
    have q : (-(Z x)) / (U : Int) ≤ 9223372036854775808 := by
      refine Int.le_of_lt_add_one ((Int.ediv_lt_iff_lt_mul hu).2 ?_)
      generalize Z x = z at *
      generalize (U : Int) = u at *
      omega
    rw [e]; omega
theorem trn_int {x : Nat} (h : fits x) : floatToIntVal .f64 (trn x) .i64 = some ((Z x).tdiv (U : Int)) := by
  have e := (trn_spec h).2.2.2
  have hr := trn_range h
  have e' : (FloatKind.f64.decode (trn x)).toInt .zero = some ((Z x).tdiv (U : Int)) := e
  unfold floatToIntVal
  rw [e']
  simp only
  rw [if_pos]
  exact hr
theorem mul_gt_of' {n z u : Int} (hu : 0 < u) (h : -9223372036854775808 ≤ n) (hz : z < -(2 ^ 63 * u)) : z < n * u := by
  have := Int.mul_le_mul_of_nonneg_right h (Int.le_of_lt hu)
  omega
/-- Beyond 2^63; below -2^63; between. -/
theorem cases3 {x : Nat} (hn : nan x = false) :
    ((FloatKind.f64.format.order x 4890909195324358656 = some .gt ∨ FloatKind.f64.format.order x 4890909195324358656 = some .eq) ∧ (9223372036854775807 + 1) * (U : Int) ≤ Z x) ∨
    (FloatKind.f64.format.order x 4890909195324358656 = some .lt ∧ FloatKind.f64.format.order x 14114281232179134464 = some .lt ∧ Z x < -(2 ^ 63 * (U : Int))) ∨
    (FloatKind.f64.format.order x 4890909195324358656 = some .lt ∧ (FloatKind.f64.format.order x 14114281232179134464 = some .gt ∨ FloatKind.f64.format.order x 14114281232179134464 = some .eq) ∧ fits x) := by
  have ht : (nan x || nan top) = false := by simp [hn, nan_top]
  have hb : (nan x || nan bot) = false := by simp [hn, nan_bot]
  have zt := Z_top
  have zb := Z_bot
  have hu := UI
  rcases Int.lt_trichotomy (Z x) (Z top) with h | h | h
  · have h1 : FloatKind.f64.format.order x 4890909195324358656 = some .lt := ord_lt ht h
    rcases Int.lt_trichotomy (Z x) (Z bot) with g | g | g
    · exact .inr (.inl ⟨h1, ord_lt hb g, by rw [← zb]; exact g⟩)
    · exact .inr (.inr ⟨h1, .inr (ord_eq hb g), hn, by rw [g, zb]; exact Int.le_refl _, by rw [← zt]; exact h⟩)
    · exact .inr (.inr ⟨h1, .inl (ord_gt hb g), hn, by rw [← zb]; exact Int.le_of_lt g, by rw [← zt]; exact h⟩)
  · exact .inl ⟨.inr (ord_eq ht h), by rw [h, zt]; exact Int.le_refl _⟩
  · refine .inl ⟨.inl (ord_gt ht h), ?_⟩
    rw [zt] at h
    exact Int.le_of_lt h
end Fl

theorem toint_run (x : Nat) (q : Int) (h : floatToIntVal .f64 x .i64 = some q) (w : World) : (convert 43 2 (.float .f64 x)).run Tryz.prog w = .ok (.int .i64 q) w :=
  run_convert_float_int w 43 2 .f64 .i64 x q (by rw [Tryz.underlying43]; rfl) Tryz.underlying2 h

theorem cmpint_any (n : Int) (x : Nat) (hn1 : -9223372036854775808 ≤ n) (hn2 : n ≤ 9223372036854775807) (w : World) : Calls Tryz.prog 99 #[.int .i64 n, .float .f64 x] w fun e w' => e = .returned (pairIB (Fl.cmpInt n x) (!Fl.nan x)) ∧ w = w' := by
  cases hn : Fl.nan x
  · have hk := Fl.cmpInt_num (n := n) hn
    rw [hk]
    rcases Fl.cases3 hn with ⟨h1, hz⟩ | ⟨h1, h2, hz⟩ | ⟨h1, h2, hf⟩
    · have e : Fl.sgn (n * (Fl.U : Int)) (Fl.Z x) = -1 := Fl.sgn_lt (Fl.mul_lt_of Fl.UI (Int.lt_add_one_of_le hn2) hz)
      rw [e]
      have hn' := hn
      clear hk e hz hn hn1 hn2
      rcases h1 with h1 | h1
      all_goals
        go_enter Tryz.func99, Tryz.ntmps99
        go_wp2_with (go_at_call 106; refine (isnan_any _ _).mono ?_; rintro e w' ⟨rfl, rfl⟩)
        go_ret2
        exact ⟨rfl, rfl⟩
    · have e : Fl.sgn (n * (Fl.U : Int)) (Fl.Z x) = 1 := Fl.sgn_gt (Fl.mul_gt_of' Fl.UI hn1 hz)
      rw [e]
      have hn' := hn
      clear hk e hz hn hn1 hn2
      go_enter Tryz.func99, Tryz.ntmps99
      go_wp2_with (go_at_call 106; refine (isnan_any _ _).mono ?_; rintro e w' ⟨rfl, rfl⟩)
      go_ret2
      exact ⟨rfl, rfl⟩
    · have hcv := toint_run _ _ (Fl.flo_int hf)
      obtain ⟨_, hfn, hfz, _⟩ := Fl.flo_spec hf
      have hrl := (Fl.fits_K hf).1
      obtain ⟨b1, b2⟩ := Fl.floor_bounds (Fl.Z x)
      have ho : (Fl.nan (Fl.flo x) || Fl.nan x) = false := by simp [hfn, hn]
      rcases Int.lt_trichotomy n (Fl.Z x / (Fl.U : Int)) with h | h | h
      · have e : Fl.sgn (n * (Fl.U : Int)) (Fl.Z x) = -1 := Fl.sgn_lt (Fl.mul_lt_of Fl.UI h b1)
        rw [e]
        generalize Fl.Z x / (Fl.U : Int) = q at hcv h
        clear hk e hf hfn hfz b1 b2 ho hn1 hn2
        rcases h2 with h2 | h2
        all_goals
          go_enter Tryz.func99, Tryz.ntmps99
          go_wp2_with (first | (go_at_call 106; refine (isnan_any _ _).mono ?_; rintro e w' ⟨rfl, rfl⟩) | (go_at_call 110; refine (floor_any _ hrl _).mono ?_; rintro e w' ⟨rfl, rfl⟩))
          go_ret2
          exact ⟨rfl, rfl⟩
      · by_cases hl : Fl.Z (Fl.flo x) < Fl.Z x
        · have e : Fl.sgn (n * (Fl.U : Int)) (Fl.Z x) = -1 := Fl.sgn_lt (by rw [h, ← hfz]; exact hl)
          rw [e]
          have h3 := Fl.ord_lt ho hl
          generalize Fl.Z x / (Fl.U : Int) = q at hcv h
          subst h
          clear hk e hf hfn hfz b1 b2 ho hn1 hn2 hl
          rcases h2 with h2 | h2
          all_goals
            go_enter Tryz.func99, Tryz.ntmps99
            go_wp2_with (first | (go_at_call 106; refine (isnan_any _ _).mono ?_; rintro e w' ⟨rfl, rfl⟩) | (go_at_call 110; refine (floor_any _ hrl _).mono ?_; rintro e w' ⟨rfl, rfl⟩))
            go_ret2
            exact ⟨rfl, rfl⟩
        · have hq : Fl.Z (Fl.flo x) = Fl.Z x := by
            have : Fl.Z (Fl.flo x) ≤ Fl.Z x := by rw [hfz]; exact b1
            exact Int.le_antisymm this (Int.not_lt.1 hl)
          have e : Fl.sgn (n * (Fl.U : Int)) (Fl.Z x) = 0 := Fl.sgn_eq (by rw [h, ← hfz]; exact hq)
          rw [e]
          have h3 := Fl.ord_eq ho hq
          generalize Fl.Z x / (Fl.U : Int) = q at hcv h
          subst h
          clear hk e hf hfn hfz b1 b2 ho hn1 hn2 hl hq
          rcases h2 with h2 | h2
          all_goals
            go_enter Tryz.func99, Tryz.ntmps99
            go_wp2_with (first | (go_at_call 106; refine (isnan_any _ _).mono ?_; rintro e w' ⟨rfl, rfl⟩) | (go_at_call 110; refine (floor_any _ hrl _).mono ?_; rintro e w' ⟨rfl, rfl⟩))
            go_ret2
            exact ⟨rfl, rfl⟩
      · have e : Fl.sgn (n * (Fl.U : Int)) (Fl.Z x) = 1 := Fl.sgn_gt (Fl.mul_gt_of Fl.UI h b2)
        rw [e]
        generalize Fl.Z x / (Fl.U : Int) = q at hcv h
        clear hk e hf hfn hfz b1 b2 ho hn1 hn2
        rcases h2 with h2 | h2
        all_goals
          go_enter Tryz.func99, Tryz.ntmps99
          go_wp2_with (first | (go_at_call 106; refine (isnan_any _ _).mono ?_; rintro e w' ⟨rfl, rfl⟩) | (go_at_call 110; refine (floor_any _ hrl _).mono ?_; rintro e w' ⟨rfl, rfl⟩))
          go_ret2
          exact ⟨rfl, rfl⟩
  · have hk := Fl.cmpInt_nan (n := n) hn
    rw [hk]
    clear hk
    go_enter Tryz.func99, Tryz.ntmps99
    go_wp2_with (go_at_call 106; refine (isnan_any _ _).mono ?_; rintro e w' ⟨rfl, rfl⟩)
    go_ret2
    exact ⟨rfl, rfl⟩

namespace Fl
theorem bits_nan {x : Nat} (h : nan x = true) : bits x = 9221120237041090560 := by simp [bits, h]
theorem bits_zero {x : Nat} (h : nan x = false) (h0 : isZero x = true) : bits x = 0 := by simp [bits, h, h0]
theorem bits_else {x : Nat} (h : nan x = false) (h0 : isZero x = false) : bits x = x := by simp [bits, h, h0]
/-- Are these bits told of any float? -/
def told (b : Nat) : Bool := bits b == b
def same (a b : Nat) : Bool := bits a == bits b
theorem same_cast (a b : Nat) : (((bits a : Nat) : Int) == ((bits b : Nat) : Int)) = same a b := by
  unfold same
  rw [Bool.eq_iff_iff]; simp [Int.ofNat_inj]
end Fl

theorem bits_any (x : Nat) (w : World) : Calls Tryz.prog 108 #[.float .f64 x] w fun e w' => e = .returned (.int .u64 (Fl.bits x : Nat)) ∧ w = w' := by
  cases hn : Fl.nan x
  · have h0 := Fl.ord_zero hn
    cases hz : Fl.isZero x
    · rw [Fl.bits_else hn hz]
      rw [hz] at h0
      clear hz
      have ht := tobits_run x
      go_enter Tryz.func108, Tryz.ntmps108
      go_wp2_with (go_at_call 106; refine (isnan_any _ _).mono ?_; rintro e w' ⟨rfl, rfl⟩)
      go_ret
      exact ⟨rfl, rfl⟩
    · rw [Fl.bits_zero hn hz]
      rw [hz] at h0
      clear hz
      go_enter Tryz.func108, Tryz.ntmps108
      go_wp2_with (go_at_call 106; refine (isnan_any _ _).mono ?_; rintro e w' ⟨rfl, rfl⟩)
      go_ret
      exact ⟨rfl, rfl⟩
  · rw [Fl.bits_nan hn]
    go_enter Tryz.func108, Tryz.ntmps108
    go_wp2_with (go_at_call 106; refine (isnan_any _ _).mono ?_; rintro e w' ⟨rfl, rfl⟩)
    go_ret
    exact ⟨rfl, rfl⟩

theorem same_any (a b : Nat) (w : World) : Calls Tryz.prog 97 #[.float .f64 a, .float .f64 b] w fun e w' => e = .returned (.bool (Fl.same a b)) ∧ w = w' := by
  go_enter Tryz.func97, Tryz.ntmps97
  go_wp2_with (go_at_call 108; refine (bits_any _ _).mono ?_; rintro e w' ⟨rfl, rfl⟩)
  go_ret
  exact ⟨congrArg (fun b => Ending.returned (.bool b)) (Fl.same_cast a b), rfl⟩

end Go.Proofs.YtfbfbajccphkoaaGreat

namespace Go.Proofs.YtfbfbajccphkoaaGreat
open Go.RowKit

/-- Of the blocks that were there only those in S may have turned. -/
structure Kept (S : Nat → Prop) (w w' : World) : Prop where
  os : w'.os = w.os
  tape : w'.tape = w.tape
  output : w'.output = w.output
  size : w.heap.size ≤ w'.heap.size
  block : ∀ k, k < w.heap.size → ¬ S k → w'.heap[k]? = w.heap[k]?

theorem Kept.refl (S : Nat → Prop) (w : World) : Kept S w w := ⟨rfl, rfl, rfl, Nat.le_refl _, fun _ _ _ => rfl⟩
theorem Kept.trans {S T : Nat → Prop} {a b c : World} (h : Kept S a b) (k : Kept T b c) (hT : ∀ i, i < a.heap.size → T i → S i) : Kept S a c :=
  ⟨k.os.trans h.os, k.tape.trans h.tape, k.output.trans h.output, Nat.le_trans h.size k.size, fun i hi hs => (k.block i (Nat.lt_of_lt_of_le hi h.size) (fun t => hs (hT i hi t))).trans (h.block i hi hs)⟩
/-- Two steps of one kind. -/
theorem Kept.then {S : Nat → Prop} {a b c : World} (h : Kept S a b) (k : Kept S b c) : Kept S a c := h.trans k fun _ _ h => h
theorem Kept.mono {S T : Nat → Prop} {a b : World} (h : Kept S a b) (hT : ∀ i, i < a.heap.size → S i → T i) : Kept T a b :=
  ⟨h.os, h.tape, h.output, h.size, fun i hi hs => h.block i hi (fun t => hs (hT i hi t))⟩
theorem Kept.alloc (S : Nat → Prop) (w : World) (o : Obj) : Kept S w (w.alloc o) :=
  ⟨rfl, rfl, rfl, by simp, fun k hk _ => Below.heap_alloc _ _ _ hk⟩
theorem Kept.setCell {S : Nat → Prop} (w : World) (p : Addr) (hp : S p.block) (u : Value) : Kept S w (w.setCell p u) :=
  ⟨rfl, rfl, rfl, by simp [World.setCell], fun k _ hs => Below.heap_setCell _ _ _ _ (fun e => hs (e ▸ hp))⟩
theorem Kept.drewN (S : Nat → Prop) (w : World) (n : Nat) : Kept S w (w.drewN n) := ⟨rfl, rfl, rfl, Nat.le_refl _, fun _ _ _ => rfl⟩
theorem Kept.cell {S : Nat → Prop} {w w' : World} (h : Kept S w w') {p : Addr} (hp : p.block < w.heap.size) (hs : ¬ S p.block) : w'.cell? p = w.cell? p := World.cell?_of_block (w := w) (h.block p.block hp hs)
theorem Kept.frozen {S : Nat → Prop} {w w' : World} (h : Kept S w w') {p : Addr} (hp : p.block < w.heap.size) (hs : ¬ S p.block) : w'.frozen? p = w.frozen? p := World.frozen?_of_block (w := w) (h.block p.block hp hs)
theorem Kept.below {S : Nat → Prop} {w w' : World} (h : Kept S w w') {B : Nat} (hB : B ≤ w.heap.size) (hs : ∀ k, k < B → ¬ S k) : Below B w w' :=
  ⟨h.os, h.tape, h.output, h.size, fun k hk => h.block k (Nat.lt_of_lt_of_le hk hB) (hs k hk)⟩
/-- What turned nothing that was there. -/
theorem Kept.ofBelow {S : Nat → Prop} {w w' : World} (h : Below w.heap.size w w') : Kept S w w' :=
  ⟨h.os, h.tape, h.output, h.size, fun k hk _ => h.block k hk⟩
theorem Kept.ofBelow' {S : Nat → Prop} {w w' : World} {B : Nat} (h : Below B w w') (hs : ∀ k, B ≤ k → S k) : Kept S w w' :=
  ⟨h.os, h.tape, h.output, h.size, fun k _ hk => h.block k (Nat.lt_of_not_le fun hb => hk (hs k hb))⟩

/-- A cell that is there lies in a block that is there. -/
theorem cell_lt {w : World} {p : Addr} {v : Value} (h : w.cell? p = some v) : p.block < w.heap.size := World.block_lt_of_cell? w _ h

end Go.Proofs.YtfbfbajccphkoaaGreat

namespace Go.Proofs.YtfbfbajccphkoaaGreat
open Go.RowKit Go.ChangeShapes

theorem pick_emod (n m : Int) (hm : 1 ≤ m) : (if n.tmod m < 0 then n.tmod m + m else n.tmod m) = n % m := by
  have e := Int.mul_tdiv_add_tmod n m
  have h1 : n.tmod m < m := Int.tmod_lt_of_pos n (by omega)
  have h2 : -m < n.tmod m := by
    have := Int.tmod_lt_of_pos (-n) (b := m) (by omega); rw [Int.neg_tmod] at this; omega
  split
  · refine ((Int.ediv_emod_unique (a := n) (b := m) (r := n.tmod m + m) (q := n.tdiv m - 1) (by omega)).2 ⟨?_, by omega, by omega⟩).2.symm
    rw [Int.mul_sub, Int.mul_one]; omega
  · exact ((Int.ediv_emod_unique (a := n) (b := m) (r := n.tmod m) (q := n.tdiv m) (by omega)).2 ⟨by omega, by omega, by omega⟩).2.symm

theorem pick_any (n m : Int) (hm : 1 ≤ m) (hm2 : m ≤ 4611686018427387904) (w : World) : Calls Tryz.prog 27 #[.int .i64 n, .int .i64 m] w fun e w' => e = .returned (.int .i64 (n % m)) ∧ w = w' := by
  have h1 : n.tmod m < m := Int.tmod_lt_of_pos n (by omega)
  have h2 : -m < n.tmod m := by
    have := Int.tmod_lt_of_pos (-n) (b := m) (by omega); rw [Int.neg_tmod] at this; omega
  have hp := pick_emod n m hm
  have hd : ¬ m < 1 := by omega
  have hz : m ≠ 0 := by omega
  by_cases h : n.tmod m < 0
  · rw [if_pos h] at hp
    rw [← hp]
    clear hp
    go_enter Tryz.func27, Tryz.ntmps27
    go_wp2
    go_ret
    exact ⟨rfl, rfl⟩
  · rw [if_neg h] at hp
    rw [← hp]
    clear hp
    go_enter Tryz.func27, Tryz.ntmps27
    go_wp2
    go_ret
    exact ⟨rfl, rfl⟩

/-- A row of numbers, below block B: what a Feed draws from. -/
def Draws (B : Nat) (w : World) (a : Option Addr) (n : Nat) : Prop :=
  n ≤ 9223372036854775807 ∧ (0 < n → ∃ rb ro, a = some ⟨rb, ro, none⟩ ∧ rb < B ∧ ∀ i, i < n → ∃ x : Int, w.cell? ⟨rb, ro + i, none⟩ = some (.int .i64 x))

/-- Block b is a Feed, not younger than B, from which at most a numbers were drawn. -/
def IsFeed (B : Nat) (w : World) (b a : Nat) : Prop :=
  B ≤ b ∧ ∃ (L : Option Addr) (n cap k : Nat), k ≤ a ∧ w.cell? ⟨b, 0, none⟩ = some (.slice L n cap) ∧ w.cell? ⟨b, 1, none⟩ = some (.int .i64 (k : Int)) ∧ w.frozen? ⟨b, 1, none⟩ = false ∧ Draws B w L n

theorem Draws.kept {B : Nat} {w w' : World} {L : Option Addr} {n : Nat} {S : Nat → Prop} (h : Draws B w L n) (k : Kept S w w') (hB : B ≤ w.heap.size) (hs : ∀ i, i < B → ¬ S i) : Draws B w' L n := by
  refine ⟨h.1, fun hn => ?_⟩
  obtain ⟨rb, ro, e, hrb, hc⟩ := h.2 hn
  refine ⟨rb, ro, e, hrb, fun i hi => ?_⟩
  obtain ⟨x, hx⟩ := hc i hi
  exact ⟨x, by rw [k.cell (p := ⟨rb, ro + i, none⟩) (Nat.lt_of_lt_of_le hrb hB) (hs _ hrb)]; exact hx⟩

theorem IsFeed.lt {B : Nat} {w : World} {b a : Nat} (h : IsFeed B w b a) : b < w.heap.size := by
  obtain ⟨_, L, n, cap, k, _, h0, _⟩ := h
  exact cell_lt h0

/-- A Feed stays one where neither it nor what is below B turns. -/
theorem IsFeed.kept {B : Nat} {w w' : World} {b a : Nat} {S : Nat → Prop} (h : IsFeed B w b a) (k : Kept S w w') (hb : ¬ S b) (hs : ∀ i, i < B → ¬ S i) : IsFeed B w' b a := by
  have hlt := h.lt
  obtain ⟨hB, L, n, cap, q, hq, h0, h1, hf, hd⟩ := h
  exact ⟨hB, L, n, cap, q, hq, by rw [k.cell (p := ⟨b, 0, none⟩) hlt hb]; exact h0, by rw [k.cell (p := ⟨b, 1, none⟩) hlt hb]; exact h1, by rw [k.frozen (p := ⟨b, 1, none⟩) hlt hb]; exact hf, hd.kept k (by omega) hs⟩
theorem IsFeed.below {B : Nat} {w w' : World} {b a : Nat} (h : IsFeed B w b a) (k : Below w.heap.size w w') : IsFeed B w' b a :=
  h.kept (S := fun _ => False) (Kept.ofBelow k) id fun _ _ => id
theorem IsFeed.more {B : Nat} {w : World} {b a a' : Nat} (h : IsFeed B w b a) (ha : a ≤ a') : IsFeed B w b a' := by
  obtain ⟨hB, L, n, cap, q, hq, r⟩ := h
  exact ⟨hB, L, n, cap, q, Nat.le_trans hq ha, r⟩

/-- What Next tells: a number below n; the Feed is one still. -/
def NextPost (B b a : Nat) (n : Int) (w : World) (e : Ending) (w' : World) : Prop :=
  ∃ k : Nat, (k : Int) < n ∧ e = .returned (.int .i64 (k : Int)) ∧ IsFeed B w' b (a + 1) ∧ Kept (· = b) w w' ∧ w'.heap.size = w.heap.size

theorem next_ends {B b a : Nat} {n z : Int} {w : World} {rb ro len cap k nq : Nat} (hB : B ≤ b) (hk : k ≤ a) (h0 : w.cell? ⟨b, 0, none⟩ = some (.slice (some ⟨rb, ro, none⟩) len cap)) (h1 : w.cell? ⟨b, 1, none⟩ = some (.int .i64 (k : Int)))
    (hz : w.frozen? ⟨b, 1, none⟩ = false) (hl : len ≤ 9223372036854775807) (hrb : rb < B) (hc : ∀ i, i < len → ∃ x : Int, w.cell? ⟨rb, ro + i, none⟩ = some (.int .i64 x)) (hy : 0 ≤ z) (hy2 : z < n) :
    NextPost B b a n w (.returned (.int .i64 z)) ((w.drewN nq).setCell ⟨b, 1, none⟩ (.int .i64 ((k : Int) + 1))) := by
  have hlt : b < w.heap.size := cell_lt h1
  have K1 : Kept (· = b) w ((w.drewN nq).setCell ⟨b, 1, none⟩ (.int .i64 ((k : Int) + 1))) := (Kept.drewN _ w nq).then (Kept.setCell (S := (· = b)) _ ⟨b, 1, none⟩ rfl _)
  refine ⟨z.toNat, by omega, by rw [Int.toNat_of_nonneg hy], ⟨hB, some ⟨rb, ro, none⟩, len, cap, k + 1, by omega, ?_, ?_, ?_, ?_⟩, K1, by simp [World.setCell, World.drewN]⟩
  · rw [World.cell?_setCell_other _ _ _ _ (by simp)]
    exact h0
  · have hs := World.cell?_setCell_same (w.drewN nq) ⟨b, 1, none⟩ (v := .int .i64 ((k : Int) + 1)) (u := .int .i64 (k : Int)) h1
    rw [hs]
    rfl
  · rw [World.frozen?_setCell]
    exact hz
  · exact Draws.kept (w := w) ⟨hl, fun _ => ⟨rb, ro, rfl, hrb, hc⟩⟩ K1 (by omega) (by intro i hi e; omega)

set_option maxHeartbeats 1000000 in
theorem next_any {B b a : Nat} (n : Int) (hn : 1 ≤ n) (hn2 : n ≤ 4611686018427387904) (w : World) (ha : a < 4611686018427387904) (hf : IsFeed B w b a) :
    Calls Tryz.prog 8 #[.pointer (some ⟨b, 0, none⟩), .int .i64 n] w (NextPost B b a n w) := by
  have hF := hf
  obtain ⟨hB, L, len, cap, k, hk, h0, h1, hz, hl, hd⟩ := hf
  by_cases he : len = 0
  · subst he
    clear hd
    have HF := Lib.hid hF
    clear hF
    go_enter Tryz.func8, Tryz.ntmps8
    go_wp2
    go_ret
    exact ⟨0, by omega, rfl, HF.out.more (by omega), Kept.refl _ _, rfl⟩
  · obtain ⟨rb, ro, rfl, hrb, hc⟩ := hd (by omega)
    obtain ⟨x, hx⟩ := hc (k % len) (Nat.mod_lt _ (by omega))
    have HC := Lib.hid hc
    clear hc hd
    have HF := Lib.hid hF
    clear hF
    have e1 : ((k : Int)).tmod (len : Int) = ((k % len : Nat) : Int) := by rw [Int.tmod_eq_emod_of_nonneg (by omega)]; rfl
    have e2 : ((k : Int)).tdiv (len : Int) = ((k / len : Nat) : Int) := by rw [Int.tdiv_eq_ediv_of_nonneg (by omega)]; rfl
    have hm := Nat.mod_lt k (show 0 < len by omega)
    have hq : k / len ≤ k := Nat.div_le_self _ _
    have e0 : ((k % len : Nat) : Int) = (k : Int) % (len : Int) := rfl
    have e3 : ((k / len : Nat) : Int) = (k : Int) / (len : Int) := rfl
    generalize k % len = r at e1 hm hx e0
    generalize k / len = q at e2 hq e3
    clear e0 e3
    have l0 : ((len : Int) == 0) = false := by rw [beq_eq_false_iff_ne]; omega
    go_enter Tryz.func8, Tryz.ntmps8
    go_wp2
    have hw : IntKind.i64.wrap (1 + ((q : Nat) : Int)) = 1 + ((q : Nat) : Int) := IntWalk.i64_in _ (by omega)
    have l1 : ((1 + ((q : Nat) : Int)) == 0) = false := by rw [beq_eq_false_iff_ne]; omega
    go_quiet (fail)
    clear hw l1
    go_wp2_with fail
    generalize wrap64 (wrap64 (x.tdiv (1 + (q : Int))) + (q : Int)) = y
    refine (pick_any y n hn hn2 _).mono ?_
    rintro e w' ⟨rfl, rfl⟩
    have hy := Int.emod_nonneg y (show n ≠ 0 by omega)
    have hy2 := Int.emod_lt_of_pos y (show 0 < n by omega)
    generalize y % n = z at hy hy2
    clear hx e1 e2 l0 hq hm he
    go_wp2_with fail
    go_ret
    exact next_ends hB hk h0 h1 hz hl hrb HC.out hy hy2

/-- A row that came in is one to draw from. -/
def IsRow (k : IntKind) (w : World) (a : Option Addr) (len cap : Nat) (zs : List Int) : Prop :=
  (a = none ∧ len = 0 ∧ cap = 0 ∧ zs = []) ∨
  ∃ x, a = some x ∧ len ≤ cap ∧ cap ≤ maxLen ∧ zs.length = cap ∧ (∀ i, i < zs.length → w.cell? (x.add i) = some (.int k (zs.getD i 0))) ∧ ∀ n ∈ zs, (Lit.int k n).wf = true

theorem IsRow.draws {w : World} {a : Option Addr} {len cap : Nat} {zs : List Int} (h : IsRow .i64 w a len cap zs) : Draws w.heap.size w a len := by
  rcases h with ⟨rfl, rfl, rfl, rfl⟩ | ⟨x, rfl, hl, hm, hz, hc, _⟩
  · exact ⟨by omega, fun h => by omega⟩
  · refine ⟨by unfold maxLen at hm; omega, fun hn => ?_⟩
    obtain ⟨b, off, rfl, hc'⟩ := ints_at hc (by omega)
    refine ⟨b, off, rfl, cell_lt (hc' 0 (by omega)), fun i hi => ⟨_, hc' i (by omega)⟩⟩

/-- A new Feed. -/
theorem feed_new {w : World} {a : Option Addr} {len cap : Nat} (h : Draws w.heap.size w a len) (t : TypeId) : IsFeed w.heap.size (w.alloc (.cells #[.slice a len cap, .int .i64 0] t)) w.heap.size 0 := by
  refine ⟨Nat.le_refl _, a, len, cap, 0, Nat.le_refl _, by simp, by simp, by simp, ?_⟩
  exact h.kept (S := fun _ => False) (Kept.alloc _ w _) (Nat.le_refl _) (fun _ _ => id)

end Go.Proofs.YtfbfbajccphkoaaGreat

namespace Go.Proofs.YtfbfbajccphkoaaGreat
open Go.RowKit

theorem nan_any (w : World) : Calls Tryz.prog 75 #[] w fun e w' => e = .returned (.float .f64 9221120237041090561) ∧ w = w' := by
  have hf := frombits_run 9221120237041090561
  go_enter Tryz.func75, Tryz.ntmps75
  go_wp2
  go_ret
  exact ⟨rfl, rfl⟩
theorem inf_up (w : World) : Calls Tryz.prog 76 #[.int .i64 1] w fun e w' => e = .returned (.float .f64 9218868437227405312) ∧ w = w' := by
  have hf := frombits_run 9218868437227405312
  go_enter Tryz.func76, Tryz.ntmps76
  go_wp2
  go_ret
  exact ⟨rfl, rfl⟩
theorem inf_down (w : World) : Calls Tryz.prog 76 #[.int .i64 (-1)] w fun e w' => e = .returned (.float .f64 18442240474082181120) ∧ w = w' := by
  have hf := frombits_run 18442240474082181120
  go_enter Tryz.func76, Tryz.ntmps76
  go_wp2
  go_ret
  exact ⟨rfl, rfl⟩
/-- -0. -/
theorem copysign_zero (w : World) : Calls Tryz.prog 74 #[.float .f64 0, .float .f64 13830554455654793216] w fun e w' => e = .returned (.float .f64 9223372036854775808) ∧ w = w' := by
  have h1 := tobits_run 0
  have h2 := tobits_run 13830554455654793216
  have hf := frombits_run 9223372036854775808
  have b1 : bits BinOp.andNot IntKind.u64 0 9223372036854775808 = 0 := by decide
  have b2 : bits BinOp.and IntKind.u64 13830554455654793216 9223372036854775808 = 9223372036854775808 := by decide
  have b3 : bits BinOp.or IntKind.u64 0 9223372036854775808 = 9223372036854775808 := by decide
  go_enter Tryz.func74, Tryz.ntmps74
  go_wp2
  go_ret
  exact ⟨rfl, rfl⟩

/-- A float is one cell. -/
theorem store_float (a : Addr) (x : Nat) (w : World) : (store a (.float .f64 x)).run Tryz.prog w = stored Tryz.prog w a (.float .f64 x) .plain := run_store Tryz.prog w a _ .plain rfl

/-- What Feed.Float tells: some float. -/
def FloatPost (B b a : Nat) (w : World) (e : Ending) (w' : World) : Prop :=
  ∃ x : Nat, x < 2 ^ 64 ∧ e = .returned (.float .f64 x) ∧ IsFeed B w' b (a + 1) ∧ Kept (· = b) w w'

theorem feedfloat_any {B b a : Nat} (w : World) (ha : a < 4611686018427387904) (hf : IsFeed B w b a) :
    Calls Tryz.prog 48 #[.pointer (some ⟨b, 0, none⟩)] w (FloatPost B b a w) := by
  have hlt := hf.lt
  have HF := Lib.hid hf
  clear hf
  have hst := store_float
  go_enter Tryz.func48, Tryz.ntmps48
  go_wp2_with (first | (go_at_call 75; refine (nan_any _).mono ?_; rintro e w' ⟨rfl, rfl⟩) | (go_at_call 74; refine (copysign_zero _).mono ?_; rintro e w' ⟨rfl, rfl⟩) | (go_at_call_of 76 (Value.int .i64 1); refine (inf_up _).mono ?_; rintro e w' ⟨rfl, rfl⟩))
  refine (inf_down _).mono ?_
  rintro e w' ⟨rfl, rfl⟩
  go_wp2_with fail
  refine (next_any 14 (by omega) (by omega) _ ha (B := B) ?_).mono ?_
  · exact HF.out.below ((Below.refl _ _).alloc (Nat.le_refl _) _)
  rintro e w' ⟨k, hk, rfl, hF, hK, hs⟩
  have hK2 : Kept (· = b) w w' := (Kept.alloc _ w _).then hK
  obtain ⟨x, hx, hcell⟩ : ∃ x : Nat, x < 2 ^ 64 ∧ w'.cell? ⟨w.heap.size, k, none⟩ = some (.float .f64 x) := by
    have hc := hK.cell (p := ⟨w.heap.size, k, none⟩) (by simp) (by show ¬ w.heap.size = b; omega)
    rw [World.cell?_alloc_new] at hc
    have : k < 14 := by omega
    match k, this with
    | 0, _ | 1, _ | 2, _ | 3, _ | 4, _ | 5, _ | 6, _ | 7, _ | 8, _ | 9, _ | 10, _ | 11, _ | 12, _ | 13, _ => exact ⟨_, by decide, hc⟩
  have HF2 := Lib.hid hF
  have HK2 := Lib.hid hK2
  clear hF hK hK2 hs hst HF
  have hk0 : k < 14 := by omega
  go_wp2_with fail
  go_ret
  exact ⟨x, hx, rfl, HF2.out, HK2.out⟩

end Go.Proofs.YtfbfbajccphkoaaGreat

namespace Go.Proofs.YtfbfbajccphkoaaGreat
open Go.RowKit

/-- v is a row of cells xs of type e in a block not younger than B (or nil). -/
def Own (B : Nat) (e : TypeId) (w : World) (v : Value) (xs : List Value) : Prop := w.ownsRowF B e 1 v xs.length xs ∧ B ≤ w.heap.size
theorem Own.nil (e : TypeId) (w : World) {B : Nat} (hB : B ≤ w.heap.size) : Own B e w (.slice none 0 0) [] := ⟨World.ownsRowF_nil _ _ _ _, hB⟩
theorem Own.kept {B : Nat} {e : TypeId} {w w' : World} {v : Value} {xs : List Value} {S : Nat → Prop} (h : Own B e w v xs) (k : Kept S w w') (hs : ∀ i, B ≤ i → ¬ S i) : Own B e w' v xs := by
  refine ⟨⟨h.1.1, ?_⟩, Nat.le_trans h.2 k.size⟩
  rcases h.1.2 with hn | ⟨g, cap, cur, fz, rfl, hb, hg, rest⟩
  · exact .inl hn
  · have hlt : g < w.heap.size := (Array.getElem?_eq_some_iff.1 hg).1
    exact .inr ⟨g, cap, cur, fz, rfl, hb, by rw [k.block g hlt (hs g hb)]; exact hg, rest⟩
theorem Own.later {B : Nat} {e : TypeId} {w w' : World} {v : Value} {xs : List Value} (h : Own B e w v xs) (k : Below w.heap.size w w') : Own B e w' v xs :=
  h.kept (S := fun _ => False) (Kept.ofBelow k) (fun _ _ => id)
/-- How such a row reads. -/
theorem Own.reads {B : Nat} {e : TypeId} {w : World} {v : Value} {xs : List Value} (h : Own B e w v xs) :
    ∃ A n c, v = .slice A n c ∧ n = xs.length ∧ n ≤ c ∧ ((A = none ∧ n = 0) ∨ ∃ g, A = some ⟨g, 0, none⟩ ∧ B ≤ g ∧ g < w.heap.size ∧ ∀ j u, xs[j]? = some u → w.cell? ⟨g, j, none⟩ = some u) := by
  rcases h.1.2 with ⟨rfl, h0⟩ | ⟨g, cap, cur, fz, rfl, hb, hg, hf, hc, rest⟩
  · exact ⟨none, 0, 0, rfl, h0.symm, Nat.le_refl _, .inl ⟨rfl, rfl⟩⟩
  · refine ⟨_, _, _, rfl, rfl, hc, .inr ⟨g, rfl, hb, (Array.getElem?_eq_some_iff.1 hg).1, fun j u hj => ?_⟩⟩
    have := h.1.cells (g := g) rfl j u hj
    rw [show (⟨g, 0, none⟩ : Addr).add j = ⟨g, j, none⟩ by unfold Addr.add; split <;> simp_all] at this
    exact this
theorem kept_grown {w w' : World} {v : Value} {B : Nat} (hg : w.grownBy w' v.ownBlock) (hb : ∀ k, v.ownBlock = some k → B ≤ k) : Kept (fun k => B ≤ k) w w' := by
  refine ⟨hg.os, hg.tape, hg.output, hg.size, fun k hk hs => hg.block k hk (fun e => hs (hb k e.symm))⟩

/-- 'append(own, x)'. -/
theorem wpList_own1 {w : World} {ops : Array Oper} {rest : List Oper} {o : Oper} {a : Act} {Q : Exit → Act → World → Prop} (hgd : o.guard = none) (s x : Operand) (t : TypeId)
    (ho : o.op = .call { callee := .builtin .append, args := #[s, x], argTypes := #[t, t] })
    {e : TypeId} {i : TypeInfo} {z : Value} (bytes : Nat) (ht : Tryz.prog.underlying t = some (.slice e)) (hi : Tryz.prog.info? e = some i) (hz : i.zero = some z) (hsize : i.size = 1) (hby : i.bytes = bytes) (hzs : z.cells.size = 1)
    (B : Nat) (v : Value) (xs : List Value) (hs : a.eval s = v) (hown : Own B e w v xs) (u : Value) (hu : u.oneCell' = true) (hx : a.eval x = .slice (some ⟨w.heap.size, 0, none⟩) 1 1) (hlen : xs.length ≤ 1000000) (hbs : bytes ≤ 100)
    (h : ∀ v' w', Own B e w' v' (xs ++ [u]) → Kept (fun k => B ≤ k) w w' → wpList Tryz.prog ops Q rest (a.put o.dst v') w') : wpList Tryz.prog ops Q (o :: rest) a (w.alloc (.cells #[u] e)) := by
  have hown' : Own B e (w.alloc (.cells #[u] e)) v xs := hown.later ((Below.refl _ _).alloc (Nat.le_refl _) _)
  have hb : (xs.length + 1) * bytes ≤ 140737488355328 := by
    have : (xs.length + 1) * bytes ≤ 1000001 * 100 := Nat.mul_le_mul (by omega) hbs
    omega
  refine wpList_append_ownF (w.alloc (.cells #[u] e)) hgd s x t ho B e i z 1 bytes ht hi hz hsize hby hzs (by decide) v xs.length xs hs hown'.1 ⟨w.heap.size, 0, none⟩ 1 1 [u] hx rfl ?_ ?_ (by unfold maxLen; omega) hb hown'.2 ?_
  · intro j y hj
    match j, hj with
    | 0, hj => cases hj; simp [Addr.add]
  · intro y hy
    rw [List.mem_singleton.1 hy]; exact hu
  · intro v' w' ho' hg _
    have k1 : Kept (fun k => B ≤ k) w (w.alloc (.cells #[u] e)) := Kept.alloc _ _ _
    have k2 := kept_grown (B := B) hg (fun k hk => (hown'.1.lt k hk).1)
    refine h v' w' ⟨?_, Nat.le_trans hown.2 (k1.then k2).size⟩ (k1.then k2)
    rw [List.length_append]
    exact ho'

/-- 'append(own, x)' in a region that draws its order: the one step. -/
theorem step_own1 {w : World} {o : Oper} {a : Act} {K : Act → World → Prop} {Q : Exit → Act → World → Prop} (s x : Operand) (t : TypeId)
    (ho : o.op = .call { callee := .builtin .append, args := #[s, x], argTypes := #[t, t] })
    {e : TypeId} {i : TypeInfo} {z : Value} (bytes : Nat) (ht : Tryz.prog.underlying t = some (.slice e)) (hi : Tryz.prog.info? e = some i) (hz : i.zero = some z) (hsize : i.size = 1) (hby : i.bytes = bytes) (hzs : z.cells.size = 1)
    (B : Nat) (v : Value) (xs : List Value) (hs : a.eval s = v) (hown : Own B e w v xs) (u : Value) (hu : u.oneCell' = true) (hx : a.eval x = .slice (some ⟨w.heap.size, 0, none⟩) 1 1) (hlen : xs.length ≤ 1000000) (hbs : bytes ≤ 100)
    (h : ∀ v' w', Own B e w' v' (xs ++ [u]) → Kept (fun k => B ≤ k) w w' → K (a.put o.dst v') w') : Oper.wp Tryz.prog o a (w.alloc (.cells #[u] e)) K Q := by
  have hown' : Own B e (w.alloc (.cells #[u] e)) v xs := hown.later ((Below.refl _ _).alloc (Nat.le_refl _) _)
  have hb : (xs.length + 1) * bytes ≤ 140737488355328 := by
    have : (xs.length + 1) * bytes ≤ 1000001 * 100 := Nat.mul_le_mul (by omega) hbs
    omega
  obtain ⟨v', w', hr, h2, h3, h4⟩ := run_append_ownF (P := Tryz.prog) (w.alloc (.cells #[u] e)) B t o.type e i z 1 bytes ht hi hz hsize hby hzs (by decide) v xs.length xs hown'.1 ⟨w.heap.size, 0, none⟩ 1 1 [u] rfl
    (by intro j y hj
        match j, hj with
        | 0, hj => cases hj; simp [Addr.add]) (by intro y hy; rw [List.mem_singleton.1 hy]; exact hu) (by unfold maxLen; omega) hb hown'.2
  unfold Oper.wp execOp
  simp only [ho, resolve, invoke, builtin, Sem.run_bind, Sem.run_pure, Result.andThen_ok, List.map_toArray, List.map_cons, List.map_nil, hs, hx, hr]
  have k1 : Kept (fun k => B ≤ k) w (w.alloc (.cells #[u] e)) := Kept.alloc _ _ _
  have k2 := kept_grown (B := B) h3 (fun k hk => (hown'.1.lt k hk).1)
  refine h v' w' ⟨?_, Nat.le_trans hown.2 (k1.then k2).size⟩ (k1.then k2)
  rw [List.length_append]
  exact h2

theorem u64_info : ∃ i, Tryz.prog.info? 95 = some i ∧ i.zero = some (.int .u64 0) ∧ i.size = 1 ∧ i.bytes = 8 := by
  have h : (Tryz.prog.info? 95).map (fun i => (i.zero, i.size, i.bytes)) = some (some (.int .u64 0), 1, 8) := by kernel_rfl
  cases hi : Tryz.prog.info? 95 with
  | none => rw [hi] at h; cases h
  | some i => rw [hi] at h; simp at h; exact ⟨i, rfl, h⟩
abbrev ucell (b : Nat) : Value := .int .u64 (b : Int)
/-- A row of own words. -/
abbrev OwnU (B : Nat) (w : World) (v : Value) (l : List Nat) : Prop := Own B 95 w v (l.map ucell)
end Go.Proofs.YtfbfbajccphkoaaGreat

namespace Go.Proofs.YtfbfbajccphkoaaGreat
open Go.RowKit

theorem flat_len {α : Type} (f : α → List Value) {k : Nat} (hf : ∀ a, (f a).length = k) (l : List α) : (l.flatMap f).length = l.length * k := by
  induction l with
  | nil => simp
  | cons a l ih => rw [List.flatMap_cons, List.length_append, ih, hf, List.length_cons, Nat.add_mul]; omega
theorem flat_get {α : Type} (f : α → List Value) {k : Nat} (hf : ∀ a, (f a).length = k) : ∀ (l : List α) (i j : Nat) (a : α), l[i]? = some a → j < k → (l.flatMap f)[i * k + j]? = (f a)[j]?
  | [], _, _, _, h, _ => by simp at h
  | b :: l, 0, j, a, h, hj => by
    simp at h; subst h
    rw [List.flatMap_cons, List.getElem?_append_left (by rw [hf]; omega)]; simp
  | b :: l, i + 1, j, a, h, hj => by
    rw [List.flatMap_cons, List.getElem?_append_right (by rw [hf, Nat.add_mul]; omega), hf, show (i + 1) * k + j - k = i * k + j by rw [Nat.add_mul]; omega]
    exact flat_get f hf l i j a (by simpa using h) hj
theorem flat_take {α : Type} (f : α → List Value) {k : Nat} (hf : ∀ a, (f a).length = k) : ∀ (l : List α) (n : Nat), (l.flatMap f).take (n * k) = (l.take n).flatMap f
  | [], n => by simp
  | b :: l, 0 => by simp
  | b :: l, n + 1 => by
    rw [List.flatMap_cons, List.take_succ_cons, List.flatMap_cons, ← flat_take f hf l n, List.take_append, List.take_of_length_le (by rw [hf, Nat.add_mul]; omega), hf, show (n + 1) * k - k = n * k by rw [Nat.add_mul]; omega]

/-- A slice of n elements of k cells reads as the cells xs. -/
def Rs (k : Nat) (w : World) (A : Option Addr) (n : Nat) (xs : List Value) : Prop :=
  xs.length = n * k ∧ (xs = [] ∨ ∃ g o, A = some ⟨g, o, none⟩ ∧ ∀ j u, xs[j]? = some u → w.cell? ⟨g, o + j, none⟩ = some u)
theorem Rs.nil (k : Nat) (w : World) (A : Option Addr) : Rs k w A 0 [] := ⟨by simp, .inl rfl⟩
theorem Rs.kept {S : Nat → Prop} {k : Nat} {w w' : World} {A : Option Addr} {n : Nat} {xs : List Value} (h : Rs k w A n xs) (q : Kept S w w') (hs : ∀ x, A = some x → ¬ S x.block) : Rs k w' A n xs := by
  refine ⟨h.1, ?_⟩
  rcases h.2 with rfl | ⟨g, o, rfl, hc⟩
  · exact .inl rfl
  · refine .inr ⟨g, o, rfl, fun j u hj => ?_⟩
    have := hc j u hj
    rw [q.cell (p := ⟨g, o + j, none⟩) (cell_lt this) (show ¬ S g from hs ⟨g, o, none⟩ rfl)]
    exact this
theorem Rs.later {k : Nat} {w w' : World} {A : Option Addr} {n : Nat} {xs : List Value} (h : Rs k w A n xs) (q : Below w.heap.size w w') : Rs k w' A n xs :=
  h.kept (S := fun _ => False) (Kept.ofBelow q) (fun _ _ => id)

/-- v is a row of n elements (cells xs, k each) of type e in a block not younger than B (or nil). -/
def OwnW (k B : Nat) (e : TypeId) (w : World) (v : Value) (n : Nat) (xs : List Value) : Prop := w.ownsRow B e k v n xs ∧ B ≤ w.heap.size
theorem OwnW.nil (k : Nat) (e : TypeId) (w : World) {B : Nat} (hB : B ≤ w.heap.size) : OwnW k B e w (.slice none 0 0) 0 [] := ⟨World.ownsRow_nil _ _ _ _, hB⟩
theorem OwnW.kept {k B : Nat} {e : TypeId} {w w' : World} {v : Value} {n : Nat} {xs : List Value} {S : Nat → Prop} (h : OwnW k B e w v n xs) (q : Kept S w w') (hs : ∀ i, v.ownBlock = some i → ¬ S i) : OwnW k B e w' v n xs := by
  refine ⟨⟨h.1.1, ?_⟩, Nat.le_trans h.2 q.size⟩
  rcases h.1.2 with hn | ⟨g, cap, cur, rfl, hb, hg, rest⟩
  · exact .inl hn
  · have hlt : g < w.heap.size := (Array.getElem?_eq_some_iff.1 hg).1
    exact .inr ⟨g, cap, cur, rfl, hb, by rw [q.block g hlt (hs g rfl)]; exact hg, rest⟩
theorem OwnW.later {k B : Nat} {e : TypeId} {w w' : World} {v : Value} {n : Nat} {xs : List Value} (h : OwnW k B e w v n xs) (q : Below w.heap.size w w') : OwnW k B e w' v n xs :=
  h.kept (S := fun _ => False) (Kept.ofBelow q) (fun _ _ => id)
/-- A block that holds just such cells. -/
theorem OwnW.of_row {k B : Nat} {e : TypeId} {w : World} {g n : Nat} {xs : List Value} (hB : B ≤ g) (hg : w.heap[g]? = some (.cells xs.toArray e (0, 0))) (hl : xs.length = n * k) (hn : n ≤ maxLen) : OwnW k B e w (.slice (some ⟨g, 0, none⟩) n n) n xs := by
  have hlt : g < w.heap.size := (Array.getElem?_eq_some_iff.1 hg).1
  exact ⟨⟨hl, .inr ⟨g, n, xs.toArray, rfl, hB, hg, Nat.le_refl _, hn, by simp [hl], by simp [List.take_of_length_le, hl]⟩⟩, by omega⟩
/-- How such a row reads. -/
theorem OwnW.reads {k B : Nat} {e : TypeId} {w : World} {v : Value} {n : Nat} {xs : List Value} (h : OwnW k B e w v n xs) :
    ∃ A c, v = .slice A n c ∧ n ≤ c ∧ c ≤ maxLen ∧ Rs k w A n xs ∧ (∀ x, A = some x → B ≤ x.block ∧ x.block < w.heap.size) ∧ v.ownBlock = A.map (·.block) ∧ (A = none → n = 0 ∧ c = 0) := by
  rcases h.1.2 with ⟨rfl, rfl⟩ | ⟨g, cap, cur, rfl, hb, hg, hc, hm, rest⟩
  · have : xs = [] := List.eq_nil_of_length_eq_zero (by rw [h.1.1]; simp)
    subst this
    exact ⟨none, 0, rfl, Nat.le_refl _, by unfold maxLen; omega, Rs.nil _ _ _, (fun _ e => by cases e), rfl, fun _ => ⟨rfl, rfl⟩⟩
  · have hlt : g < w.heap.size := (Array.getElem?_eq_some_iff.1 hg).1
    refine ⟨_, cap, rfl, hc, hm, ⟨h.1.1, .inr ⟨g, 0, rfl, fun j u hj => ?_⟩⟩, fun x e => by cases e; exact ⟨hb, hlt⟩, rfl, fun e => by cases e⟩
    have := h.1.cells (g := g) rfl j u hj
    rw [show (⟨g, 0, none⟩ : Addr).add j = ⟨g, j, none⟩ by unfold Addr.add; split <;> simp_all] at this
    rw [Nat.zero_add]
    exact this
/-- A cell of it is stored to. -/
theorem OwnW.store {k B : Nat} {e : TypeId} {w : World} {g n c : Nat} {xs : List Value} (h : OwnW k B e w (.slice (some ⟨g, 0, none⟩) n c) n xs) (j : Nat) (u : Value) (_ : j < n * k) : OwnW k B e (w.setCell ⟨g, j, none⟩ u) (.slice (some ⟨g, 0, none⟩) n c) n (xs.set j u) := by
  rcases h.1.2 with ⟨h0, -⟩ | ⟨g', cap, cur, hv, hb, hg, hc, hm, hs, ht⟩
  · cases h0
  · cases hv
    refine ⟨⟨by simp [h.1.1], .inr ⟨g, c, cur.setIfInBounds j u, rfl, hb, ?_, hc, hm, by simp [hs], ?_⟩⟩, by simpa [World.setCell] using h.2⟩
    · obtain ⟨hlt, he⟩ := Array.getElem?_eq_some_iff.1 hg
      simp [World.setCell, hlt, Array.getElem_modify, he]
    · rw [Array.toList_setIfInBounds, List.take_set, ht]
/-- No cell of it is frozen. -/
theorem OwnW.thaw {k B : Nat} {e : TypeId} {w : World} {g n c : Nat} {xs : List Value} (h : OwnW k B e w (.slice (some ⟨g, 0, none⟩) n c) n xs) (j : Nat) : w.frozen? ⟨g, j, none⟩ = false := h.1.frozenAt j
theorem info_at {e : TypeId} {z : Value} {k b : Nat} (h : (Tryz.prog.info? e).map (fun i => (i.zero, i.size, i.bytes)) = some (some z, k, b)) : ∃ i, Tryz.prog.info? e = some i ∧ i.zero = some z ∧ i.size = k ∧ i.bytes = b := by
  cases hi : Tryz.prog.info? e with
  | none => rw [hi] at h; cases h
  | some i => rw [hi] at h; simp at h; exact ⟨i, rfl, h⟩
theorem append_nil_run {w : World} {B : Nat} {v : Value} {n : Nat} {xs : List Value} {e t : TypeId} {z : Value} {k bytes : Nat} (ty : TypeId) (ht : Tryz.prog.underlying t = some (.slice e)) (hi : (Tryz.prog.info? e).map (fun i => (i.zero, i.size, i.bytes)) = some (some z, k, bytes)) (hown : w.ownsRow B e k v n xs) : (Builtin.append_ #[t, t] ty #[v, .slice none 0 0]).run Tryz.prog w = .ok v w := by
  obtain ⟨i, hi, _, _, _⟩ := info_at hi
  rcases hown.2 with ⟨rfl, rfl⟩ | ⟨g, cap, cur, rfl, _, _, hnc, _⟩
  · simp [Builtin.append_, run_underlying ht, sizeOf, typeInfo, hi, Builtin.lenOf, Builtin.firstCells]
  · simp [Builtin.append_, run_underlying ht, sizeOf, typeInfo, hi, Builtin.lenOf, Builtin.firstCells, hnc, storeCells]
/-- 'append(own, src...)': what src reads as behind what own had, within what memory bears. -/
theorem wpList_ownb {w : World} {ops : Array Oper} {rest : List Oper} {o : Oper} {a : Act} {Q : Exit → Act → World → Prop} (hgd : o.guard = none) (s x : Operand) (t : TypeId)
    (ho : o.op = .call { callee := .builtin .append, args := #[s, x], argTypes := #[t, t] })
    {e : TypeId} {z : Value} {k bytes : Nat} (ht : Tryz.prog.underlying t = some (.slice e)) (hi : (Tryz.prog.info? e).map (fun i => (i.zero, i.size, i.bytes)) = some (some z, k, bytes)) (hzs : z.cells.size = k) (hk : 0 < k)
    (B : Nat) (v : Value) (n : Nat) (xs : List Value) (hs : a.eval s = v) (hown : OwnW k B e w v n xs) (A : Option Addr) (m c : Nat) (hx : a.eval x = .slice A m c) (hA : A = none → m = 0 ∧ c = 0) (us : List Value) (hus : Rs k w A m us) (hu : ∀ u ∈ us, u.oneCell' = true) (hlen : n + m ≤ maxLen) (hb : (n + m) * bytes ≤ 140737488355328)
    (h : ∀ v' w', OwnW k B e w' v' (n + m) (xs ++ us) → Kept (fun i => v.ownBlock = some i) w w' → wpList Tryz.prog ops Q rest (a.put o.dst v') w') : wpList Tryz.prog ops Q (o :: rest) a w := by
  obtain ⟨i, hi', hz, h1, h2⟩ := info_at hi
  rcases A with - | ad
  · obtain ⟨rfl, rfl⟩ := hA rfl
    have e0 : us = [] := List.eq_nil_of_length_eq_zero (by rw [hus.1]; simp)
    subst e0
    refine wpList_plain hgd fun K hK => ?_
    have hrun := append_nil_run (w := w) (B := B) (v := v) (n := n) (xs := xs) o.type ht hi hown.1
    unfold Oper.wp
    simp only [execOp, ho, resolve, invoke, builtin, Sem.run_bind, Sem.run_pure, Result.andThen_ok, List.map_toArray, List.map_cons, List.map_nil, hs, hx, hrun]
    exact hK _ _ (h v w (by rw [List.append_nil]; exact hown) (Kept.refl _ _))
  refine wpList_append_own w hgd s x t ho B e i z k bytes ht hi' hz h1 h2 hzs hk v n xs hs hown.1 ad m c us hx hus.1 ?_ hu hlen hb hown.2 ?_
  · intro j u hj
    rcases hus.2 with rfl | ⟨g, o, e, hc⟩
    · simp at hj
    · cases e
      rw [show (⟨g, o, none⟩ : Addr).add j = ⟨g, o + j, none⟩ by unfold Addr.add; split <;> simp_all]
      exact hc j u hj
  · intro v' w' ho' hg _
    exact h v' w' ⟨ho', Nat.le_trans hown.2 hg.size⟩ ⟨hg.os, hg.tape, hg.output, hg.size, fun i hi hs => hg.block i hi (fun e => hs e.symm)⟩
/-- The same, where both are few. -/
theorem wpList_ownw {w : World} {ops : Array Oper} {rest : List Oper} {o : Oper} {a : Act} {Q : Exit → Act → World → Prop} (hgd : o.guard = none) (s x : Operand) (t : TypeId)
    (ho : o.op = .call { callee := .builtin .append, args := #[s, x], argTypes := #[t, t] })
    {e : TypeId} {z : Value} {k bytes : Nat} (ht : Tryz.prog.underlying t = some (.slice e)) (hi : (Tryz.prog.info? e).map (fun i => (i.zero, i.size, i.bytes)) = some (some z, k, bytes)) (hzs : z.cells.size = k) (hk : 0 < k)
    (B : Nat) (v : Value) (n : Nat) (xs : List Value) (hs : a.eval s = v) (hown : OwnW k B e w v n xs) (A : Option Addr) (m c : Nat) (hx : a.eval x = .slice A m c) (hA : A = none → m = 0 ∧ c = 0) (us : List Value) (hus : Rs k w A m us) (hu : ∀ u ∈ us, u.oneCell' = true) (hlen : n + m ≤ 1000000) (hbs : bytes ≤ 1000)
    (h : ∀ v' w', OwnW k B e w' v' (n + m) (xs ++ us) → Kept (fun i => v.ownBlock = some i) w w' → wpList Tryz.prog ops Q rest (a.put o.dst v') w') : wpList Tryz.prog ops Q (o :: rest) a w := by
  refine wpList_ownb hgd s x t ho ht hi hzs hk B v n xs hs hown A m c hx hA us hus hu (by unfold maxLen; omega) ?_ h
  have : (n + m) * bytes ≤ 1000000 * 1000 := Nat.mul_le_mul hlen hbs
  omega
/-- 'append(own, src...)' in a region that draws its order: the one step. -/
theorem step_ownw {w : World} {o : Oper} {a : Act} {K : Act → World → Prop} {Q : Exit → Act → World → Prop} (s x : Operand) (t : TypeId)
    (ho : o.op = .call { callee := .builtin .append, args := #[s, x], argTypes := #[t, t] })
    {e : TypeId} {z : Value} {k bytes : Nat} (ht : Tryz.prog.underlying t = some (.slice e)) (hi : (Tryz.prog.info? e).map (fun i => (i.zero, i.size, i.bytes)) = some (some z, k, bytes)) (hzs : z.cells.size = k) (hk : 0 < k)
    (B : Nat) (v : Value) (n : Nat) (xs : List Value) (hs : a.eval s = v) (hown : OwnW k B e w v n xs) (A : Option Addr) (m c : Nat) (hx : a.eval x = .slice A m c) (hA : A = none → m = 0 ∧ c = 0) (us : List Value) (hus : Rs k w A m us) (hu : ∀ u ∈ us, u.oneCell' = true) (hlen : n + m ≤ 1000000) (hbs : bytes ≤ 1000)
    (h : ∀ v' w', OwnW k B e w' v' (n + m) (xs ++ us) → Kept (fun i => v.ownBlock = some i) w w' → K (a.put o.dst v') w') : Oper.wp Tryz.prog o a w K Q := by
  obtain ⟨i, hi', hz, h1, h2⟩ := info_at hi
  have hb : (n + m) * bytes ≤ 140737488355328 := by
    have : (n + m) * bytes ≤ 1000000 * 1000 := Nat.mul_le_mul hlen hbs
    omega
  rcases A with - | ad
  · obtain ⟨rfl, rfl⟩ := hA rfl
    have e0 : us = [] := List.eq_nil_of_length_eq_zero (by rw [hus.1]; simp)
    subst e0
    have hrun := append_nil_run (w := w) (B := B) (v := v) (n := n) (xs := xs) o.type ht hi hown.1
    unfold Oper.wp
    simp only [execOp, ho, resolve, invoke, builtin, Sem.run_bind, Sem.run_pure, Result.andThen_ok, List.map_toArray, List.map_cons, List.map_nil, hs, hx, hrun]
    exact h v w (by rw [List.append_nil]; exact hown) (Kept.refl _ _)
  obtain ⟨v', w', hr, ho', hg, -⟩ := run_append_own (P := Tryz.prog) w B t o.type e i z k bytes ht hi' hz h1 h2 hzs hk v n xs hown.1 ad m c us hus.1
    (by intro j u hj
        rcases hus.2 with rfl | ⟨g, o, e, hc⟩
        · simp at hj
        · cases e
          rw [show (⟨g, o, none⟩ : Addr).add j = ⟨g, o + j, none⟩ by unfold Addr.add; split <;> simp_all]
          exact hc j u hj) hu (by unfold maxLen; omega) hb hown.2
  unfold Oper.wp execOp
  simp only [ho, resolve, invoke, builtin, Sem.run_bind, Sem.run_pure, Result.andThen_ok, List.map_toArray, List.map_cons, List.map_nil, hs, hx, hr]
  exact h v' w' ⟨ho', Nat.le_trans hown.2 hg.size⟩ ⟨hg.os, hg.tape, hg.output, hg.size, fun i hi hs => hg.block i hi (fun e => hs e.symm)⟩
/-- 'copy(whole block, src)'. -/
theorem run_copyw (w : World) (dT sT ty e : TypeId) {k : Nat} (n c c' : Nat) (g : Nat) (A : Option Addr) (cur : List Value) (us : List Value)
    (hu : Tryz.prog.underlying dT = some (.slice e)) (hs : (Tryz.prog.info? e).map (·.size) = some k) (hg : w.heap[g]? = some (.cells cur.toArray e (0, 0))) (hl : cur.length = n * k) (hus : Rs k w A n us) (h1 : ∀ v ∈ us, v.oneCell' = true) :
    (Builtin.copy_ #[dT, sT] ty #[.slice (some ⟨g, 0, none⟩) n c, .slice A n c']).run Tryz.prog w = .ok (goInt n) (w.setRow g us.toArray) := by
  have hmin : Nat.min n n = n := Nat.min_self n
  cases hq : Tryz.prog.info? e with
  | none => simp [hq] at hs
  | some i =>
    have hi : i.size = k := by simpa [hq] using hs
    have hst := run_storeCells_at Tryz.prog g 0 e us 0 cur.toArray w hg (by simp [hl, hus.1]) h1
    have hdr : cur.drop (n * k) = [] := List.drop_eq_nil_of_le (by omega)
    simp [hus.1, hdr] at hst
    rcases hus.2 with rfl | ⟨b, off, rfl, hc⟩
    · have h0 : n * k = 0 := by simpa using hus.1.symm
      have hl0 : ∀ (x : Addr), (loadCells x 0).run Tryz.prog w = .ok #[] w := fun x => by simpa using run_loadCells_list (P := Tryz.prog) w x [] (by simp)
      cases A <;> simp [Builtin.copy_, run_underlying hu, Builtin.lenOf, Builtin.firstCells, sizeOf, typeInfo, hq, hi, h0, hl0, hst]
    · have hld := run_loadCells_list (P := Tryz.prog) w ⟨b, off, none⟩ us (by
        intro j u hj
        rw [show (⟨b, off, none⟩ : Addr).add j = ⟨b, off + j, none⟩ by unfold Addr.add; split <;> simp_all]
        exact hc j u hj)
      rw [hus.1] at hld
      simp [Builtin.copy_, run_underlying hu, Builtin.lenOf, Builtin.firstCells, sizeOf, typeInfo, hq, hi, hld, hst]
end Go.Proofs.YtfbfbajccphkoaaGreat

namespace Go.Proofs.YtfbfbajccphkoaaGreat
open Go.RowKit

/-- A world in which what W had is as it was. -/
structure Later (W : World) where
  at_ : World
  below : Below W.heap.size W at_

theorem later_drew {W w : World} (h : Below W.heap.size W w) : Below W.heap.size W { w with drawn := w.drawn + 1 } := ⟨h.os, h.tape, h.output, h.size, h.block⟩

/-- 'haveI := later_some W', then 'refine wp_region_later (W := ..) (by kernel_rfl) (by kernel_rfl) hB ?_', then 'repeat (go_big_quiet_step (first | (go_at_call N; exact calls_later (contract ..)) | ..))', then 'refine wpQuiet_nil ?_; rintro _ ⟨x, rfl⟩'. What is loaded: hypotheses '∀ x : Later W, x.at_.cell? p = some v'. -/
theorem wp_region_later {P : Program} {id : Nat} {Q : Exit → Act → World → Prop} {a : Act} {W w : World} {l : List Oper} (hm : P.follows .mixedOrders = true) (hB : Region.lexB .any l.toArray = true) (hw : Below W.heap.size W w)
    (h : wpQuiet P l.toArray (fun w' => ∃ x : Later W, w' = x.at_) (fun a' => ∀ w', (∃ x : Later W, w' = x.at_) → Q .normal a' w') l a) : (Code.region id l.toArray true).wp P Q a w :=
  wp_region_quiet (C := fun w' => ∃ x : Later W, w' = x.at_) hm hB ⟨⟨_, later_drew hw⟩, rfl⟩ (by simpa using h)

theorem calls_later {P : Program} {f : FuncId} {args : Array Value} {W : World} {x : Later W} {v : Value}
    (h : Calls P f args x.at_ fun e w' => e = .returned v ∧ Below x.at_.heap.size x.at_ w') : Calls P f args x.at_ fun e w'' => e = .returned v ∧ ∃ y : Later W, w'' = y.at_ :=
  h.mono fun _ w' ⟨he, hb⟩ => ⟨he, ⟨w', x.below.trans ⟨hb.os, hb.tape, hb.output, hb.size, fun k hk => hb.block k (Nat.lt_of_lt_of_le hk x.below.size)⟩⟩, rfl⟩
/-- A callee that leaves the world as it is. -/
theorem calls_later_same {P : Program} {f : FuncId} {args : Array Value} {W : World} {x : Later W} {v : Value}
    (h : Calls P f args x.at_ fun e w' => e = .returned v ∧ x.at_ = w') : Calls P f args x.at_ fun e w'' => e = .returned v ∧ ∃ y : Later W, w'' = y.at_ :=
  h.mono fun _ _ ⟨he, hw⟩ => ⟨he, x, hw.symm⟩
theorem later_cell {W : World} {p : Addr} {v : Value} (h : W.cell? p = some v) (x : Later W) : x.at_.cell? p = some v := (x.below.cell (World.block_lt_of_cell? W _ h)).trans h
theorem later_some (W : World) : Nonempty (Later W) := ⟨⟨W, Below.refl _ _⟩⟩

end Go.Proofs.YtfbfbajccphkoaaGreat

namespace Go.Proofs.YtfbfbajccphkoaaGreat
open Go.RowKit

section
variable {P : Program} {md : Region.Mode} {ops : Array Oper} {Q : Exit → Act → World → Prop} {S : World → Prop}

theorem held_begin {id : Nat} {a : Act} {w : World} (S : World → Prop) (hm : P.follows .mixedOrders = true) (h : wpAnyH P .any ops Q S ops.size (Array.replicate ops.size false) a w.drew) : (Code.region id ops true).wp P Q a w :=
  wp_region_held hm h
theorem held_read {i : Nat} {o : Oper} {v : Value} {fuel : Nat} {listed : Array Bool} {a : Act} {w : World} (hi : ops[i]? = some o) (hs : Region.noSelect ops = true) (hf : Region.free md ops listed i = true)
    (hr : (Region.ready md ops listed).contains i = true) (hQ : ∀ c a w, Q (.panic c) (a.put o.dst v) w → Q (.panic c) a w) (hw : Region.wanted o (yielded ops a.tmps) = true) (hS : S w)
    (hv : ∀ x : World, S x → (execOp a.eval o).run P x = .ok (.value v) x) (h : wpAnyH P md ops Q S fuel (listed.setIfInBounds i true) (a.put o.dst v) w) : wpAnyH P md ops Q S (fuel + 1) listed a w :=
  wpAnyH_take hi hs hf hr hQ (Or.inl ⟨hw, hv⟩) hS h
theorem held_skip {i : Nat} {o : Oper} {fuel : Nat} {listed : Array Bool} {a : Act} {w : World} (hi : ops[i]? = some o) (hs : Region.noSelect ops = true) (hf : Region.free md ops listed i = true)
    (hr : (Region.ready md ops listed).contains i = true) (hQ : ∀ c a w, Q (.panic c) (a.put o.dst undef) w → Q (.panic c) a w) (hw : Region.wanted o (yielded ops a.tmps) = false) (hS : S w)
    (h : wpAnyH P md ops Q S fuel (listed.setIfInBounds i true) (a.put o.dst undef) w) : wpAnyH P md ops Q S (fuel + 1) listed a w :=
  wpAnyH_take hi hs hf hr hQ (Or.inr ⟨hw, rfl⟩) hS h
/-- The one operation that may come up. -/
theorem held_call {i : Nat} {o : Oper} {fuel : Nat} {listed : Array Bool} {a : Act} {w : World} (hi : ops[i]? = some o) (hr : Region.ready md ops listed = [i]) (hw : Region.wanted o (yielded ops a.tmps) = true)
    (h : ∀ K' : Act → World → Prop, Shut (∀ a' w', S w' → wpAnyH P md ops Q S fuel (listed.setIfInBounds i true) a' w' → K' a' w') → Oper.wp P o a w K' Q) : wpAnyH P md ops Q S (fuel + 1) listed a w := by
  refine wpAnyH_ready hr (by simp) (AllReadyH.cons hi (fun K' hK => ?_) AllReadyH.nil)
  rw [if_pos hw]
  exact h K' (fun a' w' hb hn => hK.out a' w' hb fun _ => hn)
/-- Two operations that may come up. -/
theorem held_two {i j : Nat} {o p : Oper} {fuel : Nat} {listed : Array Bool} {a : Act} {w : World} (hi : ops[i]? = some o) (hj : ops[j]? = some p) (hr : Region.ready md ops listed = [i, j]) (hw : Region.wanted o (yielded ops a.tmps) = true) (hw2 : Region.wanted p (yielded ops a.tmps) = true)
    (h : ∀ K' : Act → World → Prop, Shut (∀ a' w', S w' → wpAnyH P md ops Q S fuel (listed.setIfInBounds i true) a' w' → K' a' w') → Oper.wp P o a w K' Q)
    (h2 : ∀ K' : Act → World → Prop, Shut (∀ a' w', S w' → wpAnyH P md ops Q S fuel (listed.setIfInBounds j true) a' w' → K' a' w') → Oper.wp P p a w K' Q) : wpAnyH P md ops Q S (fuel + 1) listed a w := by
  refine wpAnyH_ready hr (by simp) (AllReadyH.cons hi (fun K' hK => ?_) (AllReadyH.cons hj (fun K' hK => ?_) AllReadyH.nil))
  · rw [if_pos hw]
    exact h K' (fun a' w' hb hn => hK.out a' w' hb fun _ => hn)
  · rw [if_pos hw2]
    exact h2 K' (fun a' w' hb hn => hK.out a' w' hb fun _ => hn)
end
theorem load_at {W x : World} (hx : Below W.heap.size W x) {p : Addr} {v : Value} (h : W.cell? p = some v) : x.cell? p = some v := (hx.cell (World.block_lt_of_cell? W _ h)).trans h
theorem drew_below (w : World) : Below w.heap.size w w.drew := ⟨rfl, rfl, rfl, Nat.le_refl _, fun _ _ => rfl⟩
/-- A new block of one cell in such a region. -/
theorem alloc_out {K X : Act → World → Prop} {w W : World} {B : Nat} {a : Act} {v : Value} {t : TypeId} (hK : Shut (∀ a' w', Below B W w' → X a' w' → K a' w')) (hb : Below B W w) (hB : B ≤ w.heap.size)
    (h : ∀ w', Below B W w' → w'.cell? ⟨w.heap.size, 0, none⟩ = some v ∧ w'.frozen? ⟨w.heap.size, 0, none⟩ = false → Below w.heap.size w w' → X a w') : K a (w.alloc (.cells #[v] t)) :=
  hK.out _ _ (hb.alloc hB _) (h _ (hb.alloc hB _) (by simp) ((Below.refl _ _).alloc (Nat.le_refl _) _))
end Go.Proofs.YtfbfbajccphkoaaGreat

namespace Go.Proofs.YtfbfbajccphkoaaGreat
open Go.RowKit

section
variable {P : Program} {md : Region.Mode} {ops : Array Oper} {Q : Exit → Act → World → Prop}

abbrev since (w : World) : World → Prop := fun x => Below w.heap.size w x

theorem any_strong {S S' : World → Prop} (h : ∀ w, S' w → S w) : ∀ (fuel : Nat) (listed : Array Bool) (a : Act) (w : World), wpAnyH P md ops Q S' fuel listed a w → wpAnyH P md ops Q S fuel listed a w
  | 0, _, _, _, hw => hw
  | fuel + 1, _, _, _, hw => ⟨hw.1, fun i hi => wpOp_mono (fun a' w' h' => ⟨h w' h'.1, any_strong h fuel _ a' w' h'.2⟩) (hw.2 i hi)⟩

/-- The beginning. -/
theorem any_begin {id : Nat} {a : Act} {w : World} (hm : P.follows .mixedOrders = true) (h : wpAnyH P .any ops Q (since w.drew) ops.size (Array.replicate ops.size false) a w.drew) : (Code.region id ops true).wp P Q a w :=
  wp_region_held hm h
/-- A read that may come up is taken first: in every later world it yields the same. -/
theorem any_read {i : Nat} {o : Oper} {v : Value} {fuel : Nat} {listed : Array Bool} {a : Act} {w : World} (hi : ops[i]? = some o) (hs : Region.noSelect ops = true) (hf : Region.free md ops listed i = true)
    (hr : (Region.ready md ops listed).contains i = true) (hQ : ∀ c a w, Q (.panic c) (a.put o.dst v) w → Q (.panic c) a w) (hw : Region.wanted o (yielded ops a.tmps) = true)
    (hv : ∀ x : Later w, (execOp a.eval o).run P x.at_ = .ok (.value v) x.at_) (h : wpAnyH P md ops Q (since w) fuel (listed.setIfInBounds i true) (a.put o.dst v) w) : wpAnyH P md ops Q (since w) (fuel + 1) listed a w :=
  wpAnyH_take hi hs hf hr hQ (Or.inl ⟨hw, fun x hx => hv ⟨x, hx⟩⟩) (Below.refl _ _) h
/-- An operation that its guard forbids. -/
theorem any_skip {i : Nat} {o : Oper} {fuel : Nat} {listed : Array Bool} {a : Act} {w : World} (hi : ops[i]? = some o) (hs : Region.noSelect ops = true) (hf : Region.free md ops listed i = true)
    (hr : (Region.ready md ops listed).contains i = true) (hQ : ∀ c a w, Q (.panic c) (a.put o.dst undef) w → Q (.panic c) a w) (hw : Region.wanted o (yielded ops a.tmps) = false)
    (h : wpAnyH P md ops Q (since w) fuel (listed.setIfInBounds i true) (a.put o.dst undef) w) : wpAnyH P md ops Q (since w) (fuel + 1) listed a w :=
  wpAnyH_take hi hs hf hr hQ (Or.inr ⟨hw, rfl⟩) (Below.refl _ _) h
/-- The one call that may come up. -/
theorem any_call {i : Nat} {o : Oper} {fuel : Nat} {listed : Array Bool} {a : Act} {w : World} (hi : ops[i]? = some o) (hr : Region.ready md ops listed = [i]) (hw : Region.wanted o (yielded ops a.tmps) = true)
    (h : ∀ K' : Act → World → Prop, Shut (∀ a' w', Below w.heap.size w w' → wpAnyH P md ops Q (since w') fuel (listed.setIfInBounds i true) a' w' → K' a' w') → Oper.wp P o a w K' Q) : wpAnyH P md ops Q (since w) (fuel + 1) listed a w := by
  refine wpAnyH_ready hr (by simp) (AllReadyH.cons hi (fun K' hK => ?_) AllReadyH.nil)
  rw [if_pos hw]
  refine h K' (fun a' w' hb hn => hK.out a' w' hb fun _ => ?_)
  exact any_strong (fun x hx => hb.trans ⟨hx.os, hx.tape, hx.output, hx.size, fun k hk => hx.block k (Nat.lt_of_lt_of_le hk hb.size)⟩) _ _ _ _ hn
end
end Go.Proofs.YtfbfbajccphkoaaGreat

namespace Go.Proofs.YtfbfbajccphkoaaGreat
open Go.RowKit

section
variable {P : Program} {ops : Array Oper} {Q : Exit → Act → World → Prop}
/-- Behind the first part: the second. -/
def Second (P : Program) (ops : Array Oper) (Q : Exit → Act → World → Prop) (l : List Oper) : Exit → Act → World → Prop
  | .normal, a, w => wpList P ops Q l a w
  | e, a, w => Q e a w
theorem second_lets {l : List Oper} (h : LetsOut (Second P ops Q l)) : LetsOut Q := h
theorem second_op {l : List Oper} {o : Oper} {a : Act} {w : World} {K : Act → World → Prop} (hh : o.wp P a w K (Second P ops Q l)) : o.wp P a w K Q := by
  unfold Oper.wp at *
  generalize (execOp a.eval o).run P w = r at *
  cases r with
  | ok n w' =>
    cases n <;> simp only [Oper.upon] at hh ⊢ <;>
      first
        | exact hh
        | exact Calls.mono hh (fun e w'' he => by cases e <;> exact he)
  | halt x w' => cases x <;> simp only [Oper.upon] at hh ⊢ <;> exact hh
theorem wpList_split (l2 : List Oper) : ∀ (l1 : List Oper) (a : Act) (w : World), wpList P ops (Second P ops Q l2) l1 a w → wpList P ops Q (l1 ++ l2) a w
  | [], _, _, h => h
  | o :: l, a, w, h => by
    rw [List.cons_append]
    unfold wpList at h ⊢
    split at h
    · rename_i hw
      rw [if_pos hw]
      rcases h with h | h
      · exact .inl (second_op (Oper.wp_mono (fun a w h => wpList_split l2 l a w h) h))
      · exact .inr ⟨h.1, second_lets h.2⟩
    · rename_i hw
      rw [if_neg hw]
      exact wpList_split l2 l _ _ h
/-- A plain region, its first n operations apart. -/
theorem region_split {id : Nat} {l : List Oper} {a : Act} {w : World} (n : Nat) (h : wpList P l.toArray (Second P l.toArray Q (l.drop n)) (l.take n) a w) : (Code.region id l.toArray false).wp P Q a w := by
  refine wp_region_lit ?_
  have := wpList_split (l.drop n) (l.take n) a w h
  rw [List.take_append_drop] at this
  exact this
end
end Go.Proofs.YtfbfbajccphkoaaGreat
