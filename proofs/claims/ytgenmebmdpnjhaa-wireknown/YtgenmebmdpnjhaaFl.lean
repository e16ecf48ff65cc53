
/- Floats of 64 bits as exact scaled integers: order, whole parts. Plain mathematics; nothing of the program. -/
import Ieee.Arith
namespace Go.Proofs.Ytgenmebmdpnjhaa
namespace Fl
open Ieee

def bin : Nat := 2 ^ 52
def inf : Nat := 2047 * 2 ^ 52
def sw : Nat := 2 ^ 63

theorem d_bin : double.binade = bin := rfl
theorem d_inf : double.infRung = inf := by decide
theorem d_sw : double.signWeight = sw := by decide
theorem d_lp : double.leastPlace = -1074 := by decide

/-- A rung's magnitude, in units of 2^-1074; of the rung of infinity one beyond all others. -/
def K (r : Nat) : Nat := if r < bin then r else (bin + r % bin) * 2 ^ (r / bin - 1)

theorem bin_pos : 0 < bin := by decide

theorem K_succ (r : Nat) : K r < K (r + 1) := by
  unfold K
  by_cases h : r + 1 < bin
  · rw [if_pos (by omega), if_pos h]; omega
  by_cases h0 : r + 1 = bin
  · rw [if_pos (by omega), if_neg (by omega), h0, Nat.mod_self, Nat.div_self bin_pos]; simp; omega
  have hr : ¬ r < bin := by omega
  rw [if_neg hr, if_neg h]
  have q1 : 1 ≤ r / bin := (Nat.one_le_div_iff bin_pos).2 (by omega)
  have hm := Nat.mod_lt r bin_pos
  by_cases hc : r % bin + 1 < bin
  · have e1 : (r + 1) % bin = r % bin + 1 := by rw [Nat.add_mod, Nat.mod_eq_of_lt (a := 1) (by decide), Nat.mod_eq_of_lt hc]
    have e2 : (r + 1) / bin = r / bin := by
      have a := Nat.div_add_mod r bin
      have b := Nat.div_add_mod (r + 1) bin
      rw [e1] at b
      have : bin * (r / bin) = bin * ((r + 1) / bin) := by omega
      exact (Nat.eq_of_mul_eq_mul_left bin_pos this).symm
    rw [e1, e2]
    exact Nat.mul_lt_mul_of_pos_right (by omega) (Nat.two_pow_pos _)
  · have e0 : r % bin + 1 = bin := by omega
    have e1 : (r + 1) = bin * (r / bin + 1) := by
      have a := Nat.div_add_mod r bin
      rw [Nat.mul_add]; omega
    have e2 : (r + 1) % bin = 0 := by rw [e1]; exact Nat.mul_mod_right _ _
    have e3 : (r + 1) / bin = r / bin + 1 := by rw [e1]; exact Nat.mul_div_cancel_left _ bin_pos
    rw [e2, e3]
    have : 2 ^ (r / bin + 1 - 1) = 2 * 2 ^ (r / bin - 1) := by
      rw [show r / bin + 1 - 1 = (r / bin - 1) + 1 by omega, Nat.pow_succ, Nat.mul_comm]
    rw [this, Nat.add_zero, ← Nat.mul_assoc]
    exact Nat.mul_lt_mul_of_pos_right (by omega) (Nat.two_pow_pos _)

theorem K_lt {r s : Nat} (h : r < s) : K r < K s := by
  induction s with
  | zero => omega
  | succ s ih =>
    by_cases e : r = s
    · subst e; exact K_succ r
    · exact Nat.lt_trans (ih (by omega)) (K_succ s)

theorem K_zero : K 0 = 0 := by decide
theorem K_inj {r s : Nat} (h : K r = K s) : r = s := by
  rcases Nat.lt_trichotomy r s with h1 | h1 | h1
  · have := K_lt h1; omega
  · exact h1
  · have := K_lt h1; omega

def rung (x : Nat) : Nat := x % sw
def neg (x : Nat) : Bool := x / sw % 2 == 1
def nan (x : Nat) : Bool := decide (inf < rung x)
/-- The number, in units of 2^-1074. -/
def Z (x : Nat) : Int := if neg x then -(K (rung x) : Int) else K (rung x)

theorem read_nan {x : Nat} (h : nan x = true) : ∃ s t, double.read x = .nan s t := by
  have h' : inf < x % sw := of_decide_eq_true h
  have : bin < inf := by decide
  refine ⟨neg x, x % sw - inf, ?_⟩
  unfold Format.read
  simp only [d_bin, d_inf, d_sw]
  rw [if_neg (by omega), if_neg (by omega), if_neg (by omega)]
  rfl

theorem read_inf {x : Nat} (h : rung x = inf) : double.read x = .infinity (neg x) := by
  have h' : x % sw = inf := h
  have : bin < inf := by decide
  unfold Format.read
  simp only [d_bin, d_inf, d_sw]
  rw [if_neg (by omega), if_neg (by omega), if_pos h']
  rfl

/-- A finite word: its digits and its place; the place is never below the least. -/
theorem read_num {x : Nat} (h : rung x < inf) : ∃ (m : Nat) (e : Nat), double.read x = .number (neg x) m (-1074 + (e : Int)) ∧ m * 2 ^ e = K (rung x) ∧ m < 2 * bin ∧ e ≤ 2045 := by
  have h' : x % sw < inf := h
  unfold Format.read
  simp only [d_bin, d_inf, d_sw, d_lp]
  by_cases hb : x % sw < bin
  · rw [if_pos hb]
    refine ⟨x % sw, 0, ?_, ?_, by omega, by omega⟩
    · simp [neg]
    · simp [K, rung, hb]
  · rw [if_neg hb, if_pos h']
    refine ⟨bin + x % sw % bin, x % sw / bin - 1, rfl, ?_, ?_, ?_⟩
    · simp [K, rung, hb]
    · have := Nat.mod_lt (x % sw) bin_pos; omega
    · have : x % sw / bin < 2047 := Nat.div_lt_of_lt_mul (by rw [Nat.mul_comm]; exact h')
      omega

theorem signed_scale (s : Bool) (m a b : Nat) : signed s m a * (2 ^ b : Nat) = if s then -((m * 2 ^ (a + b) : Nat) : Int) else ((m * 2 ^ (a + b) : Nat) : Int) := by
  unfold signed
  cases s <;> simp [Nat.shiftLeft_eq, Nat.pow_add, Int.mul_assoc, Int.neg_mul]

theorem compare_scale (a b : Int) (p : Nat) (hp : 0 < p) : compare (a * (p : Int)) (b * (p : Int)) = compare a b := by
  have hp' : (0 : Int) < p := by omega
  rcases Int.lt_trichotomy a b with h | h | h
  · rw [Int.compare_eq_lt.2 h, Int.compare_eq_lt.2 (Int.mul_lt_mul_of_pos_right h hp')]
  · subst h; rw [Int.compare_eq_eq.2 rfl, Int.compare_eq_eq.2 rfl]
  · rw [Int.compare_eq_gt.2 h, Int.compare_eq_gt.2 (Int.mul_lt_mul_of_pos_right h hp')]

theorem order_nan_l {x y : Nat} (h : nan x = true) : double.order x y = none := by
  obtain ⟨s, t, e⟩ := read_nan h
  simp [Format.order, e, Datum.order]

theorem order_nan_r {x y : Nat} (h : nan y = true) : double.order x y = none := by
  obtain ⟨s, t, e⟩ := read_nan h
  unfold Format.order
  rw [e]
  cases double.read x <;> rfl

theorem rung_le_of {x : Nat} (h : nan x = false) : rung x ≤ inf := by
  simpa [nan] using h

theorem compare_lt' {a b : Int} (h : a < b) : compare a b = .lt := Int.compare_eq_lt.2 h
theorem compare_gt' {a b : Int} (h : b < a) : compare a b = .gt := Int.compare_eq_gt.2 h

theorem order_num {x y : Nat} (hx : nan x = false) (hy : nan y = false) : double.order x y = some (compare (Z x) (Z y)) := by
  have hx' := rung_le_of hx
  have hy' := rung_le_of hy
  have kp : 0 < K inf := by have := K_lt (r := 0) (s := inf) (by decide); omega
  unfold Format.order Z
  by_cases ex : rung x = inf
  · rw [read_inf ex]
    by_cases ey : rung y = inf
    · rw [read_inf ey, ex, ey]
      simp only [Datum.order]
      generalize K inf = k at kp
      have c1 : compare (k : Int) (-(k : Int)) = .gt := compare_gt' (by omega)
      have c2 : compare (-(k : Int)) (k : Int) = .lt := compare_lt' (by omega)
      cases neg x <;> cases neg y <;> simp [c1, c2] <;> rfl
    · obtain ⟨m, e, hr, hm, _, _⟩ := read_num (x := y) (by omega)
      have kl : K (rung y) < K inf := K_lt (by omega)
      rw [hr, ex]
      simp only [Datum.order]
      cases neg x <;> cases neg y <;> simp <;> symm <;> first | exact compare_gt' (by omega) | exact compare_lt' (by omega)
  · obtain ⟨m, e, hr, hm, _, _⟩ := read_num (x := x) (by omega)
    have kx : K (rung x) < K inf := K_lt (by omega)
    by_cases ey : rung y = inf
    · rw [hr, read_inf ey, ey]
      simp only [Datum.order]
      cases neg x <;> cases neg y <;> simp <;> symm <;> first | exact compare_gt' (by omega) | exact compare_lt' (by omega)
    · obtain ⟨n, g, hs, hn, _, _⟩ := read_num (x := y) (by omega)
      rw [hr, hs]
      simp only [Datum.order]
      rw [← compare_scale _ _ (2 ^ (min e g)) (Nat.two_pow_pos _), signed_scale, signed_scale]
      have e1 : (-1074 + (e : Int) - min (-1074 + (e : Int)) (-1074 + (g : Int))).toNat + min e g = e := by omega
      have e2 : (-1074 + (g : Int) - min (-1074 + (e : Int)) (-1074 + (g : Int))).toNat + min e g = g := by omega
      rw [e1, e2, hm, hn]

/-! ### Whole parts -/

/-- One, in units of 2^-1074. -/
def P : Nat := 1074
def U : Nat := 2 ^ P
theorem P_is : P = 1074 := rfl
theorem U_pos : 0 < U := Nat.two_pow_pos _

theorem gap_div (n drop : Nat) : n / (1 <<< min drop (n.log2 + 2)) = n / 2 ^ drop ∧ n % (1 <<< min drop (n.log2 + 2)) = n % 2 ^ drop := by
  rw [Nat.shiftLeft_eq, Nat.one_mul]
  by_cases h : drop ≤ n.log2 + 2
  · rw [Nat.min_eq_left h]; exact ⟨rfl, rfl⟩
  · rw [Nat.min_eq_right (by omega)]
    have h1 : n < 2 ^ (n.log2 + 1) := Nat.lt_log2_self
    have h2 : n < 2 ^ (n.log2 + 2) := Nat.lt_of_lt_of_le h1 (Nat.pow_le_pow_right (by omega) (by omega))
    have h3 : n < 2 ^ drop := Nat.lt_of_lt_of_le h2 (Nat.pow_le_pow_right (by omega) (by omega))
    exact ⟨by rw [Nat.div_eq_of_lt h2, Nat.div_eq_of_lt h3], by rw [Nat.mod_eq_of_lt h2, Nat.mod_eq_of_lt h3]⟩

theorem cut_down (s : Bool) (n drop : Nat) : Toward.down.cut s n drop = n / 2 ^ drop + (s && n % 2 ^ drop != 0).toNat := by
  unfold Toward.cut
  simp only [(gap_div n drop).1, (gap_div n drop).2]

theorem cut_zero (s : Bool) (n drop : Nat) : Toward.zero.cut s n drop = n / 2 ^ drop := by
  unfold Toward.cut
  simp only [(gap_div n drop).1]
  rfl

theorem cut_even (s : Bool) (n drop : Nat) (h : n % 2 ^ drop = 0) : Toward.even.cut s n drop = n / 2 ^ drop := by
  unfold Toward.cut
  simp only [(gap_div n drop).1, (gap_div n drop).2, h]
  rw [Nat.shiftLeft_eq, Nat.one_mul]
  have := Nat.two_pow_pos (min drop (n.log2 + 2))
  have h1 : ¬ (2 ^ min drop (n.log2 + 2) < 2 * 0) := by omega
  have h2 : (2 ^ min drop (n.log2 + 2) == 2 * 0) = false := by
    rw [beq_eq_false_iff_ne]; omega
  simp [h2]

/-- What is above, and what is below, the point, of digits at a place. -/
theorem whole_parts (m e : Nat) : (m <<< (-1074 + (e : Int)).toNat) / 2 ^ (-(-1074 + (e : Int))).toNat = m * 2 ^ e / U ∧
    ((m <<< (-1074 + (e : Int)).toNat) % 2 ^ (-(-1074 + (e : Int))).toNat = 0 ↔ m * 2 ^ e % U = 0) := by
  rw [Nat.shiftLeft_eq]
  unfold U
  have hP := P_is
  generalize P = p at hP
  by_cases h : p ≤ e
  · have e1 : (-1074 + (e : Int)).toNat = e - p := by omega
    have e2 : (-(-1074 + (e : Int))).toNat = 0 := by omega
    have e3 : m * 2 ^ e = m * 2 ^ (e - p) * 2 ^ p := by rw [Nat.mul_assoc, ← Nat.pow_add, Nat.sub_add_cancel h]
    rw [e1, e2, e3, Nat.mul_div_cancel _ (Nat.two_pow_pos _), Nat.mul_mod_left, Nat.pow_zero, Nat.div_one, Nat.mod_one]
    exact ⟨rfl, Iff.rfl⟩
  · have e1 : (-1074 + (e : Int)).toNat = 0 := by omega
    have e2 : (-(-1074 + (e : Int))).toNat = p - e := by omega
    have e3 : (2 : Nat) ^ p = 2 ^ (p - e) * 2 ^ e := by rw [← Nat.pow_add, Nat.sub_add_cancel (by omega)]
    rw [e1, e2, e3, Nat.pow_zero, Nat.mul_one, Nat.mul_div_mul_right _ _ (Nat.two_pow_pos _), Nat.mul_mod_mul_right]
    refine ⟨rfl, ?_⟩
    rw [Nat.mul_eq_zero]
    have := Nat.two_pow_pos e
    omega

theorem rung_word (s : Bool) {r : Nat} (h : r < sw) : rung (double.word s r) = r ∧ neg (double.word s r) = s ∧ double.word s r < 2 ^ 64 := by
  unfold Format.word rung neg
  rw [d_sw]
  have hp : 0 < sw := by decide
  have h2 : 2 * sw = 2 ^ 64 := by decide
  cases s
  · simp only [Bool.false_eq_true, if_false]
    rw [Nat.mod_eq_of_lt h, Nat.div_eq_of_lt h]
    exact ⟨rfl, rfl, by omega⟩
  · simp only [if_true]
    rw [Nat.add_mod_left, Nat.mod_eq_of_lt h, Nat.add_div_left _ hp, Nat.div_eq_of_lt h]
    exact ⟨rfl, rfl, by omega⟩

/-- Whole numbers of at most 53 digits (noughts behind them apart) are written as they are. -/
theorem nearest_exact (s : Bool) (c k F : Nat) (hF : F = c * 2 ^ k) (hc : c < 2 * bin) (h0 : 0 < F) (h64 : F < 2 ^ 64) :
    ∃ r, double.nearest s F 0 = double.word s r ∧ K r = F * U ∧ r < inf := by
  have hL1 : 2 ^ F.log2 ≤ F := Nat.log2_self_le (by omega)
  have hL2 : F < 2 ^ (F.log2 + 1) := Nat.lt_log2_self
  have hL : F.log2 < 64 := (Nat.log2_lt (by omega)).2 h64
  have hdiv : F * 2 ^ (52 - F.log2) % 2 ^ (F.log2 - 52) = 0 := by
    by_cases h : F.log2 ≤ 52
    · rw [show F.log2 - 52 = 0 by omega, Nat.pow_zero, Nat.mod_one]
    · have hk : F.log2 - 52 ≤ k := by
        have h1 : 2 ^ F.log2 < 2 ^ (53 + k) := by
          have : c * 2 ^ k < 2 * bin * 2 ^ k := Nat.mul_lt_mul_of_pos_right hc (Nat.two_pow_pos _)
          have e : 2 * bin * 2 ^ k = 2 ^ (53 + k) := by rw [Nat.pow_add]; rfl
          omega
        have := (Nat.pow_lt_pow_iff_right (a := 2) (by omega)).1 h1
        omega
      have e : F = c * 2 ^ (k - (F.log2 - 52)) * 2 ^ (F.log2 - 52) := by rw [Nat.mul_assoc, ← Nat.pow_add, Nat.sub_add_cancel hk, ← hF]
      rw [show 52 - F.log2 = 0 by omega, Nat.pow_zero, Nat.mul_one]
      generalize F.log2 - 52 = d at e
      rw [e]
      exact Nat.mul_mod_left _ _
  generalize hg : F * 2 ^ (52 - F.log2) / 2 ^ (F.log2 - 52) = g
  have hmul : g * 2 ^ (F.log2 - 52) = F * 2 ^ (52 - F.log2) := by
    rw [← hg]; exact Nat.div_mul_cancel (Nat.dvd_of_mod_eq_zero hdiv)
  have hsum : g * 2 ^ F.log2 = F * 2 ^ 52 := by
    by_cases h : F.log2 ≤ 52
    · rw [show F.log2 - 52 = 0 by omega, Nat.pow_zero, Nat.mul_one] at hmul
      rw [hmul, Nat.mul_assoc, ← Nat.pow_add, Nat.sub_add_cancel h]
    · rw [show 52 - F.log2 = 0 by omega, Nat.pow_zero, Nat.mul_one] at hmul
      rw [show F * 2 ^ 52 = g * 2 ^ (F.log2 - 52) * 2 ^ 52 by rw [hmul], Nat.mul_assoc, ← Nat.pow_add, Nat.sub_add_cancel (by omega)]
  have hp := Nat.two_pow_pos F.log2
  have g1 : bin ≤ g := by
    refine Nat.le_of_mul_le_mul_right (c := 2 ^ F.log2) ?_ hp
    rw [hsum, Nat.mul_comm]; exact Nat.mul_le_mul_right _ hL1
  have g2 : g < 2 * bin := by
    refine Nat.lt_of_mul_lt_mul_right (a := 2 ^ F.log2) ?_
    rw [hsum, show 2 * bin * 2 ^ F.log2 = 2 ^ (F.log2 + 1) * 2 ^ 52 by rw [Nat.pow_succ, Nat.mul_comm (2 ^ F.log2), Nat.mul_right_comm]; rfl]
    exact Nat.mul_lt_mul_of_pos_right hL2 (Nat.two_pow_pos _)
  have hlt : (F.log2 + 1022) * bin + g < inf := by
    have : (F.log2 + 1022) * bin ≤ 1085 * bin := Nat.mul_le_mul_right _ (by omega)
    have e : inf = 2047 * bin := rfl
    omega
  refine ⟨(F.log2 + 1022) * bin + g, ?_, ?_, hlt⟩
  · unfold Format.nearest
    simp only [d_bin, d_inf, d_lp]
    rw [if_neg (by omega)]
    have e0 : max (0 + (F.log2 : Int) - (double.fractionBits : Nat)) (-1074) = (F.log2 : Int) - 52 := by
      have : ((double.fractionBits : Nat) : Int) = 52 := rfl
      rw [this]; omega
    rw [e0]
    have e1 : (0 - ((F.log2 : Int) - 52)).toNat = 52 - F.log2 := by omega
    have e2 : ((F.log2 : Int) - 52 - 0).toNat = F.log2 - 52 := by omega
    have e3 : ((F.log2 : Int) - 52 - -1074).toNat = F.log2 + 1022 := by omega
    rw [e1, e2, e3, Nat.shiftLeft_eq, cut_even _ _ _ hdiv, hg, Nat.min_eq_left (by omega)]
  · unfold K
    have hge : bin ≤ (F.log2 + 1022) * bin + g := by omega
    rw [if_neg (by omega)]
    have q : ((F.log2 + 1022) * bin + g) / bin = F.log2 + 1023 := by
      rw [Nat.add_comm, Nat.add_mul_div_right _ _ bin_pos]
      have : g / bin = 1 := Nat.div_eq_of_lt_le (by omega) (by omega)
      omega
    have t : ((F.log2 + 1022) * bin + g) % bin = g - bin := by
      rw [Nat.add_comm, Nat.add_mul_mod_self_right, Nat.mod_eq_sub_mod g1, Nat.mod_eq_of_lt (by omega)]
    rw [q, t, show bin + (g - bin) = g by omega, show F.log2 + 1023 - 1 = F.log2 + 1022 by omega]
    have hP := P_is
    unfold U
    generalize P = p at hP
    rw [show F.log2 + 1022 = F.log2 + (p - 52) by omega, Nat.pow_add, ← Nat.mul_assoc, hsum, Nat.mul_assoc, ← Nat.pow_add, show 52 + (p - 52) = p by omega]

/-- A whole number as a float: what it is, and what it is as an integer again. -/
theorem whole_spec (s : Bool) (c k F : Nat) (hF : F = c * 2 ^ k) (hc : c < 2 * bin) (h64 : F < 2 ^ 64) :
    double.nearest s F 0 < 2 ^ 64 ∧ rung (double.nearest s F 0) < inf ∧ K (rung (double.nearest s F 0)) = F * U ∧ neg (double.nearest s F 0) = s ∧
      (double.read (double.nearest s F 0)).toInt .zero = some (if s then -(F : Int) else F) := by
  have key : ∃ r, double.nearest s F 0 = double.word s r ∧ K r = F * U ∧ r < inf := by
    by_cases h0 : 0 < F
    · exact nearest_exact s c k F hF hc h0 h64
    · have : F = 0 := by omega
      subst this
      exact ⟨0, by simp [Format.nearest], by simp [K_zero], by decide⟩
  obtain ⟨r, e, hK, hr⟩ := key
  obtain ⟨w1, w2, w3⟩ := rung_word s (r := r) (Nat.lt_trans hr (by decide))
  rw [e]
  refine ⟨w3, by rw [w1]; exact hr, by rw [w1]; exact hK, w2, ?_⟩
  obtain ⟨m, p, hread, hm, _, _⟩ := read_num (x := double.word s r) (by rw [w1]; exact hr)
  rw [hread, w2]
  simp only [Datum.toInt, Datum.integral]
  rw [cut_zero, (whole_parts m p).1, hm, w1, hK, Nat.mul_div_cancel _ U_pos]
  unfold signed
  rw [Nat.shiftLeft_zero]

def flo (x : Nat) : Nat := double.write ((double.read x).integral .down)
def trn (x : Nat) : Nat := double.write ((double.read x).integral .zero)

/-- The magnitude of the floor. -/
def floMag (x : Nat) : Nat := K (rung x) / U + (neg x && K (rung x) % U != 0).toNat

theorem toNat_le (b : Bool) : b.toNat ≤ 1 := by cases b <;> simp

theorem flo_is {x : Nat} (h : rung x < inf) : ∃ c k, flo x = double.nearest (neg x) (floMag x) 0 ∧ floMag x = c * 2 ^ k ∧ c < 2 * bin := by
  obtain ⟨m, e, hr, hm, hm2, he⟩ := read_num h
  obtain ⟨p1, p2⟩ := whole_parts m e
  have e1 : flo x = double.nearest (neg x) (floMag x) 0 := by
    unfold flo floMag
    rw [hr]
    simp only [Datum.integral, Format.write]
    rw [cut_down, p1, ← hm]
    have : ((m <<< (-1074 + (e : Int)).toNat) % 2 ^ (-(-1074 + (e : Int))).toNat != 0) = (m * 2 ^ e % U != 0) := by
      rw [Bool.eq_iff_iff]; simp only [bne_iff_ne, ne_eq, p2]
    rw [this]
  by_cases hp : 1074 ≤ e
  · refine ⟨m, e - 1074, e1, ?_, hm2⟩
    unfold floMag
    have e3 : m * 2 ^ e = m * 2 ^ (e - 1074) * U := by
      have hP := P_is
      unfold U
      generalize P = q at hP
      rw [Nat.mul_assoc, ← Nat.pow_add, show e - 1074 + q = e by omega]
    rw [← hm, e3, Nat.mul_div_cancel _ U_pos, Nat.mul_mod_left]
    simp
  · refine ⟨floMag x, 0, e1, by simp, ?_⟩
    unfold floMag
    have l : K (rung x) / U < bin := by
      rw [← hm]
      refine Nat.div_lt_of_lt_mul ?_
      have hP := P_is
      unfold U
      generalize P = q at hP
      have e4 : (2 : Nat) ^ q = 2 ^ (q - e - 1) * 2 * 2 ^ e := by
        rw [← Nat.pow_succ, ← Nat.pow_add, show q - e - 1 + 1 + e = q by omega]
      rw [e4, show 2 ^ (q - e - 1) * 2 * 2 ^ e * bin = 2 ^ (q - e - 1) * (2 * bin) * 2 ^ e by rw [Nat.mul_right_comm, Nat.mul_assoc (2 ^ (q - e - 1))]]
      refine Nat.mul_lt_mul_of_pos_right ?_ (Nat.two_pow_pos _)
      exact Nat.lt_of_lt_of_le hm2 (Nat.le_mul_of_pos_left _ (Nat.two_pow_pos _))
    have := toNat_le (neg x && K (rung x) % U != 0)
    have : 1 < bin := by decide
    omega

theorem trn_is {x : Nat} (h : rung x < inf) : ∃ c k, trn x = double.nearest (neg x) (K (rung x) / U) 0 ∧ K (rung x) / U = c * 2 ^ k ∧ c < 2 * bin := by
  obtain ⟨m, e, hr, hm, hm2, he⟩ := read_num h
  obtain ⟨p1, p2⟩ := whole_parts m e
  have e1 : trn x = double.nearest (neg x) (K (rung x) / U) 0 := by
    unfold trn
    rw [hr]
    simp only [Datum.integral, Format.write]
    rw [cut_zero, p1, ← hm]
  by_cases hp : 1074 ≤ e
  · refine ⟨m, e - 1074, e1, ?_, hm2⟩
    have e3 : m * 2 ^ e = m * 2 ^ (e - 1074) * U := by
      have hP := P_is
      unfold U
      generalize P = q at hP
      rw [Nat.mul_assoc, ← Nat.pow_add, show e - 1074 + q = e by omega]
    rw [← hm, e3, Nat.mul_div_cancel _ U_pos]
  · refine ⟨K (rung x) / U, 0, e1, by simp, ?_⟩
    rw [← hm]
    refine Nat.div_lt_of_lt_mul ?_
    have hP := P_is
    unfold U
    generalize P = q at hP
    have e4 : (2 : Nat) ^ q = 2 ^ (q - e) * 2 ^ e := by rw [← Nat.pow_add, show q - e + e = q by omega]
    rw [e4, Nat.mul_right_comm]
    refine Nat.mul_lt_mul_of_pos_right ?_ (Nat.two_pow_pos _)
    exact Nat.lt_of_lt_of_le hm2 (Nat.le_mul_of_pos_left _ (Nat.two_pow_pos _))

/-- Within 64 bits: at least -2^63, below 2^63. -/
def fits (x : Nat) : Prop := nan x = false ∧ -(2 ^ 63 * (U : Int)) ≤ Z x ∧ Z x < 2 ^ 63 * (U : Int)

theorem fits_K {x : Nat} (h : fits x) : rung x < inf ∧ K (rung x) ≤ 2 ^ 63 * U := by
  obtain ⟨hn, h1, h2⟩ := h
  have hk : K (rung x) ≤ 2 ^ 63 * U := by
    unfold Z at h1 h2
    generalize U = u at h1 h2 ⊢
    generalize K (rung x) = k at h1 h2 ⊢
    cases hg : neg x <;> simp only [hg, Bool.false_eq_true, if_true, if_false] at h1 h2 <;> omega
  refine ⟨?_, hk⟩
  have := rung_le_of hn
  refine Nat.lt_of_le_of_ne this fun e => ?_
  rw [e] at hk
  have hU : 2 ^ 63 * U < K inf := by
    unfold K
    rw [if_neg (by decide)]
    have e1 : inf % bin = 0 := by decide
    have e2 : inf / bin - 1 = 2046 := by decide
    rw [e1, e2, Nat.add_zero]
    have hP := P_is
    unfold U
    generalize P = q at hP
    generalize h46 : 2046 = t
    have : 2 ^ 63 * 2 ^ q = 2 ^ (63 + q) := by rw [Nat.pow_add]
    rw [this, show bin * 2 ^ t = 2 ^ (52 + t) by rw [Nat.pow_add]; rfl]
    exact Nat.pow_lt_pow_right (by omega) (by omega)
  omega

theorem floMag_Z {x : Nat} : (if neg x then -(floMag x : Int) else floMag x) = Z x / (U : Int) := by
  have hU : (0 : Int) < U := by have := U_pos; omega
  unfold floMag Z
  have hd := Nat.div_add_mod (K (rung x)) U
  have hm := Nat.mod_lt (K (rung x)) U_pos
  generalize K (rung x) = k at hd hm
  cases hn : neg x
  · simp
  · simp only [if_true, Bool.true_and]
    by_cases h0 : k % U = 0
    · have : (k % U != 0) = false := by simp [h0]
      rw [this]
      simp only [Bool.toNat_false, Nat.add_zero]
      have := (Int.ediv_emod_unique (a := -(k : Int)) (b := U) (r := 0) (q := -((k / U : Nat) : Int)) hU).2 ⟨by
        rw [Int.mul_neg, ← Int.natCast_mul]; omega, by omega, hU⟩
      exact this.1.symm
    · have : (k % U != 0) = true := by simp [h0]
      rw [this]
      simp only [Bool.toNat_true]
      have := (Int.ediv_emod_unique (a := -(k : Int)) (b := U) (r := (U : Int) - ((k % U : Nat) : Int)) (q := -((k / U + 1 : Nat) : Int)) hU).2 ⟨by
        rw [Int.mul_neg, ← Int.natCast_mul, Nat.mul_add, Nat.mul_one]; omega, by omega, by omega⟩
      exact this.1.symm

theorem floMag_le {x : Nat} (h : K (rung x) ≤ 2 ^ 63 * U) : floMag x < 2 ^ 64 := by
  unfold floMag
  have : K (rung x) / U ≤ 2 ^ 63 := Nat.div_le_of_le_mul (by rw [Nat.mul_comm]; exact h)
  have := toNat_le (neg x && K (rung x) % U != 0)
  omega

theorem nan_of_lt {x : Nat} (h : rung x < inf) : nan x = false := by
  unfold nan
  rw [decide_eq_false_iff_not]; omega

theorem flo_spec {x : Nat} (h : fits x) : flo x < 2 ^ 64 ∧ nan (flo x) = false ∧ Z (flo x) = Z x / (U : Int) * (U : Int) ∧ (double.read (flo x)).toInt .zero = some (Z x / (U : Int)) := by
  obtain ⟨h1, h2⟩ := fits_K h
  obtain ⟨c, k, e, hF, hc⟩ := flo_is h1
  obtain ⟨a1, a2, a3, a4, a5⟩ := whole_spec (neg x) c k (floMag x) hF hc (floMag_le h2)
  rw [← e] at a1 a2 a3 a4 a5
  refine ⟨a1, nan_of_lt a2, ?_, by rw [a5, floMag_Z]⟩
  rw [← floMag_Z]
  rw [show Z (flo x) = if neg (flo x) then -(K (rung (flo x)) : Int) else K (rung (flo x)) from rfl, a4, a3]
  cases neg x <;> simp [Int.neg_mul]

theorem trn_spec {x : Nat} (h : fits x) : trn x < 2 ^ 64 ∧ nan (trn x) = false ∧ Z (trn x) = (Z x).tdiv (U : Int) * (U : Int) ∧ (double.read (trn x)).toInt .zero = some ((Z x).tdiv (U : Int)) := by
  obtain ⟨h1, h2⟩ := fits_K h
  obtain ⟨c, k, e, hF, hc⟩ := trn_is h1
  have hl : K (rung x) / U < 2 ^ 64 := by
    have : K (rung x) / U ≤ 2 ^ 63 := Nat.div_le_of_le_mul (by rw [Nat.mul_comm]; exact h2)
    omega
  obtain ⟨a1, a2, a3, a4, a5⟩ := whole_spec (neg x) c k (K (rung x) / U) hF hc hl
  rw [← e] at a1 a2 a3 a4 a5
  have et : (Z x).tdiv (U : Int) = if neg x then -((K (rung x) / U : Nat) : Int) else ((K (rung x) / U : Nat) : Int) := by
    unfold Z
    cases neg x <;> simp [Int.neg_tdiv]
    all_goals rw [Int.tdiv_eq_ediv_of_nonneg (by omega)]
  refine ⟨a1, nan_of_lt a2, ?_, by rw [a5, et]⟩
  rw [et]
  rw [show Z (trn x) = if neg (trn x) then -(K (rung (trn x)) : Int) else K (rung (trn x)) from rfl, a4, a3]
  cases neg x <;> simp [Int.neg_mul]

end Fl
end Go.Proofs.Ytgenmebmdpnjhaa
