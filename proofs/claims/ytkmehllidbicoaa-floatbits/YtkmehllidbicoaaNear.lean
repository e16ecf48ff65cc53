/- The floats next to one another; what is left of a float: plain mathematics, and math.Nextafter. -/
import Derived.Test.YtkmehllidbicoaaMath
namespace Go.Proofs.Ytkmehllidbicoaa
open Go.RowKit

namespace Fl
open Ieee
theorem nan_word (s : Bool) {r : Nat} (h : r ≤ inf) : nan (double.word s r) = false := by
  obtain ⟨e, _, _⟩ := rung_word s (r := r) (Nat.lt_of_le_of_lt h (by decide))
  unfold nan
  rw [e, decide_eq_false_iff_not]; omega
theorem nearest_word (s : Bool) (m : Nat) (p : Int) : ∃ r, double.nearest s m p = double.word s r ∧ r ≤ inf := by
  unfold Format.nearest
  by_cases h : m = 0
  · rw [if_pos h]; exact ⟨0, rfl, by decide⟩
  · rw [if_neg h]; exact ⟨_, rfl, Nat.min_le_right _ _⟩
theorem nearest_num (s : Bool) (m : Nat) (p : Int) : nan (double.nearest s m p) = false ∧ double.nearest s m p < 2 ^ 64 := by
  obtain ⟨r, e, h⟩ := nearest_word s m p
  rw [e]
  exact ⟨nan_word s h, (rung_word s (r := r) (Nat.lt_of_le_of_lt h (by decide))).2.2⟩
/-- A number that is not 0 is not rounded to 0, if it is a whole multiple of the least one. -/
theorem nearest_pos (s : Bool) (m : Nat) (e : Nat) (hm : 0 < m) : isZero (double.nearest s m (-1074 + (e : Int))) = false := by
  have key : ∃ r, double.nearest s m (-1074 + (e : Int)) = double.word s r ∧ 0 < r ∧ r ≤ inf := by
    unfold Format.nearest
    rw [if_neg (by omega)]
    refine ⟨_, rfl, ?_, Nat.min_le_right _ _⟩
    rw [d_inf, d_bin, d_lp]
    have hfb : ((double.fractionBits : Nat) : Int) = 52 := rfl
    rw [hfb]
    have hinf : 0 < inf := by decide
    refine Nat.lt_min.2 ⟨?_, hinf⟩
    by_cases hl : (-1074 + (e : Int)) + (m.log2 : Int) - 52 ≤ -1074
    · rw [Int.max_eq_right hl]
      have e1 : (-1074 + (e : Int) - -1074).toNat = e := by omega
      have e2 : (-1074 - (-1074 + (e : Int))).toNat = 0 := by omega
      rw [e1, e2, cut_even _ _ _ (by rw [Nat.pow_zero, Nat.mod_one]), Nat.pow_zero, Nat.div_one, Nat.shiftLeft_eq]
      have := Nat.mul_pos hm (Nat.two_pow_pos e)
      omega
    · rw [Int.max_eq_left (by omega)]
      have h1 : 1 ≤ ((-1074 + (e : Int)) + (m.log2 : Int) - 52 - -1074).toNat := by omega
      have := Nat.mul_le_mul_right bin h1
      have := bin_pos
      omega
  obtain ⟨r, e1, h0, h1⟩ := key
  rw [e1]
  unfold isZero
  rw [(rung_word s (r := r) (Nat.lt_of_le_of_lt h1 (by decide))).1, decide_eq_false_iff_not]
  omega
theorem Z_of {x m e : Nat} (hm : m * 2 ^ e = K (rung x)) : signed (neg x) m 0 * (2 ^ e : Nat) = Z x := by
  rw [signed_scale, Nat.zero_add, hm]
  rfl
/-- What is left is 0 just if both are one number. -/
theorem sub_zero {x y : Nat} (hx : rung x < inf) (hy : rung y < inf) : ∃ r, floatBits .sub .f64 x y = some r ∧ nan r = false ∧ isZero r = decide (Z x = Z y) := by
  obtain ⟨m, e, hr, hm, _, _⟩ := read_num hx
  obtain ⟨n, g, hs, hn, _, _⟩ := read_num hy
  have eb : floatBits .sub .f64 x y = ((double.read x).sum (double.read y).opposite).map double.write := rfl
  rw [eb, hr, hs]
  simp only [Datum.opposite, Datum.sum, Option.map_some]
  refine ⟨_, rfl, ?_⟩
  have hb : min (-1074 + (e : Int)) (-1074 + (g : Int)) = -1074 + ((min e g : Nat) : Int) := by omega
  rw [hb]
  have e1 : (-1074 + (e : Int) - (-1074 + ((min e g : Nat) : Int))).toNat = e - min e g := by omega
  have e2 : (-1074 + (g : Int) - (-1074 + ((min e g : Nat) : Int))).toNat = g - min e g := by omega
  rw [e1, e2]
  have hz : (signed (neg x) m (e - min e g) + signed (!neg y) n (g - min e g)) * ((2 ^ min e g : Nat) : Int) = Z x - Z y := by
    rw [Int.add_mul, signed_scale, signed_scale, show e - min e g + min e g = e by omega, show g - min e g + min e g = g by omega, hm, hn]
    unfold Z
    cases neg x <;> cases neg y <;> simp <;> omega
  generalize signed (neg x) m (e - min e g) + signed (!neg y) n (g - min e g) = t at hz
  have hp : (0 : Int) < ((2 ^ min e g : Nat) : Int) := by have := Nat.two_pow_pos (min e g); omega
  have ht : t = 0 ↔ Z x = Z y := by
    constructor
    · intro h; subst h; rw [Int.zero_mul] at hz; omega
    · intro h
      rw [h, Int.sub_self] at hz
      rcases Int.mul_eq_zero.1 hz with h | h
      · exact h
      · omega
  refine ⟨(nearest_num _ _ _).1, ?_⟩
  by_cases h : t = 0
  · have h2 := ht.1 h
    simp only [Format.write]
    subst h
    rw [decide_eq_true h2]
    simp only [Int.natAbs_zero, Format.nearest, if_true]
    unfold isZero
    rw [(rung_word _ (r := 0) (by decide)).1]
    rfl
  · have h2 : ¬ Z x = Z y := fun h' => h (ht.2 h')
    rw [decide_eq_false h2]
    exact nearest_pos _ _ _ (by omega)

theorem word_of {x : Nat} (h : x < 2 ^ 64) : x = double.word (neg x) (rung x) := by
  unfold neg rung Format.word
  rw [d_sw]
  have h2 : 2 * sw = 2 ^ 64 := by decide
  have hp : 0 < sw := by decide
  have hd := Nat.div_add_mod x sw
  have hq : x / sw < 2 := Nat.div_lt_of_lt_mul (by omega)
  generalize x / sw = q at hd hq
  by_cases h0 : q = 0
  · subst h0
    simp; omega
  · have h1 : q = 1 := by omega
    subst h1
    simp; omega
theorem Z_pos {x : Nat} (h : 0 < Z x) : neg x = false ∧ 0 < rung x := by
  have h0 : rung x ≠ 0 := fun e => by have := (Z_zero_iff x).2 e; omega
  refine ⟨?_, by omega⟩
  unfold Z at h
  cases hn : neg x
  · rfl
  · rw [hn] at h; simp at h; omega
theorem Z_neg {x : Nat} (h : Z x < 0) : neg x = true ∧ 0 < rung x := by
  have h0 : rung x ≠ 0 := fun e => by have := (Z_zero_iff x).2 e; omega
  refine ⟨?_, by omega⟩
  unfold Z at h
  cases hn : neg x
  · rw [hn] at h; simp at h; omega
  · rfl
/-- One up, one down the ladder: no NaN. -/
theorem step_up {x : Nat} (hx : x < 2 ^ 64) (h : rung x < inf) : nan (x + 1) = false ∧ x + 1 < 2 ^ 64 := by
  have e : x + 1 = double.word (neg x) (rung x + 1) := by
    have := word_of hx
    unfold Format.word at this ⊢
    split at this <;> rename_i hn <;> simp only [hn] <;> simp <;> omega
  have hi : inf < sw := by decide
  rw [e]
  exact ⟨nan_word _ (by omega), (rung_word _ (r := rung x + 1) (by omega)).2.2⟩
theorem step_down {x : Nat} (hx : x < 2 ^ 64) (h : nan x = false) (h0 : 0 < rung x) : nan (x - 1) = false ∧ x - 1 < 2 ^ 64 ∧ 0 < x := by
  have hr := rung_le_of h
  have e : x - 1 = double.word (neg x) (rung x - 1) := by
    have := word_of hx
    unfold Format.word at this ⊢
    split at this <;> rename_i hn <;> simp only [hn] <;> simp <;> omega
  refine ⟨by rw [e]; exact nan_word _ (by omega), by omega, ?_⟩
  have : rung x ≤ x := Nat.mod_le _ _
  omega
end Fl

namespace Fl
theorem Z_le {x : Nat} (h : nan x = false) : Z x ≤ Z 9218868437227405312 ∧ Z 18442240474082181120 ≤ Z x := by
  have h1 : rung 9218868437227405312 = inf := by decide
  have h2 : neg 9218868437227405312 = false := by decide
  have h3 : rung 18442240474082181120 = inf := by decide
  have h4 : neg 18442240474082181120 = true := by decide
  have hk : K (rung x) ≤ K inf := by
    have := rung_le_of h
    rcases Nat.lt_or_ge (rung x) inf with g | g
    · exact Nat.le_of_lt (K_lt g)
    · rw [show rung x = inf by omega]; exact Nat.le_refl _
  unfold Z
  rw [h1, h2, h3, h4]
  generalize K (rung x) = k at hk
  generalize K inf = m at hk
  cases neg x <;> simp <;> omega
end Fl

/-- Some number; nothing turns. -/
def SomeNum (w : World) (e : Ending) (w' : World) : Prop := ∃ y : Nat, y < 2 ^ 64 ∧ Fl.nan y = false ∧ e = .returned (.float .f64 y) ∧ w = w'

theorem copysign_up (w : World) : Calls Try.prog 10 #[.float .f64 1, .float .f64 9218868437227405312] w fun e w' => e = .returned (.float .f64 1) ∧ w = w' := by
  have h1 := tobits_run 1
  have h2 := tobits_run 9218868437227405312
  have hf := frombits_run 1
  have b1 : bits BinOp.andNot IntKind.u64 1 9223372036854775808 = 1 := by decide
  have b2 : bits BinOp.and IntKind.u64 9218868437227405312 9223372036854775808 = 0 := by decide
  have b3 : bits BinOp.or IntKind.u64 1 0 = 1 := by decide
  go_enter Try.func10, Try.ntmps10
  go_wp2
  go_ret
  exact ⟨rfl, rfl⟩
theorem copysign_down (w : World) : Calls Try.prog 10 #[.float .f64 1, .float .f64 18442240474082181120] w fun e w' => e = .returned (.float .f64 9223372036854775809) ∧ w = w' := by
  have h1 := tobits_run 1
  have h2 := tobits_run 18442240474082181120
  have hf := frombits_run 9223372036854775809
  have b1 : bits BinOp.andNot IntKind.u64 1 9223372036854775808 = 1 := by decide
  have b2 : bits BinOp.and IntKind.u64 18442240474082181120 9223372036854775808 = 9223372036854775808 := by decide
  have b3 : bits BinOp.or IntKind.u64 1 9223372036854775808 = 9223372036854775809 := by decide
  go_enter Try.func10, Try.ntmps10
  go_wp2
  go_ret
  exact ⟨rfl, rfl⟩

theorem nextafter_up (x : Nat) (hx : x < 2 ^ 64) (hn : Fl.nan x = false) (w : World) : Calls Try.prog 25 #[.float .f64 x, .float .f64 9218868437227405312] w (SomeNum w) := by
  have hI : Fl.nan 9218868437227405312 = false := by decide
  have h0 : Fl.nan 0 = false := by decide
  have zz := Fl.Z_zero
  have hle := (Fl.Z_le hn).1
  have n1 : (Fl.nan x || Fl.nan 9218868437227405312) = false := by rw [hn, hI]; rfl
  have n2 : (Fl.nan 9218868437227405312 || Fl.nan x) = false := by rw [hn, hI]; rfl
  have n3 : (Fl.nan x || Fl.nan 0) = false := by rw [hn, h0]; rfl
  by_cases he : Fl.Z x = Fl.Z 9218868437227405312
  · have o1 := Fl.ord_eq n1 he
    clear he hle zz n1 n2 n3
    have HX := Lib.hid (And.intro hx hn)
    clear hx
    go_enter Try.func25, Try.ntmps25
    go_wp2_with (go_at_call 29; refine (isnan_any _ _).mono ?_; rintro e w' ⟨rfl, rfl⟩)
    go_ret
    exact ⟨x, HX.out.1, HX.out.2, rfl, rfl⟩
  · have o1 := Fl.ord_lt n1 (show Fl.Z x < Fl.Z 9218868437227405312 by omega)
    have o2 := Fl.ord_gt n2 (show Fl.Z x < Fl.Z 9218868437227405312 by omega)
    have hri : Fl.rung x < Fl.inf ∨ Fl.Z x < 0 := by
      rcases Nat.lt_or_ge (Fl.rung x) Fl.inf with g | g
      · exact .inl g
      · right
        have g' : Fl.rung x = Fl.inf := by have := Fl.rung_le_of hn; omega
        have h1 : Fl.rung 9218868437227405312 = Fl.inf := by decide
        have h2 : Fl.neg 9218868437227405312 = false := by decide
        have hk : 0 < Fl.K Fl.inf := by have := Fl.K_lt (r := 0) (s := Fl.inf) (by decide); omega
        unfold Fl.Z at he ⊢
        rw [g', h1, h2] at he
        rw [g']
        generalize Fl.K Fl.inf = m at hk he ⊢
        cases hg : Fl.neg x <;> rw [hg] at he <;> simp at he ⊢ <;> omega
    rcases Int.lt_trichotomy (Fl.Z x) 0 with hz | hz | hz
    · have o3 := Fl.ord_lt n3 (show Fl.Z x < Fl.Z 0 by omega)
      obtain ⟨s1, s2, s3⟩ := Fl.step_down hx hn (Fl.Z_neg hz).2
      clear he hle zz n1 n2 n3 hri hz
      have HX := Lib.hid (And.intro s1 s2)
      clear s1 s2
      have hx' : (x : Int) < 18446744073709551616 := by omega
      have hx1 : (1 : Int) ≤ (x : Int) := by omega
      clear hx
      have ht := tobits_run x
      have hf := frombits_run ((x : Int) - 1)
      have e1 : ((x : Int) - 1).toNat = x - 1 := by omega
      rw [e1] at hf
      clear e1
      go_enter Try.func25, Try.ntmps25
      go_wp2_with (go_at_call 29; refine (isnan_any _ _).mono ?_; rintro e w' ⟨rfl, rfl⟩)
      go_ret
      exact ⟨x - 1, HX.out.2, HX.out.1, rfl, rfl⟩
    · have o3 := Fl.ord_eq n3 (show Fl.Z x = Fl.Z 0 by omega)
      clear he hle zz n1 n2 n3 hri hz hx
      have hf := frombits_run 1
      go_enter Try.func25, Try.ntmps25
      go_wp2_with (first | (go_at_call 29; refine (isnan_any _ _).mono ?_; rintro e w' ⟨rfl, rfl⟩) | (go_at_call 10; refine (copysign_up _).mono ?_; rintro e w' ⟨rfl, rfl⟩))
      go_ret
      exact ⟨1, by decide, by decide, rfl, rfl⟩
    · have o3 := Fl.ord_gt n3 (show Fl.Z 0 < Fl.Z x by omega)
      obtain ⟨s1, s2⟩ := Fl.step_up hx (by omega)
      clear he hle zz n1 n2 n3 hri hz
      have HX := Lib.hid (And.intro s1 s2)
      have hx' : (x : Int) + 1 < 18446744073709551616 := by omega
      clear s1 s2 hx
      have ht := tobits_run x
      have hf := frombits_run ((x : Int) + 1)
      have e1 : ((x : Int) + 1).toNat = x + 1 := by omega
      rw [e1] at hf
      clear e1
      go_enter Try.func25, Try.ntmps25
      go_wp2_with (go_at_call 29; refine (isnan_any _ _).mono ?_; rintro e w' ⟨rfl, rfl⟩)
      go_ret
      exact ⟨x + 1, HX.out.2, HX.out.1, rfl, rfl⟩

theorem nextafter_down (x : Nat) (hx : x < 2 ^ 64) (hn : Fl.nan x = false) (w : World) : Calls Try.prog 25 #[.float .f64 x, .float .f64 18442240474082181120] w (SomeNum w) := by
  have hI : Fl.nan 18442240474082181120 = false := by decide
  have h0 : Fl.nan 0 = false := by decide
  have zz := Fl.Z_zero
  have hle := (Fl.Z_le hn).2
  have n1 : (Fl.nan x || Fl.nan 18442240474082181120) = false := by rw [hn, hI]; rfl
  have n2 : (Fl.nan 18442240474082181120 || Fl.nan x) = false := by rw [hn, hI]; rfl
  have n3 : (Fl.nan x || Fl.nan 0) = false := by rw [hn, h0]; rfl
  by_cases he : Fl.Z x = Fl.Z 18442240474082181120
  · have o1 := Fl.ord_eq n1 he
    clear he hle zz n1 n2 n3
    have HX := Lib.hid (And.intro hx hn)
    clear hx
    go_enter Try.func25, Try.ntmps25
    go_wp2_with (go_at_call 29; refine (isnan_any _ _).mono ?_; rintro e w' ⟨rfl, rfl⟩)
    go_ret
    exact ⟨x, HX.out.1, HX.out.2, rfl, rfl⟩
  · have o1 := Fl.ord_gt n1 (show Fl.Z 18442240474082181120 < Fl.Z x by omega)
    have o2 := Fl.ord_lt n2 (show Fl.Z 18442240474082181120 < Fl.Z x by omega)
    have hri : Fl.rung x < Fl.inf ∨ 0 < Fl.Z x := by
      rcases Nat.lt_or_ge (Fl.rung x) Fl.inf with g | g
      · exact .inl g
      · right
        have g' : Fl.rung x = Fl.inf := by have := Fl.rung_le_of hn; omega
        have h1 : Fl.rung 18442240474082181120 = Fl.inf := by decide
        have h2 : Fl.neg 18442240474082181120 = true := by decide
        have hk : 0 < Fl.K Fl.inf := by have := Fl.K_lt (r := 0) (s := Fl.inf) (by decide); omega
        unfold Fl.Z at he ⊢
        rw [g', h1, h2] at he
        rw [g']
        generalize Fl.K Fl.inf = m at hk he ⊢
        cases hg : Fl.neg x <;> rw [hg] at he <;> simp at he ⊢ <;> omega
    rcases Int.lt_trichotomy (Fl.Z x) 0 with hz | hz | hz
    · have o3 := Fl.ord_lt n3 (show Fl.Z x < Fl.Z 0 by omega)
      obtain ⟨s1, s2⟩ := Fl.step_up hx (by omega)
      clear he hle zz n1 n2 n3 hri hz
      have HX := Lib.hid (And.intro s1 s2)
      have hx' : (x : Int) + 1 < 18446744073709551616 := by omega
      clear s1 s2 hx
      have ht := tobits_run x
      have hf := frombits_run ((x : Int) + 1)
      have e1 : ((x : Int) + 1).toNat = x + 1 := by omega
      rw [e1] at hf
      clear e1
      go_enter Try.func25, Try.ntmps25
      go_wp2_with (go_at_call 29; refine (isnan_any _ _).mono ?_; rintro e w' ⟨rfl, rfl⟩)
      go_ret
      exact ⟨x + 1, HX.out.2, HX.out.1, rfl, rfl⟩
    · have o3 := Fl.ord_eq n3 (show Fl.Z x = Fl.Z 0 by omega)
      clear he hle zz n1 n2 n3 hri hz hx
      have hf := frombits_run 1
      go_enter Try.func25, Try.ntmps25
      go_wp2_with (first | (go_at_call 29; refine (isnan_any _ _).mono ?_; rintro e w' ⟨rfl, rfl⟩) | (go_at_call 10; refine (copysign_down _).mono ?_; rintro e w' ⟨rfl, rfl⟩))
      go_ret
      exact ⟨9223372036854775809, by decide, by decide, rfl, rfl⟩
    · have o3 := Fl.ord_gt n3 (show Fl.Z 0 < Fl.Z x by omega)
      obtain ⟨s1, s2, s3⟩ := Fl.step_down hx hn (Fl.Z_pos hz).2
      clear he hle zz n1 n2 n3 hri hz
      have HX := Lib.hid (And.intro s1 s2)
      clear s1 s2
      have hx' : (x : Int) < 18446744073709551616 := by omega
      have hx1 : (1 : Int) ≤ (x : Int) := by omega
      clear hx
      have ht := tobits_run x
      have hf := frombits_run ((x : Int) - 1)
      have e1 : ((x : Int) - 1).toNat = x - 1 := by omega
      rw [e1] at hf
      clear e1
      go_enter Try.func25, Try.ntmps25
      go_wp2_with (go_at_call 29; refine (isnan_any _ _).mono ?_; rintro e w' ⟨rfl, rfl⟩)
      go_ret
      exact ⟨x - 1, HX.out.2, HX.out.1, rfl, rfl⟩

end Go.Proofs.Ytkmehllidbicoaa
