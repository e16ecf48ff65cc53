
/- The document's own answers on floats (precentorref1): the contracts. They tell what package float's contracts tell. -/
import Derived.Test.YtfbfbajccphkoaaGreatBase
namespace Go.Proofs.YtfbfbajccphkoaaGreat
open Go.RowKit

theorem rcmp_any (a b : Nat) (w : World) : Calls Tryz.prog 83 #[.float .f64 a, .float .f64 b] w fun e w' => e = .returned (pairIB (Fl.cmp a b) (Fl.cmpOk a b)) ∧ w = w' := by
  have oa := Fl.ord_self a
  have ob := Fl.ord_self b
  cases hn : (Fl.nan a || Fl.nan b)
  · have hk := Fl.cmp_num hn
    have na : Fl.nan a = false := by rw [Bool.or_eq_false_iff] at hn; exact hn.1
    have nb : Fl.nan b = false := by rw [Bool.or_eq_false_iff] at hn; exact hn.2
    rw [na] at oa
    rw [nb] at ob
    rcases Int.lt_trichotomy (Fl.Z a) (Fl.Z b) with h | h | h
    · have h1 := Fl.ord_lt hn h
      rw [hk.1, hk.2, Fl.sgn_lt h]
      clear hk h hn na nb
      go_enter Tryz.func83, Tryz.ntmps83
      go_wp2
      go_ret2
      exact ⟨rfl, rfl⟩
    · have h1 := Fl.ord_eq hn h
      rw [hk.1, hk.2, Fl.sgn_eq h]
      clear hk h hn na nb
      go_enter Tryz.func83, Tryz.ntmps83
      go_wp2
      go_ret2
      exact ⟨rfl, rfl⟩
    · have h1 := Fl.ord_gt hn h
      rw [hk.1, hk.2, Fl.sgn_gt h]
      clear hk h hn na nb
      go_enter Tryz.func83, Tryz.ntmps83
      go_wp2
      go_ret2
      exact ⟨rfl, rfl⟩
  · have hk := Fl.cmp_nan hn
    rw [hk.1, hk.2]
    cases na : Fl.nan a
    · have nb : Fl.nan b = true := by rw [na] at hn; exact hn
      rw [na] at oa
      rw [nb] at ob
      clear hk hn na nb
      go_enter Tryz.func83, Tryz.ntmps83
      go_wp2
      go_ret2
      exact ⟨rfl, rfl⟩
    · rw [na] at oa
      clear hk hn na ob
      go_enter Tryz.func83, Tryz.ntmps83
      go_wp2
      go_ret2
      exact ⟨rfl, rfl⟩

theorem rbits_any (x : Nat) (w : World) : Calls Tryz.prog 85 #[.float .f64 x] w fun e w' => e = .returned (.int .u64 (Fl.bits x : Nat)) ∧ w = w' := by
  have ox := Fl.ord_self x
  cases hn : Fl.nan x
  · rw [hn] at ox
    have h0 := Fl.ord_zero hn
    cases hz : Fl.isZero x
    · rw [Fl.bits_else hn hz]
      rw [hz] at h0
      clear hz
      have ht := tobits_run x
      go_enter Tryz.func85, Tryz.ntmps85
      go_wp2
      go_ret
      exact ⟨rfl, rfl⟩
    · rw [Fl.bits_zero hn hz]
      rw [hz] at h0
      clear hz
      go_enter Tryz.func85, Tryz.ntmps85
      go_wp2
      go_ret
      exact ⟨rfl, rfl⟩
  · rw [hn] at ox
    rw [Fl.bits_nan hn]
    go_enter Tryz.func85, Tryz.ntmps85
    go_wp2
    go_ret
    exact ⟨rfl, rfl⟩

namespace Fl
/-- Cut towards 0: where n stands to it. -/
theorem trn_ways {x : Nat} (h : fits x) (n : Int) :
    (n < (Z x).tdiv (U : Int) ∧ cmpInt n x = -1) ∨ ((Z x).tdiv (U : Int) < n ∧ cmpInt n x = 1) ∨
    (n = (Z x).tdiv (U : Int) ∧ ((FloatKind.f64.format.order (trn x) x = some .lt ∧ cmpInt n x = -1) ∨ (FloatKind.f64.format.order (trn x) x = some .gt ∧ cmpInt n x = 1) ∨ (FloatKind.f64.format.order (trn x) x = some .eq ∧ cmpInt n x = 0))) := by
  obtain ⟨_, tn, tz, _⟩ := trn_spec h
  have hn := h.1
  have ho : (nan (trn x) || nan x) = false := by rw [tn, hn]; rfl
  rw [cmpInt_num hn]
  have hu := UI
  have e := Int.mul_tdiv_add_tmod (Z x) (U : Int)
  have r1 : (Z x).tmod (U : Int) < U := Int.tmod_lt_of_pos _ hu
  have r2 : -(U : Int) < (Z x).tmod (U : Int) := by
    have := Int.tmod_lt_of_pos (-(Z x)) hu; rw [Int.neg_tmod] at this; omega
  have r3 : (0 ≤ Z x → 0 ≤ (Z x).tmod (U : Int) ∧ 0 ≤ (Z x).tdiv (U : Int)) := fun h0 => ⟨Int.tmod_nonneg _ h0, Int.tdiv_nonneg h0 (Int.le_of_lt hu)⟩
  have r4 : (Z x ≤ 0 → (Z x).tmod (U : Int) ≤ 0 ∧ (Z x).tdiv (U : Int) ≤ 0) := fun h0 => by
    have a := Int.tmod_nonneg (a := -(Z x)) (U : Int) (by omega)
    have b := Int.tdiv_nonneg (a := -(Z x)) (b := (U : Int)) (by omega) (Int.le_of_lt hu)
    rw [Int.neg_tmod] at a
    rw [Int.neg_tdiv] at b
    omega
  rw [Int.mul_comm] at e
  rcases Int.lt_trichotomy n ((Z x).tdiv (U : Int)) with g | g | g
  · left
    refine ⟨g, sgn_lt ?_⟩
    have m := Int.mul_le_mul_of_nonneg_right (show n + 1 ≤ (Z x).tdiv (U : Int) from g) (Int.le_of_lt hu)
    rw [Int.add_mul, Int.one_mul] at m
    omega
  · right; right
    refine ⟨g, ?_⟩
    rw [g, ← tz]
    rcases Int.lt_trichotomy (Z (trn x)) (Z x) with k | k | k
    · exact .inl ⟨ord_lt ho k, sgn_lt k⟩
    · exact .inr (.inr ⟨ord_eq ho k, sgn_eq k⟩)
    · exact .inr (.inl ⟨ord_gt ho k, sgn_gt k⟩)
  · right; left
    refine ⟨g, sgn_gt ?_⟩
    have m := Int.mul_le_mul_of_nonneg_right (show (Z x).tdiv (U : Int) + 1 ≤ n from g) (Int.le_of_lt hu)
    rw [Int.add_mul, Int.one_mul] at m
    omega
end Fl

theorem rcmpint_any (n : Int) (x : Nat) (hn1 : -9223372036854775808 ≤ n) (hn2 : n ≤ 9223372036854775807) (w : World) : Calls Tryz.prog 82 #[.int .i64 n, .float .f64 x] w fun e w' => e = .returned (pairIB (Fl.cmpInt n x) (!Fl.nan x)) ∧ w = w' := by
  have ox := Fl.ord_self x
  cases hn : Fl.nan x
  · rw [hn] at ox
    rcases Fl.cases3 hn with ⟨h1, hz⟩ | ⟨h1, h2, hz⟩ | ⟨h1, h2, hf⟩
    · have e : Fl.cmpInt n x = -1 := by rw [Fl.cmpInt_num hn]; exact Fl.sgn_lt (Fl.mul_lt_of Fl.UI (Int.lt_add_one_of_le hn2) hz)
      rw [e]
      clear e hz hn hn1 hn2
      rcases h1 with h1 | h1
      all_goals
        go_enter Tryz.func82, Tryz.ntmps82
        go_wp2
        go_ret2
        exact ⟨rfl, rfl⟩
    · have e : Fl.cmpInt n x = 1 := by rw [Fl.cmpInt_num hn]; exact Fl.sgn_gt (Fl.mul_gt_of' Fl.UI hn1 hz)
      rw [e]
      clear e hz hn hn1 hn2
      go_enter Tryz.func82, Tryz.ntmps82
      go_wp2
      go_ret2
      exact ⟨rfl, rfl⟩
    · have hcv := toint_run _ _ (Fl.trn_int hf)
      have hrl := (Fl.fits_K hf).1
      have hw := Fl.trn_ways hf n
      generalize (Fl.Z x).tdiv (Fl.U : Int) = q at hcv hw
      clear hf hn hn1 hn2
      rcases h2 with h2 | h2
      all_goals
        rcases hw with ⟨hl, e⟩ | ⟨hl, e⟩ | ⟨rfl, ⟨o, e⟩ | ⟨o, e⟩ | ⟨o, e⟩⟩
        all_goals
          rw [e]
          clear e
          go_enter Tryz.func82, Tryz.ntmps82
          go_wp2_with (go_at_call 105; refine (trunc_any _ hrl _).mono ?_; rintro e w' ⟨rfl, rfl⟩)
          go_ret2
          exact ⟨rfl, rfl⟩
  · rw [hn] at ox
    rw [Fl.cmpInt_nan hn]
    go_enter Tryz.func82, Tryz.ntmps82
    go_wp2
    go_ret2
    exact ⟨rfl, rfl⟩

end Go.Proofs.YtfbfbajccphkoaaGreat
