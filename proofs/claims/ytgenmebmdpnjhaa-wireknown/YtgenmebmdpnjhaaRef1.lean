
/- The document's own answers on floats (precentorref1): the contracts. They tell what package float's contracts tell. -/
import Derived.Test.YtgenmebmdpnjhaaFloat
namespace Go.Proofs.Ytgenmebmdpnjhaa
open Go.RowKit

namespace Fl
/-- Cut towards 0: where n stands to it. -/
theorem trn_ways {x : Nat} (h : fits x) (n : Int) :
    (n < (Z x).tdiv (U : Int) ∧ cmpInt n x = -1) ∨ ((Z x).tdiv (U : Int) < n ∧ cmpInt n x = 1) ∨
    (n = (Z x).tdiv (U : Int) ∧ ((FloatKind.f64.format.order (trn x) x = some .lt ∧ cmpInt n x = -1) ∨ (FloatKind.f64.format.order (trn x) x = some .gt ∧ cmpInt n x = 1) ∨ (FloatKind.f64.format.order (trn x) x = some .eq ∧ cmpInt n x = 0))) := by
  obtain ⟨_, tn, tz, _⟩ := trn_spec h
  have hn := h.1
  have ho : (nan (trn x) || nan x) = false := by rw [tn, hn]; rfl
  rw [cmpInt_num hn]
  have hu := UI
  have e := Int.mul_tdiv_add_tmod (Z x) (U : Int)
  have r1 : (Z x).tmod (U : Int) < U := Int.tmod_lt_of_pos _ hu
  have r2 : -(U : Int) < (Z x).tmod (U : Int) := by
    have := Int.tmod_lt_of_pos (-(Z x)) hu; rw [Int.neg_tmod] at this; omega
  have r3 : (0 ≤ Z x → 0 ≤ (Z x).tmod (U : Int) ∧ 0 ≤ (Z x).tdiv (U : Int)) := fun h0 => ⟨Int.tmod_nonneg _ h0, Int.tdiv_nonneg h0 (Int.le_of_lt hu)⟩
  have r4 : (Z x ≤ 0 → (Z x).tmod (U : Int) ≤ 0 ∧ (Z x).tdiv (U : Int) ≤ 0) := fun h0 => by
    have a := Int.tmod_nonneg (a := -(Z x)) (U : Int) (by omega)
    have b := Int.tdiv_nonneg (a := -(Z x)) (b := (U : Int)) (by omega) (Int.le_of_lt hu)
    rw [Int.neg_tmod] at a
    rw [Int.neg_tdiv] at b
    omega
  rw [Int.mul_comm] at e
  rcases Int.lt_trichotomy n ((Z x).tdiv (U : Int)) with g | g | g
  · left
    refine ⟨g, sgn_lt ?_⟩
    have m := Int.mul_le_mul_of_nonneg_right (show n + 1 ≤ (Z x).tdiv (U : Int) from g) (Int.le_of_lt hu)
    rw [Int.add_mul, Int.one_mul] at m
    omega
  · right; right
    refine ⟨g, ?_⟩
    rw [g, ← tz]
    rcases Int.lt_trichotomy (Z (trn x)) (Z x) with k | k | k
    · exact .inl ⟨ord_lt ho k, sgn_lt k⟩
    · exact .inr (.inr ⟨ord_eq ho k, sgn_eq k⟩)
    · exact .inr (.inl ⟨ord_gt ho k, sgn_gt k⟩)
  · right; left
    refine ⟨g, sgn_gt ?_⟩
    have m := Int.mul_le_mul_of_nonneg_right (show (Z x).tdiv (U : Int) + 1 ≤ n from g) (Int.le_of_lt hu)
    rw [Int.add_mul, Int.one_mul] at m
    omega
end Fl

end Go.Proofs.Ytgenmebmdpnjhaa
