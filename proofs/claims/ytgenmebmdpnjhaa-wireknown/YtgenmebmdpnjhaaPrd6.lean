
/- Tests: what implies what: the contract of pred.Implies. -/
import Derived.Test.YtgenmebmdpnjhaaPrd5
namespace Go.Proofs.Ytgenmebmdpnjhaa
open Go.RowKit
set_option linter.unusedVariables false

namespace Pd
theorem imp_wrong {q p : Prd} (h : right q = false ∨ right p = false) : implies q p = false := by
  unfold implies
  rcases h with h | h <;> simp [h]
theorem imp_yes {q p : Prd} (h1 : right q = true) (h2 : right p = true) (h : void q = true ∨ p.t = 1 ∨ sameT q p = true) : implies q p = true := by
  unfold implies
  rw [h1, h2]
  rcases h with h | h | h
  · simp [h]
  · simp [h]
  · simp [h]
/-- Right ones, none of the first two fits. -/
structure Past (q p : Prd) : Prop where
  r1 : right q = true
  r2 : right p = true
  v1 : void q = false
  t1 : ¬ p.t = 1
  s1 : sameT q p = false
theorem Past.eq {q p : Prd} (h : Past q p) : implies q p = (if p.t = 3 then !takes q p.v
  else if q.t = 2 then takes p q.v
  else if q.t = 10 then each p q.set
  else if hasEnds q && hasEnds p then within (lower q) (lower p) 1 && within (upper q) (upper p) (-1)
  else if q.t = 9 then preI q.v p
  else false) := by
  unfold implies
  rw [h.r1, h.r2, h.v1, h.s1]
  simp [h.t1]
theorem Past.n3 {q p : Prd} (h : Past q p) (t : p.t = 3) : implies q p = !takes q p.v := by rw [h.eq, if_pos t]
theorem Past.q2 {q p : Prd} (h : Past q p) (t : ¬ p.t = 3) (u : q.t = 2) : implies q p = takes p q.v := by rw [h.eq, if_neg t, if_pos u]
theorem Past.q10 {q p : Prd} (h : Past q p) (t : ¬ p.t = 3) (u : ¬ q.t = 2) (v : q.t = 10) : implies q p = each p q.set := by rw [h.eq, if_neg t, if_neg u, if_pos v]
theorem Past.ends {q p : Prd} (h : Past q p) (t : ¬ p.t = 3) (u : ¬ q.t = 2) (v : ¬ q.t = 10) (x : hasEnds q = true) (y : hasEnds p = true) : implies q p = (within (lower q) (lower p) 1 && within (upper q) (upper p) (-1)) := by rw [h.eq, if_neg t, if_neg u, if_neg v, x, y]; rfl
theorem Past.q9 {q p : Prd} (h : Past q p) (t : ¬ p.t = 3) (u : ¬ q.t = 2) (v : ¬ q.t = 10) (x : (hasEnds q && hasEnds p) = false) (y : q.t = 9) : implies q p = preI q.v p := by rw [h.eq, if_neg t, if_neg u, if_neg v, x, if_pos y]; rfl
theorem Past.no {q p : Prd} (h : Past q p) (t : ¬ p.t = 3) (u : ¬ q.t = 2) (v : ¬ q.t = 10) (x : (hasEnds q && hasEnds p) = false) (y : ¬ q.t = 9) : implies q p = false := by rw [h.eq, if_neg t, if_neg u, if_neg v, x, if_neg y]; rfl
end Pd

end Go.Proofs.Ytgenmebmdpnjhaa
