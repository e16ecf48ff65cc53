
/- The document's Dist, Next, Near, Kids, Side, Place: the same words as the landed ones'. -/
import Derived.Test.YtegkphbnedbgfaaRefTree
namespace Go.Proofs.Ytegkphbnedbgfaa
open Go.RowKit
set_option linter.unusedVariables false

theorem way_one {l : List Int} {x y : Nat} (h : x ≠ y) : (Tr.ints (Tr.way l x y))[1]? = some (Tr.step l x y : Int) := by
  rw [Tr.ints_get, (Tr.way_facts l _ x y (Nat.le_refl _)).2.2 h]; rfl
theorem way_len (l : List Int) (x y : Nat) : (Tr.ints (Tr.way l x y)).length = Tr.dist l x y + 1 := by
  rw [Tr.ints_len, (Tr.way_facts l _ x y (Nat.le_refl _)).1]
theorem next_side {l : List Int} {x k : Nat} (h : Tr.right l = true) (hx : x ≤ l.length) (hk : k ≤ l.length) : Tr.next l (x : Int) (k : Int) = if k = x then -1 else (Tr.step l x k : Int) := by
  unfold Tr.next
  by_cases e : k = x
  · rw [if_neg (by simp [e]), if_pos e]
  · rw [if_pos ⟨Tr.has_both h hx hk, by omega⟩, if_neg e, Int.toNat_natCast, Int.toNat_natCast]
theorem Tr.has_fail {l q : List Int} {k : Nat} {b : Int} (h : q[k]? = some b) (hb : has l [b] = false) : has l q = false := by
  cases hq : has l q
  · rfl
  · have h1 := Tr.has_get hq h
    have h2 := Tr.has_right hq
    have : has l [b] = true := by
      rw [Tr.has_iff]
      refine ⟨h2, fun c hc => ?_⟩
      rw [List.mem_singleton.1 hc]; exact h1
    rw [this] at hb; cases hb
/-- How far the best one is, so far: none at first. -/
def Best (f : Nat → Nat) (k : Nat) (b s : Int) : Prop := (k = 0 ∧ b = -1 ∧ s = 0) ∨ ∃ j, k = j + 1 ∧ b = (Tr.least f j : Int) ∧ s = (f (Tr.least f j) : Int)
theorem Best.next {f : Nat → Nat} {k : Nat} {b s : Int} (h : Best f k b s) (hn : b < 0 ∨ (f k : Int) < s) : Best f (k + 1) (k : Int) (f k : Int) := by
  rcases h with ⟨rfl, rfl, rfl⟩ | ⟨j, rfl, rfl, rfl⟩
  · exact .inr ⟨0, rfl, rfl, rfl⟩
  · have : f (j + 1) < f (Tr.least f j) := by omega
    exact .inr ⟨j + 1, rfl, by rw [Tr.least, if_pos this], by rw [Tr.least, if_pos this]⟩
theorem Best.keep {f : Nat → Nat} {k : Nat} {b s : Int} (h : Best f k b s) (hn : ¬ b < 0) (hs : ¬ (f k : Int) < s) : Best f (k + 1) b s := by
  rcases h with ⟨rfl, rfl, rfl⟩ | ⟨j, rfl, rfl, rfl⟩
  · omega
  · have : ¬ f (j + 1) < f (Tr.least f j) := by omega
    exact .inr ⟨j + 1, rfl, by rw [Tr.least, if_neg this], by rw [Tr.least, if_neg this]⟩
theorem Best.range {f : Nat → Nat} {k : Nat} {b s : Int} (h : Best f k b s) : -1 ≤ b ∧ b < (k : Int) := by
  rcases h with ⟨rfl, rfl, rfl⟩ | ⟨j, rfl, rfl, rfl⟩
  · omega
  · have := (Tr.least_le f j).1; omega
end Go.Proofs.Ytegkphbnedbgfaa
