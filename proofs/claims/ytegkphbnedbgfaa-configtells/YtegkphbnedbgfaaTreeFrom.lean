
/- The same contracts, of a row that an older world has; a row that came in; known. -/
import Derived.Test.YtegkphbnedbgfaaTreeKnown
namespace Go.Proofs.Ytegkphbnedbgfaa
open Go.RowKit
set_option linter.unusedVariables false

theorem IsRow.ri {w : World} {a : Option Addr} {len cap : Nat} {zs : List Int} (h : IsRow .i64 w a len cap zs) :
    ∃ l, Ri w a len l ∧ len ≤ cap ∧ cap ≤ 9223372036854775807 ∧ ∀ ad, a = some ad → len ≠ 0 → ad.block < w.heap.size := by
  rcases h with ⟨rfl, rfl, rfl, rfl⟩ | ⟨x, rfl, hl, hm, hz, hc, hw⟩
  · exact ⟨[], Ri.empty _ _, Nat.le_refl _, by omega, fun _ e => by cases e⟩
  · have hm' : cap ≤ 9223372036854775807 := by unfold maxLen at hm; omega
    by_cases h0 : len = 0
    · subst h0
      exact ⟨[], ⟨rfl, .inl rfl⟩, hl, hm', fun _ _ h => absurd rfl h⟩
    · obtain ⟨b, off, rfl, hc'⟩ := ints_at hc (by omega)
      refine ⟨zs.take len, ⟨by simp; omega, .inr ⟨b, off, rfl, fun j u hj => ?_⟩⟩, hl, hm', fun ad e _ => by cases e; exact cell_lt (hc' 0 (by omega))⟩
      have hj' := (List.getElem?_eq_some_iff.1 hj).1
      rw [List.length_take] at hj'
      rw [List.getElem?_take, if_pos (by omega)] at hj
      have hj2 : j < zs.length := by omega
      rw [hc' j hj2]
      rw [List.getD_eq_getElem?_getD, hj]; rfl
theorem nears_len (l : List Int) (b : Int) : (Tr.nears l b).length ≤ 9 := by
  unfold Tr.nears
  split
  · rename_i h
    have h7 := Tr.right_len (Tr.has_right h)
    have := Tr.kids_few l b.toNat l.length
    rw [Tr.ints_len]; unfold Tr.nearN; rw [List.length_append]
    have : (if 0 < b.toNat then [Tr.par l b.toNat] else []).length ≤ 1 := by split <;> simp
    omega
  · simp
theorem kids_len (l : List Int) (b : Int) : (Tr.kids l b).length ≤ 9 := by
  unfold Tr.kids
  split
  · rename_i h
    have h7 := Tr.right_len (Tr.has_right h)
    have := Tr.kids_few l b.toNat l.length
    rw [Tr.ints_len]; omega
  · simp
theorem side_len (l : List Int) (b t : Int) : (Tr.side l b t).length ≤ 9 := by
  unfold Tr.side
  split
  · rename_i h
    have h7 := Tr.right_len (Tr.has_right h)
    have : (Tr.sideN l b.toNat t.toNat (l.length + 1)).length ≤ l.length + 1 := Tr.chosen_few _ _
    rw [Tr.ints_len]; omega
  · simp
/-- A row of its own, and what was there stands. -/
def RowFrom (W w : World) (L : List Int) (e : Ending) (w' : World) : Prop :=
  ∃ A c, e = .returned (.slice A L.length c) ∧ Ri w' A L.length L ∧ Below w.heap.size w w' ∧ Below W.heap.size W w' ∧ OwnI w.heap.size w' (.slice A L.length c) L
theorem RowPost.from_ {W w w' : World} {L : List Int} {e : Ending} (hB : Below W.heap.size W w) (h : RowPost w L e w') : RowFrom W w L e w' := by
  obtain ⟨v, rfl, hv, hk⟩ := h
  obtain ⟨A, c, rfl, -, hr, -⟩ := hv.reads
  exact ⟨A, c, rfl, hr, hk, then_below hB hk, hv⟩
section
variable {W w : World} {A : Option Addr} {n c : Nat} {l : List Int}
end
end Go.Proofs.Ytegkphbnedbgfaa
