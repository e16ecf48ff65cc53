
/- Package tree's answers: Kids, Near, Side, Next, Dist, Place. -/
import Derived.Test.YtegkphbnedbgfaaTreeCore
namespace Go.Proofs.Ytegkphbnedbgfaa
open Go.RowKit
set_option linter.unusedVariables false

/-- A row that the call handed on, of one, of two. -/
theorem ri_one (w : World) (b : Int) : Ri (w.alloc (.cells #[.int .i64 b] 3)) (some ⟨w.heap.size, 0, none⟩) 1 [b] :=
  ⟨rfl, .inr ⟨_, _, rfl, fun j u hj => by
    match j, hj with
    | 0, hj => cases hj; simp⟩⟩
theorem ri_two (w : World) (a b : Int) : Ri (w.alloc (.cells #[.int .i64 a, .int .i64 b] 3)) (some ⟨w.heap.size, 0, none⟩) 2 [a, b] :=
  ⟨rfl, .inr ⟨_, _, rfl, fun j u hj => by
    match j, hj with
    | 0, hj => cases hj; simp
    | 1, hj => cases hj; simp⟩⟩
theorem new_below (w : World) (o : Obj) : Below w.heap.size w (w.alloc o) := (Below.refl _ _).alloc (Nat.le_refl _) _
/-- What behind an older world's blocks alone may have turned. -/
theorem below_behind {w w1 w2 : World} (h : Below w.heap.size w w1) (k : Kept (fun i => w.heap.size ≤ i) w1 w2) : Below w.heap.size w w2 := h.trans (k.below h.size fun i hi hs => by omega)
theorem has_one {l : List Int} {b : Int} (h : Tr.has l [b] = true) : ∃ x : Nat, b = (x : Int) ∧ x ≤ l.length := by
  have := Tr.has_get h (k := 0) rfl
  exact ⟨b.toNat, by omega, by omega⟩
theorem has_two {l : List Int} {a b : Int} (h : Tr.has l [a, b] = true) : ∃ x y : Nat, a = (x : Int) ∧ b = (y : Int) ∧ x ≤ l.length ∧ y ≤ l.length := by
  have := Tr.has_get h (k := 0) rfl
  have := Tr.has_get h (k := 1) rfl
  exact ⟨a.toNat, b.toNat, by omega, by omega, by omega, by omega⟩
/-- What a call tells that makes a row of its own. -/
def RowPost (w : World) (L : List Int) (e : Ending) (w' : World) : Prop := ∃ v, e = .returned v ∧ OwnI w.heap.size w' v L ∧ Below w.heap.size w w'

end Go.Proofs.Ytegkphbnedbgfaa
