
/- Chapter 9's examples: TreeKnown answers true, from whatever world. -/
import Derived.Test.YtegkphbnedbgfaaTreeHand
namespace Go.Proofs.Ytegkphbnedbgfaa
open Go.RowKit
set_option linter.unusedVariables false

theorem ri_new (w : World) (q : List Int) : Ri (w.alloc (.cells (q.map icell).toArray 3)) (some ⟨w.heap.size, 0, none⟩) q.length q :=
  ⟨rfl, .inr ⟨_, _, rfl, fun j u hj => by
    rw [World.cell?_alloc_new, Nat.zero_add, List.getElem?_toArray, List.getElem?_map, hj]; rfl⟩⟩
theorem Ri.two {w : World} {A : Option Addr} {a b : Int} (h : Ri w A 2 [a, b]) : ∃ rb ro, A = some ⟨rb, ro, none⟩ ∧ w.cell? ⟨rb, ro, none⟩ = some (icell a) ∧ w.cell? ⟨rb, ro + 1, none⟩ = some (icell b) := by
  rcases h.2 with h0 | ⟨rb, ro, e, hc⟩
  · omega
  · exact ⟨rb, ro, e, hc 0 a rfl, hc 1 b rfl⟩
theorem right_from {W w : World} {B : Option Addr} {m d : Nat} {q : List Int} (hB : Below W.heap.size W w) (hq : Ri w B m q) (hm : m ≤ 1000) : Calls Try.prog 19 #[.slice B m d] w fun e w' => e = .returned (.bool (Tr.right q)) ∧ Below W.heap.size W w' :=
  (right_any hq hm).mono fun _ _ ⟨e, k⟩ => ⟨e, k ▸ hB⟩
end Go.Proofs.Ytegkphbnedbgfaa
