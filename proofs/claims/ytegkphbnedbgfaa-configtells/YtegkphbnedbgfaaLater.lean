
/- A region that draws its order, whose operations only read and whose callees may make memory but turn nothing that was there: one walk, in the order of the text, in every world that is later than W. Nothing of the program. -/
import Derived.BigQuiet
import Derived.Below
import Derived.WalkKit
namespace Go.Proofs.Ytegkphbnedbgfaa
open Go.RowKit

/-- A world in which what W had is as it was. -/
structure Later (W : World) where
  at_ : World
  below : Below W.heap.size W at_

theorem later_drew {W w : World} (h : Below W.heap.size W w) : Below W.heap.size W { w with drawn := w.drawn + 1 } := ⟨h.os, h.tape, h.output, h.size, h.block⟩

/-- 'haveI := later_some W', then 'refine wp_region_later (W := ..) (by kernel_rfl) (by kernel_rfl) hB ?_', then 'repeat (go_big_quiet_step (first | (go_at_call N; exact calls_later (contract ..)) | ..))', then 'refine wpQuiet_nil ?_; rintro _ ⟨x, rfl⟩'. What is loaded: hypotheses '∀ x : Later W, x.at_.cell? p = some v'. -/
theorem wp_region_later {P : Program} {id : Nat} {Q : Exit → Act → World → Prop} {a : Act} {W w : World} {l : List Oper} (hm : P.follows .mixedOrders = true) (hB : Region.lexB .any l.toArray = true) (hw : Below W.heap.size W w)
    (h : wpQuiet P l.toArray (fun w' => ∃ x : Later W, w' = x.at_) (fun a' => ∀ w', (∃ x : Later W, w' = x.at_) → Q .normal a' w') l a) : (Code.region id l.toArray true).wp P Q a w :=
  wp_region_quiet (C := fun w' => ∃ x : Later W, w' = x.at_) hm hB ⟨⟨_, later_drew hw⟩, rfl⟩ (by simpa using h)

theorem calls_later {P : Program} {f : FuncId} {args : Array Value} {W : World} {x : Later W} {v : Value}
    (h : Calls P f args x.at_ fun e w' => e = .returned v ∧ Below x.at_.heap.size x.at_ w') : Calls P f args x.at_ fun e w'' => e = .returned v ∧ ∃ y : Later W, w'' = y.at_ :=
  h.mono fun _ w' ⟨he, hb⟩ => ⟨he, ⟨w', x.below.trans ⟨hb.os, hb.tape, hb.output, hb.size, fun k hk => hb.block k (Nat.lt_of_lt_of_le hk x.below.size)⟩⟩, rfl⟩
/-- A callee that leaves the world as it is. -/
theorem calls_later_same {P : Program} {f : FuncId} {args : Array Value} {W : World} {x : Later W} {v : Value}
    (h : Calls P f args x.at_ fun e w' => e = .returned v ∧ x.at_ = w') : Calls P f args x.at_ fun e w'' => e = .returned v ∧ ∃ y : Later W, w'' = y.at_ :=
  h.mono fun _ _ ⟨he, hw⟩ => ⟨he, x, hw.symm⟩
theorem later_cell {W : World} {p : Addr} {v : Value} (h : W.cell? p = some v) (x : Later W) : x.at_.cell? p = some v := (x.below.cell (World.block_lt_of_cell? W _ h)).trans h
theorem later_some (W : World) : Nonempty (Later W) := ⟨⟨W, Below.refl _ _⟩⟩

end Go.Proofs.Ytegkphbnedbgfaa
