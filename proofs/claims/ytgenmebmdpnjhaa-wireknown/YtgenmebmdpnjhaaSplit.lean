
/- A plain region walked in two parts: the second begins where a law of one's own is wanted. Nothing of the program. -/
import Derived.WalkKit
import Derived.BigFrame
namespace Go.Proofs.Ytgenmebmdpnjhaa
open Go.RowKit

section
variable {P : Program} {ops : Array Oper} {Q : Exit → Act → World → Prop}
/-- Behind the first part: the second. -/
def Second (P : Program) (ops : Array Oper) (Q : Exit → Act → World → Prop) (l : List Oper) : Exit → Act → World → Prop
  | .normal, a, w => wpList P ops Q l a w
  | e, a, w => Q e a w
theorem second_lets {l : List Oper} (h : LetsOut (Second P ops Q l)) : LetsOut Q := h
theorem second_op {l : List Oper} {o : Oper} {a : Act} {w : World} {K : Act → World → Prop} (hh : o.wp P a w K (Second P ops Q l)) : o.wp P a w K Q := by
  unfold Oper.wp at *
  generalize (execOp a.eval o).run P w = r at *
  cases r with
  | ok n w' =>
    cases n <;> simp only [Oper.upon] at hh ⊢ <;>
      first
        | exact hh
        | exact Calls.mono hh (fun e w'' he => by cases e <;> exact he)
  | halt x w' => cases x <;> simp only [Oper.upon] at hh ⊢ <;> exact hh
theorem wpList_split (l2 : List Oper) : ∀ (l1 : List Oper) (a : Act) (w : World), wpList P ops (Second P ops Q l2) l1 a w → wpList P ops Q (l1 ++ l2) a w
  | [], _, _, h => h
  | o :: l, a, w, h => by
    rw [List.cons_append]
    unfold wpList at h ⊢
    split at h
    · rename_i hw
      rw [if_pos hw]
      rcases h with h | h
      · exact .inl (second_op (Oper.wp_mono (fun a w h => wpList_split l2 l a w h) h))
      · exact .inr ⟨h.1, second_lets h.2⟩
    · rename_i hw
      rw [if_neg hw]
      exact wpList_split l2 l _ _ h
/-- A plain region, its first n operations apart. -/
theorem region_split {id : Nat} {l : List Oper} {a : Act} {w : World} (n : Nat) (h : wpList P l.toArray (Second P l.toArray Q (l.drop n)) (l.take n) a w) : (Code.region id l.toArray false).wp P Q a w := by
  refine wp_region_lit ?_
  have := wpList_split (l.drop n) (l.take n) a w h
  rw [List.take_append_drop] at this
  exact this
end
end Go.Proofs.Ytgenmebmdpnjhaa
