
/- Attributes: which are right; the contracts of attr.Right and of the document's. -/
import Derived.Test.YtfbfbajccphkoaaGreatAtt
import Derived.Test.YtfbfbajccphkoaaGreatRefVal
namespace Go.Proofs.YtfbfbajccphkoaaGreat
open Go.RowKit

namespace At
theorem less_or : ∀ a b : List UInt8, (Op.bytesLess a b || a == b) = !Op.bytesLess b a
  | [], [] => by simp [Op.bytesLess]
  | [], b :: l => by simp [Op.bytesLess]
  | a :: l, [] => by simp [Op.bytesLess]
  | a :: l, b :: m => by
    have ih := less_or l m
    simp only [Op.bytesLess]
    by_cases h : a < b
    · have h2 : ¬ b < a := fun g => absurd (UInt8.lt_trans h g) (UInt8.lt_irrefl _)
      have h3 : ¬ b = a := fun e => by subst e; exact absurd h (UInt8.lt_irrefl _)
      simp [h, h2, h3]
    · by_cases g : b < a
      · have h3 : ¬ a = b := fun e => by subst e; exact absurd g (UInt8.lt_irrefl _)
        simp [h, g, h3]
      · obtain rfl : a = b := UInt8.le_antisymm (UInt8.not_lt.1 g) (UInt8.not_lt.1 h)
        simp [h, ← ih]
/-- Above what came before. -/
def above (p : Option ByteArray) (s : ByteArray) : Bool := match p with | none => true | some q => Op.bytesLess q.toList s.toList
def okFrom : Option ByteArray → List Att → Bool
  | _, [] => true
  | p, a :: l => (word a.name && Vl.right a.v && above p a.name) && okFrom (some a.name) l
def right (l : List Att) : Bool := decide (l.length ≤ 5) && okFrom none l
/-- The name ahead of place k. -/
def prev (l : List Att) (k : Nat) : Option ByteArray := if k = 0 then none else (l[k - 1]?).map (·.name)
theorem ok_step {l : List Att} {k : Nat} {a : Att} (h : l[k]? = some a) : okFrom (prev l k) (l.drop k) = ((word a.name && Vl.right a.v && above (prev l k) a.name) && okFrom (prev l (k + 1)) (l.drop (k + 1))) := by
  rw [drop_at h, okFrom]
  simp [prev, h]
theorem bad_at {l : List Att} {k : Nat} {a : Att} (h : l[k]? = some a) (hp : okFrom none l = okFrom (prev l k) (l.drop k)) (hb : (word a.name && Vl.right a.v && above (prev l k) a.name) = false) : right l = false := by
  unfold right
  rw [hp, ok_step h, hb]; simp
theorem good_at {l : List Att} {k : Nat} {a : Att} (h : l[k]? = some a) (hp : okFrom none l = okFrom (prev l k) (l.drop k)) (hb : (word a.name && Vl.right a.v && above (prev l k) a.name) = true) : okFrom none l = okFrom (prev l (k + 1)) (l.drop (k + 1)) := by
  rw [hp, ok_step h, hb]; simp
theorem good_end {l : List Att} {k : Nat} (h : ¬ k < l.length) (hp : okFrom none l = okFrom (prev l k) (l.drop k)) : right l = decide (l.length ≤ 5) := by
  unfold right
  rw [hp, List.drop_eq_nil_of_le (by omega)]; simp [okFrom]
theorem prev_at {l : List Att} {k : Nat} {a : Att} (h : l[k]? = some a) : prev l (k + 1) = some a.name := by simp [prev, h]
end At

end Go.Proofs.YtfbfbajccphkoaaGreat
