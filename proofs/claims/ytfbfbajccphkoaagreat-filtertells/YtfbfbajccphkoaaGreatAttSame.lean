
/- Attributes: which are the same; a copy: the contracts of attr.Same, attr.Copy and of the document's. -/
import Derived.Test.YtfbfbajccphkoaaGreatAtt
import Derived.Test.YtfbfbajccphkoaaGreatRefVal
namespace Go.Proofs.YtfbfbajccphkoaaGreat
open Go.RowKit

namespace At
def one (a b : Att) : Bool := (a.name.toList == b.name.toList) && Vl.same a.v b.v
def same : List Att → List Att → Bool
  | [], [] => true
  | a :: l, b :: m => one a b && same l m
  | _, _ => false
theorem same_len : ∀ {l m : List Att}, same l m = true → l.length = m.length
  | [], [], _ => rfl
  | a :: l, b :: m, h => by simp only [same, Bool.and_eq_true] at h; simp [same_len h.2]
  | [], _ :: _, h => by simp [same] at h
  | _ :: _, [], h => by simp [same] at h
theorem other_len {l m : List Att} (h : ¬ l.length = m.length) : same l m = false := by
  cases hs : same l m
  · rfl
  · exact absurd (same_len hs) h
theorem same_bad {l m : List Att} {k : Nat} {a b : Att} (h : l[k]? = some a) (g : m[k]? = some b) (hp : same l m = same (l.drop k) (m.drop k)) (hb : one a b = false) : same l m = false := by
  rw [hp, drop_at h, drop_at g, same, hb]; rfl
theorem same_good {l m : List Att} {k : Nat} {a b : Att} (h : l[k]? = some a) (g : m[k]? = some b) (hp : same l m = same (l.drop k) (m.drop k)) (hb : one a b = true) : same l m = same (l.drop (k + 1)) (m.drop (k + 1)) := by
  rw [hp, drop_at h, drop_at g, same, hb]; simp
theorem same_end {l m : List Att} {k : Nat} (h : ¬ k < l.length) (he : m.length = l.length) (hp : same l m = same (l.drop k) (m.drop k)) : same l m = true := by
  rw [hp, List.drop_eq_nil_of_le (by omega), List.drop_eq_nil_of_le (by omega), same]
end At

theorem att_info : (Tryz.prog.info? 54).map (fun i => (i.zero, i.size, i.bytes)) = some (some (av ⟨⟨#[]⟩, At.z0⟩), 6, 64) := by kernel_rfl
abbrev fresh (w : World) (n : Nat) : World := w.alloc (.cells (madeCells (av ⟨⟨#[]⟩, At.z0⟩).cells (n * 6)) 54)
theorem make_att (w : World) (n : Nat) (hn : n ≤ 1000000) : (Instr.makeSlice 23 (.int .i64 (n : Int)) (.int .i64 (n : Int))).run Tryz.prog w = .ok (.slice (some ⟨w.heap.size, 0, none⟩) n n) (fresh w n) := by
  obtain ⟨i, hi, hz, h1, h2⟩ := info_at att_info
  have := run_make (P := Tryz.prog) w 23 54 i _ Tryz.underlying23 hi hz .i64 .i64 n n (by omega) (Int.le_refl _) (by rw [h2]; omega) (by omega)
  rw [h1] at this
  exact this
theorem copy_att {A : Option Addr} {n c : Nat} {l : List Att} (w : World) (h : Ats w A n l) (ty : TypeId) : (Builtin.copy_ #[23, 23] ty #[.slice (some ⟨w.heap.size, 0, none⟩) n n, .slice A n c]).run Tryz.prog (fresh w n) = .ok (goInt n) ((fresh w n).setRow w.heap.size (flat l).toArray) := by
  have hm : madeCells (av ⟨⟨#[]⟩, At.z0⟩).cells (n * 6) = (madeCells (av ⟨⟨#[]⟩, At.z0⟩).cells (n * 6)).toList.toArray := by simp
  refine run_copyw (fresh w n) _ _ ty 54 n n c w.heap.size A (madeCells (av ⟨⟨#[]⟩, At.z0⟩).cells (n * 6)).toList (flat l) Tryz.underlying23 (by kernel_rfl) ?_ ?_ (h.row.later (one_new _ _)) (flat_one l)
  · rw [← hm]; exact heap_alloc_new _ _
  · simp [madeCells]
/-- What Copy tells: the same, in a block of its own. -/
def CopyPost (w : World) (n : Nat) (l : List Att) (e : Ending) (w' : World) : Prop :=
  e = .returned (.slice (some ⟨w.heap.size, 0, none⟩) n n) ∧ w'.heap[w.heap.size]? = some (.cells (flat l).toArray 54 (0, 0)) ∧ Below w.heap.size w w'
end Go.Proofs.YtfbfbajccphkoaaGreat
