
/- The document's answers on bytes: Nat, eight, Int, Float, Text. -/
import Derived.Test.YtgenmebmdpnjhaaBytes
import Derived.Handy
namespace Go.Proofs.Ytgenmebmdpnjhaa
open Go.RowKit

theorem one_more (w : World) (A : Obj) : Below w.heap.size w (w.alloc A) := (Below.refl _ _).alloc (Nat.le_refl _) _

/-- A whole number's word. -/
def wordOf (n : Int) : Nat := (n % 18446744073709551616).toNat
theorem word_wrap (n : Int) : IntKind.u64.wrap n = ((wordOf n : Nat) : Int) ∧ wordOf n < 18446744073709551616 := by
  have h1 := Int.emod_nonneg n (show (18446744073709551616 : Int) ≠ 0 by omega)
  have h2 := Int.emod_lt_of_pos n (show (0 : Int) < 18446744073709551616 by omega)
  unfold wordOf
  refine ⟨?_, by omega⟩
  rw [IntKind.wrap_u64, Int.toNat_of_nonneg h1]

theorem bits_lt {x : Nat} (h : x < 2 ^ 64) : Fl.bits x < 18446744073709551616 := by
  unfold Fl.bits
  split
  · omega
  · split <;> omega

/-- A text's bytes. -/
def bytesOf (s : ByteArray) : List Nat := s.data.toList.map (·.toNat)
theorem bytesOf_len (s : ByteArray) : (bytesOf s).length = s.size := by simp [bytesOf]
theorem bytesOf_cells (s : ByteArray) : (bytesOf s).map bcell = Lib.strCells s := by simp [bytesOf, Lib.strCells, List.map_map]

/-- 'append(buf, s...)'. -/
theorem wpList_lays {w W0 : World} {ops : Array Oper} {rest : List Oper} {o : Oper} {a : Act} {Q : Exit → Act → World → Prop} (hgd : o.guard = none) (s x : Operand)
    (ho : o.op = .call { callee := .builtin .append, args := #[s, x], argTypes := #[37, 9] })
    (v : Value) (l : List Nat) (hs : a.eval s = v) (hb : Laid W0 w v l) (t : ByteArray) (hx : a.eval x = .string t) (hlen : l.length + t.size ≤ 100000000)
    (h : ∀ v' w', Laid W0 w' v' (l ++ bytesOf t) → wpList Try.prog ops Q rest (a.put o.dst v') w') : wpList Try.prog ops Q (o :: rest) a w := by
  obtain ⟨i, hi, hz', h1, h2⟩ := byte_info
  refine Lib.wpList_append_text hgd s x 37 9 ho W0.heap.size 5 i Try.underlying37 Try.underlying9 hi hz' h1 h2 v l.length (l.map bcell) hs W0 hb t hx (by omega) ?_
  intro v' w' hb'
  refine h v' w' ?_
  unfold Laid
  rw [List.length_append, List.map_append, bytesOf_len, bytesOf_cells]
  exact hb'

end Go.Proofs.Ytgenmebmdpnjhaa
