
/- Feed.Value: some right value. -/
import Derived.Test.YtgenmebmdpnjhaaVal2
import Derived.Deep.DeepCutAuto
namespace Go.Proofs.Ytgenmebmdpnjhaa
open Go.RowKit

/-- Five cells of a block turned. -/
abbrev set5 (w : World) (g : Nat) (v0 v1 v2 v3 v4 : Value) : World :=
  ((((w.setCell ⟨g, 0, none⟩ v0).setCell ⟨g, 1, none⟩ v1).setCell ⟨g, 2, none⟩ v2).setCell ⟨g, 3, none⟩ v3).setCell ⟨g, 4, none⟩ v4

theorem row5 {w : World} {g : Nat} {t : TypeId} {c0 c1 c2 c3 c4 : Value} (v0 v1 v2 v3 v4 : Value) (hg : w.heap[g]? = some (.cells #[c0, c1, c2, c3, c4] t (0, 0))) :
    (set5 w g v0 v1 v2 v3 v4).heap[g]? = some (.cells #[v0, v1, v2, v3, v4] t (0, 0)) := by
  have h0 := heap_setCell_same w g 0 _ t v0 hg
  have h1 := heap_setCell_same _ g 1 _ t v1 h0
  have h2 := heap_setCell_same _ g 2 _ t v2 h1
  have h3 := heap_setCell_same _ g 3 _ t v3 h2
  have h4 := heap_setCell_same _ g 4 _ t v4 h3
  exact h4
theorem kept5 (w : World) (g : Nat) (v0 v1 v2 v3 v4 : Value) : Kept (· = g) w (set5 w g v0 v1 v2 v3 v4) :=
  ((((Kept.setCell (S := (· = g)) w ⟨g, 0, none⟩ rfl v0).then (Kept.setCell (S := (· = g)) _ ⟨g, 1, none⟩ rfl v1)).then (Kept.setCell (S := (· = g)) _ ⟨g, 2, none⟩ rfl v2)).then (Kept.setCell (S := (· = g)) _ ⟨g, 3, none⟩ rfl v3)).then (Kept.setCell (S := (· = g)) _ ⟨g, 4, none⟩ rfl v4)
theorem Kept.to5 {S : Nat → Prop} {a w : World} {g : Nat} (v0 v1 v2 v3 v4 : Value) (h : Kept S a w) (hg : a.heap.size ≤ g) : Kept S a (set5 w g v0 v1 v2 v3 v4) :=
  h.trans (kept5 w g v0 v1 v2 v3 v4) (fun i hi e => by omega)
/-- A block whole. -/
theorem Kept.row {S : Nat → Prop} {w w' : World} (h : Kept S w w') {g : Nat} {o : Obj} (hg : w.heap[g]? = some o) (hs : ¬ S g) : w'.heap[g]? = some o := by
  have hlt : g < w.heap.size := by
    rcases Nat.lt_or_ge g w.heap.size with h | h
    · exact h
    · rw [Array.getElem?_eq_none h] at hg; cases hg
  rw [h.block g hlt hs]; exact hg

/-- What Feed.Value tells: some right value; the Feed is one still. -/
def ValuePost (B b a : Nat) (w : World) (e : Ending) (w' : World) : Prop :=
  ∃ (k n : Int) (x : Nat) (s : ByteArray) (t : Bool), -9223372036854775808 ≤ n ∧ n ≤ 9223372036854775807 ∧ x < 2 ^ 64 ∧ Vl.right ⟨k, n, x, s, t⟩ = true ∧ e = .returned (vl k n x s t) ∧ IsFeed B w' b (a + 2) ∧ Kept (· = b) w w'

/-- Its cells, none frozen. -/
structure Five (w : World) (g : Nat) (c0 c1 c2 c3 c4 : Value) : Prop where
  h0 : w.cell? ⟨g, 0, none⟩ = some c0
  h1 : w.cell? ⟨g, 1, none⟩ = some c1
  h2 : w.cell? ⟨g, 2, none⟩ = some c2
  h3 : w.cell? ⟨g, 3, none⟩ = some c3
  h4 : w.cell? ⟨g, 4, none⟩ = some c4
  f0 : w.frozen? ⟨g, 0, none⟩ = false
  f1 : w.frozen? ⟨g, 1, none⟩ = false
  f2 : w.frozen? ⟨g, 2, none⟩ = false
  f3 : w.frozen? ⟨g, 3, none⟩ = false
  f4 : w.frozen? ⟨g, 4, none⟩ = false
theorem five {w : World} {g : Nat} {t : TypeId} {c0 c1 c2 c3 c4 : Value} (hg : w.heap[g]? = some (.cells #[c0, c1, c2, c3, c4] t (0, 0))) : Five w g c0 c1 c2 c3 c4 :=
  ⟨cell_of_row _ _ 0 _ _ _ hg, cell_of_row _ _ 1 _ _ _ hg, cell_of_row _ _ 2 _ _ _ hg, cell_of_row _ _ 3 _ _ _ hg, cell_of_row _ _ 4 _ _ _ hg,
   frozen_of_row _ _ 0 _ _ hg, frozen_of_row _ _ 1 _ _ hg, frozen_of_row _ _ 2 _ _ hg, frozen_of_row _ _ 3 _ _ hg, frozen_of_row _ _ 4 _ _ hg⟩

abbrev zero5 (t : TypeId) : Obj := .cells #[.int .i64 0, .int .i64 0, .float .f64 0, .string ⟨#[]⟩, .bool false] t

/-- How Feed.Value ends. -/
theorem value_ends {B b a g : Nat} {w w2 : World} {t : TypeId} {c0 c1 c2 c3 c4 : Value} (k n : Int) (x : Nat) (s : ByteArray) (u : Bool) (_ : w2.heap[g]? = some (.cells #[c0, c1, c2, c3, c4] t (0, 0))) (hgs : w.heap.size ≤ g) (hF : IsFeed B w2 b (a + 2)) (hK : Kept (· = b) w w2) (hb : b < w.heap.size)
    (h1 : -9223372036854775808 ≤ n) (h2 : n ≤ 9223372036854775807) (hx : x < 2 ^ 64) (hr : Vl.right ⟨k, n, x, s, u⟩ = true) :
    ValuePost B b a w (.returned (vl k n x s u)) (set5 w2 g (.int .i64 k) (.int .i64 n) (.float .f64 x) (.string s) (.bool u)) := by
  refine ⟨k, n, x, s, u, h1, h2, hx, hr, rfl, ?_, hK.to5 _ _ _ _ _ hgs⟩
  have hB := hF.1
  exact hF.kept (kept5 w2 g _ _ _ _ _) (by show ¬ b = g; omega) (by intro i hi e; omega)

theorem row_lt {w : World} {g : Nat} {o : Obj} (hg : w.heap[g]? = some o) : g < w.heap.size := by
  rcases Nat.lt_or_ge g w.heap.size with h | h
  · exact h
  · rw [Array.getElem?_eq_none h] at hg; cases hg
theorem right_int {n : Int} : Vl.right ⟨1, n, 0, ⟨#[]⟩, false⟩ = true := by
  have h : FloatKind.f64.format.order 0 0 = some .eq := by kernel_rfl
  simp [Vl.right, Vl.zx, Vl.zs, h]
theorem right_bool {b : Bool} : Vl.right ⟨4, 0, 0, ⟨#[]⟩, b⟩ = true := by
  have h : FloatKind.f64.format.order 0 0 = some .eq := by kernel_rfl
  simp [Vl.right, Vl.zx, Vl.zs, h]
theorem right_text {s : ByteArray} (hs : s.size ≤ 12) : Vl.right ⟨3, 0, 0, s, false⟩ = true := by
  have h : FloatKind.f64.format.order 0 0 = some .eq := by kernel_rfl
  simp [Vl.right, Vl.zx, h, hs]

end Go.Proofs.Ytgenmebmdpnjhaa
