
/- Attributes: a row of them as memory holds it; words on lists of them; the contracts of attr.Get and of the document's. -/
import Derived.Test.YtgenmebmdpnjhaaAttWord
import Derived.Test.YtgenmebmdpnjhaaWide
import Derived.Test.YtgenmebmdpnjhaaFeedValue
import Derived.Laws.ResultCell
namespace Go.Proofs.Ytgenmebmdpnjhaa
open Go.RowKit

/-- An attribute of package api: Name, V. -/
structure Att where
  name : ByteArray
  v : Val
/-- Its six cells. -/
def Att.cells (a : Att) : List Value := [.string a.name, .int .i64 a.v.k, .int .i64 a.v.n, .float .f64 a.v.x, .string a.v.s, .bool a.v.b]
theorem Att.cells_len (a : Att) : a.cells.length = 6 := rfl
abbrev av (a : Att) : Value := .agg #[.string a.name, .int .i64 a.v.k, .int .i64 a.v.n, .float .f64 a.v.x, .string a.v.s, .bool a.v.b]
abbrev vlw (v : Val) : Value := vl v.k v.n v.x v.s v.b
/-- The six cells of an attribute at p of block g. -/
structure Six (w : World) (g p : Nat) (a : Att) : Prop where
  h0 : w.cell? ⟨g, p, none⟩ = some (.string a.name)
  h1 : w.cell? ⟨g, p + 1, none⟩ = some (.int .i64 a.v.k)
  h2 : w.cell? ⟨g, p + 2, none⟩ = some (.int .i64 a.v.n)
  h3 : w.cell? ⟨g, p + 3, none⟩ = some (.float .f64 a.v.x)
  h4 : w.cell? ⟨g, p + 4, none⟩ = some (.string a.v.s)
  h5 : w.cell? ⟨g, p + 5, none⟩ = some (.bool a.v.b)
theorem Six.kept {S : Nat → Prop} {w w' : World} {g p : Nat} {a : Att} (h : Six w g p a) (k : Kept S w w') (hs : ¬ S g) : Six w' g p a :=
  have hg : g < w.heap.size := cell_lt h.h0
  ⟨(k.cell (p := ⟨g, _, none⟩) hg hs).trans h.h0, (k.cell (p := ⟨g, _, none⟩) hg hs).trans h.h1, (k.cell (p := ⟨g, _, none⟩) hg hs).trans h.h2, (k.cell (p := ⟨g, _, none⟩) hg hs).trans h.h3, (k.cell (p := ⟨g, _, none⟩) hg hs).trans h.h4, (k.cell (p := ⟨g, _, none⟩) hg hs).trans h.h5⟩
theorem Six.later {w w' : World} {g p : Nat} {a : Att} (h : Six w g p a) (k : Below w.heap.size w w') : Six w' g p a := h.kept (S := fun _ => False) (Kept.ofBelow k) id
theorem Six.lt {w : World} {g p : Nat} {a : Att} (h : Six w g p a) : g < w.heap.size := cell_lt h.h0

abbrev flat (l : List Att) : List Value := l.flatMap Att.cells
theorem flat_one (l : List Att) : ∀ u ∈ flat l, u.oneCell' = true := by
  intro u hu
  obtain ⟨a, -, ha⟩ := List.mem_flatMap.1 hu
  simp only [Att.cells, List.mem_cons, List.not_mem_nil, or_false] at ha
  rcases ha with rfl | rfl | rfl | rfl | rfl | rfl <;> rfl
/-- A slice reads as a row of attributes. -/
structure Ats (w : World) (A : Option Addr) (n : Nat) (l : List Att) : Prop where
  row : Rs 6 w A n (flat l)
  names : ∀ a, a ∈ l → a.name.size ≤ 9223372036854775807
  few : n ≤ 9223372036854775807
theorem Ats.len {w : World} {A : Option Addr} {n : Nat} {l : List Att} (h : Ats w A n l) : l.length = n := by
  have := h.row.1
  rw [flat_len _ Att.cells_len] at this
  omega
theorem Ats.later {w w' : World} {A : Option Addr} {n : Nat} {l : List Att} (h : Ats w A n l) (k : Below w.heap.size w w') : Ats w' A n l := ⟨h.row.later k, h.names, h.few⟩
theorem Ats.kept {S : Nat → Prop} {w w' : World} {A : Option Addr} {n : Nat} {l : List Att} (h : Ats w A n l) (k : Kept S w w') (hs : ∀ x, A = some x → ¬ S x.block) : Ats w' A n l := ⟨h.row.kept k hs, h.names, h.few⟩
theorem Ats.at {w : World} {A : Option Addr} {n : Nat} {l : List Att} (h : Ats w A n l) (h0 : 0 < l.length) : ∃ g o, A = some ⟨g, o, none⟩ ∧ ∀ i a, l[i]? = some a → Six w g (o + i * 6) a := by
  have hp : 0 < (flat l).length := by rw [flat_len _ Att.cells_len]; omega
  rcases h.row.2 with h1 | ⟨g, o, rfl, hc⟩
  · rw [h1] at hp; simp at hp
  · refine ⟨g, o, rfl, fun i a hi => ?_⟩
    have hj : ∀ j u, a.cells[j]? = some u → w.cell? ⟨g, o + i * 6 + j, none⟩ = some u := by
      intro j u hu
      have hlt : j < 6 := (List.getElem?_eq_some_iff.1 hu).1
      have := hc (i * 6 + j) u (by rw [flat_get _ Att.cells_len l i j a hi hlt]; exact hu)
      rw [← Nat.add_assoc] at this
      exact this
    exact ⟨hj 0 _ rfl, hj 1 _ rfl, hj 2 _ rfl, hj 3 _ rfl, hj 4 _ rfl, hj 5 _ rfl⟩

namespace At
/-- The zero value. -/
def z0 : Val := ⟨0, 0, 0, ⟨#[]⟩, false⟩
def find (l : List Att) (s : ByteArray) : Option Att := l.find? fun a => a.name.toList == s.toList
def got (l : List Att) (s : ByteArray) : Val := match find l s with | some a => a.v | none => z0
def has (l : List Att) (s : ByteArray) : Bool := (find l s).isSome
theorem drop_at {α : Type} {l : List α} {k : Nat} {a : α} (h : l[k]? = some a) : l.drop k = a :: l.drop (k + 1) := by
  obtain ⟨hk, rfl⟩ := List.getElem?_eq_some_iff.1 h
  exact List.drop_eq_getElem_cons hk
theorem find_hit {l : List Att} {k : Nat} {a : Att} {s : ByteArray} (h : l[k]? = some a) (hp : find l s = find (l.drop k) s) (he : (a.name.toList == s.toList) = true) : find l s = some a := by
  rw [hp, drop_at h, find, List.find?_cons, he]
theorem find_miss {l : List Att} {k : Nat} {a : Att} {s : ByteArray} (h : l[k]? = some a) (hp : find l s = find (l.drop k) s) (he : (a.name.toList == s.toList) = false) : find l s = find (l.drop (k + 1)) s := by
  rw [hp, drop_at h, find, List.find?_cons, he]; rfl
theorem find_none {l : List Att} {k : Nat} {s : ByteArray} (h : ¬ k < l.length) (hp : find l s = find (l.drop k) s) : find l s = none := by
  rw [hp, List.drop_eq_nil_of_le (by omega)]; rfl
theorem got_of {l : List Att} {s : ByteArray} {a : Att} (h : find l s = some a) : got l s = a.v := by unfold got; rw [h]
theorem has_of {l : List Att} {s : ByteArray} {a : Att} (h : find l s = some a) : has l s = true := by unfold has; rw [h]; rfl
theorem got_none {l : List Att} {s : ByteArray} (h : find l s = none) : got l s = z0 := by unfold got; rw [h]
theorem has_none {l : List Att} {s : ByteArray} (h : find l s = none) : has l s = false := by unfold has; rw [h]; rfl
end At

theorem results_row_tmp {fn : Func} {p u : Tmp} (h : fn.results = #[.cell p 41, .tmp u]) {tmps : Array Value} {w : World} {g : Nat} {t : TypeId} {cs : Array Value} {fr : Nat × Nat}
    (hp : tmps.getD p undef = .pointer (some ⟨g, 0, none⟩)) (hg : w.heap[g]? = some (.cells cs t fr)) (hi : (Try.prog.info? 41).map (·.size) = some cs.size) :
    (results fn tmps).run Try.prog w = .ok (.tuple #[.agg cs, tmps.getD u undef]) w := by
  rw [results_cell_tmp h, hp]
  have hl := run_loadVar_row (P := Try.prog) w g t 41 cs fr _ hg Try.underlying41 rfl hi
  simp [asAddr, hl]

abbrev row0 (w : World) (g : Nat) : Prop := w.heap[g]? = some (zero5 41)
theorem below_rowa {w w' : World} {g : Nat} {o : Obj} (k : Below w.heap.size w w') (h : w.heap[g]? = some o) : w'.heap[g]? = some o := by
  have hlt : g < w.heap.size := (Array.getElem?_eq_some_iff.1 h).1
  rw [k.block g hlt]; exact h
theorem below_five {w w' : World} {g : Nat} {v0 v1 v2 v3 v4 : Value} (h : Below w.heap.size w w') (hg : w.heap.size ≤ g) : Below w.heap.size w (set5 w' g v0 v1 v2 v3 v4) :=
  ((Kept.ofBelow (S := fun _ => False) h).to5 v0 v1 v2 v3 v4 hg).below (Nat.le_refl _) (fun _ _ => id)
abbrev gotv (l : List Att) (s : ByteArray) : Value := .tuple #[vlw (At.got l s), .bool (At.has l s)]
theorem got_val {l : List Att} {s : ByteArray} {a : Att} (h : At.find l s = some a) : Ending.returned (.tuple #[vlw a.v, .bool true]) = .returned (gotv l s) := by unfold gotv; rw [At.got_of h, At.has_of h]
theorem got_zero {l : List Att} {s : ByteArray} (h : At.find l s = none) : Ending.returned (.tuple #[vlw At.z0, .bool false]) = .returned (gotv l s) := by unfold gotv; rw [At.got_none h, At.has_none h]

end Go.Proofs.Ytgenmebmdpnjhaa
