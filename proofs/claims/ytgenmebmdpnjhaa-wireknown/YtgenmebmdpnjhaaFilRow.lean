
/- Rows of filters; the contracts of filter.Takes, Any, covered, Right. -/
import Derived.Test.YtgenmebmdpnjhaaFilLoop
import Derived.Test.YtgenmebmdpnjhaaAtt
import Derived.Test.YtgenmebmdpnjhaaAttRight
namespace Go.Proofs.Ytgenmebmdpnjhaa
open Go.RowKit
set_option linter.unusedVariables false

/-- A filter and where it lies. -/
structure Ft where
  A : Option Addr
  c : Nat
  l : List Pt
def Ft.v (f : Ft) : Value := .slice f.A f.l.length f.c
def Ft.cells (f : Ft) : List Value := [f.v]
theorem Ft.cells_len (f : Ft) : f.cells.length = 1 := rfl
abbrev fflat (L : List Ft) : List Value := L.flatMap Ft.cells
theorem fflat_one (L : List Ft) : ∀ u ∈ fflat L, u.oneCell' = true := by
  intro u hu
  obtain ⟨a, -, ha⟩ := List.mem_flatMap.1 hu
  rw [List.mem_singleton.1 ha]
  rfl
theorem fflat_get {L : List Ft} {i : Nat} {f : Ft} (h : L[i]? = some f) : (fflat L)[i]? = some f.v := by
  have := flat_get Ft.cells Ft.cells_len L i 0 f h (by omega)
  rw [Nat.mul_one, Nat.add_zero] at this
  exact this
theorem fil_info : (Try.prog.info? 26).map (fun i => (i.zero, i.size, i.bytes)) = some (some (.slice none 0 0), 1, 24) := by kernel_rfl
/-- What is right of a filter as memory holds it. -/
structure IsFt (w : World) (f : Ft) : Prop where
  ps : Ps w f.A f.l.length f.l
  none_ : f.A = none → f.l.length = 0 ∧ f.c = 0
theorem IsFt.later {w w' : World} {f : Ft} (h : IsFt w f) (k : Below w.heap.size w w') : IsFt w' f := ⟨h.ps.later k, h.none_⟩
/-- A slice reads as a row of filters. -/
structure Fs (w : World) (A : Option Addr) (n : Nat) (L : List Ft) : Prop where
  row : Rs 1 w A n (fflat L)
  each : ∀ f, f ∈ L → IsFt w f
  few : n ≤ 9223372036854775807
theorem Fs.len {w : World} {A : Option Addr} {n : Nat} {L : List Ft} (h : Fs w A n L) : L.length = n := by
  have := h.row.1
  rw [flat_len _ Ft.cells_len] at this
  omega
theorem Fs.later {w w' : World} {A : Option Addr} {n : Nat} {L : List Ft} (h : Fs w A n L) (k : Below w.heap.size w w') : Fs w' A n L := ⟨h.row.later k, fun f hf => (h.each f hf).later k, h.few⟩
theorem Fs.cells {w wr : World} {A : Option Addr} {n : Nat} {L : List Ft} (h : Fs w A n L) (hb : Below w.heap.size w wr) {k : Nat} (hk : k < L.length) :
    ∃ g o f, A = some ⟨g, o, none⟩ ∧ L[k]? = some f ∧ IsFt wr f ∧ wr.cell? ⟨g, o + k, none⟩ = some (.slice f.A f.l.length f.c) := by
  obtain ⟨f, hf⟩ : ∃ f, L[k]? = some f := ⟨_, List.getElem?_eq_getElem hk⟩
  have hg := fflat_get hf
  rcases h.row.2 with h1 | ⟨g, o, rfl, hc⟩
  · rw [h1] at hg; simp at hg
  · have hc := hc k _ hg
    exact ⟨g, o, f, rfl, hf, (h.each f (List.mem_of_getElem? hf)).later hb, (hb.cell (cell_lt hc)).trans hc⟩
abbrev OwnF (B : Nat) (w : World) (v : Value) (L : List Ft) : Prop := OwnW 1 B 26 w v L.length (fflat L)

namespace Fi
/-- Is p's attribute there, and taken? -/
def takes1 (a : List Att) (p : Prd) : Bool := At.has a p.name && (Pd.right p && Pd.takes p (At.got a p.name))
def takes (f : List Pt) (a : List Att) : Bool := f.all fun p => takes1 a p.p
def any (L : List Ft) (a : List Att) : Bool := L.any fun f => takes f.l a
def covered (f : Ft) (L : List Ft) : Bool := L.any fun g => covers g.l f.l
/-- Is the one at k right, and its Name not below that of the one ahead? -/
def rightAt (f : List Pt) (k : Nat) : Bool := match f[k]? with
  | none => false
  | some x => Pd.right x.p && (match k with
    | 0 => true
    | j + 1 => match f[j]? with
      | none => false
      | some y => !Op.bytesLess x.p.name.toList y.p.name.toList)
def right (f : List Pt) : Bool := decide (f.length ≤ 3) && (List.range f.length).all (rightAt f)
end Fi
theorem got_fit {l : List Att} (h : ∀ a, a ∈ l → Fit a.v) (s : ByteArray) : Fit (At.got l s) := by
  unfold At.got
  split
  · rename_i a ha
    exact h a (List.mem_of_find?_eq_some ha)
  · exact ⟨by decide, by decide, by decide⟩

end Go.Proofs.Ytgenmebmdpnjhaa
