
/- Tests: rows of values as memory holds them; words on them; the contracts of what package pred's functions stand on. -/
import Derived.Test.YtgenmebmdpnjhaaAttWord
import Derived.Test.YtgenmebmdpnjhaaWide
import Derived.Test.YtgenmebmdpnjhaaFeedValue
import Derived.Test.YtgenmebmdpnjhaaVlKeys
import Derived.Test.YtgenmebmdpnjhaaRefVal
import Derived.Test.YtgenmebmdpnjhaaLater
namespace Go.Proofs.Ytgenmebmdpnjhaa
open Go.RowKit
set_option linter.unusedVariables false

abbrev vlv (v : Val) : Value := vl v.k v.n v.x v.s v.b
/-- Its five cells. -/
def Val.cells (a : Val) : List Value := [.int .i64 a.k, .int .i64 a.n, .float .f64 a.x, .string a.s, .bool a.b]
theorem Val.cells_len (a : Val) : a.cells.length = 5 := rfl
/-- What a machine's value is within. -/
structure Fit (a : Val) : Prop where
  lo : -9223372036854775808 ≤ a.n
  hi : a.n ≤ 9223372036854775807
  txt : a.s.size ≤ 9223372036854775807
/-- The five cells of a value at p of block g. -/
structure Fiv (w : World) (g p : Nat) (a : Val) : Prop where
  h0 : w.cell? ⟨g, p, none⟩ = some (.int .i64 a.k)
  h1 : w.cell? ⟨g, p + 1, none⟩ = some (.int .i64 a.n)
  h2 : w.cell? ⟨g, p + 2, none⟩ = some (.float .f64 a.x)
  h3 : w.cell? ⟨g, p + 3, none⟩ = some (.string a.s)
  h4 : w.cell? ⟨g, p + 4, none⟩ = some (.bool a.b)
theorem Fiv.kept {S : Nat → Prop} {w w' : World} {g p : Nat} {a : Val} (h : Fiv w g p a) (k : Kept S w w') (hs : ¬ S g) : Fiv w' g p a :=
  have hg : g < w.heap.size := cell_lt h.h0
  ⟨(k.cell (p := ⟨g, _, none⟩) hg hs).trans h.h0, (k.cell (p := ⟨g, _, none⟩) hg hs).trans h.h1, (k.cell (p := ⟨g, _, none⟩) hg hs).trans h.h2, (k.cell (p := ⟨g, _, none⟩) hg hs).trans h.h3, (k.cell (p := ⟨g, _, none⟩) hg hs).trans h.h4⟩
theorem Fiv.later {w w' : World} {g p : Nat} {a : Val} (h : Fiv w g p a) (k : Below w.heap.size w w') : Fiv w' g p a := h.kept (S := fun _ => False) (Kept.ofBelow k) id
abbrev vflat (l : List Val) : List Value := l.flatMap Val.cells
theorem vflat_one (l : List Val) : ∀ u ∈ vflat l, u.oneCell' = true := by
  intro u hu
  obtain ⟨a, -, ha⟩ := List.mem_flatMap.1 hu
  simp only [Val.cells, List.mem_cons, List.not_mem_nil, or_false] at ha
  rcases ha with rfl | rfl | rfl | rfl | rfl <;> rfl
/-- A slice reads as a row of values. -/
structure Vs (w : World) (A : Option Addr) (n : Nat) (l : List Val) : Prop where
  row : Rs 5 w A n (vflat l)
  fit : ∀ a, a ∈ l → Fit a
  few : n ≤ 9223372036854775807
theorem Vs.len {w : World} {A : Option Addr} {n : Nat} {l : List Val} (h : Vs w A n l) : l.length = n := by
  have := h.row.1
  rw [flat_len _ Val.cells_len] at this
  omega
theorem Vs.later {w w' : World} {A : Option Addr} {n : Nat} {l : List Val} (h : Vs w A n l) (k : Below w.heap.size w w') : Vs w' A n l := ⟨h.row.later k, h.fit, h.few⟩
theorem Vs.kept {S : Nat → Prop} {w w' : World} {A : Option Addr} {n : Nat} {l : List Val} (h : Vs w A n l) (k : Kept S w w') (hs : ∀ x, A = some x → ¬ S x.block) : Vs w' A n l := ⟨h.row.kept k hs, h.fit, h.few⟩
theorem Vs.at {w : World} {A : Option Addr} {n : Nat} {l : List Val} (h : Vs w A n l) (h0 : 0 < l.length) : ∃ g o, A = some ⟨g, o, none⟩ ∧ ∀ i a, l[i]? = some a → Fiv w g (o + i * 5) a := by
  have hp : 0 < (vflat l).length := by rw [flat_len _ Val.cells_len]; omega
  rcases h.row.2 with h1 | ⟨g, o, rfl, hc⟩
  · rw [h1] at hp; simp at hp
  · refine ⟨g, o, rfl, fun i a hi => ?_⟩
    have hj : ∀ j u, a.cells[j]? = some u → w.cell? ⟨g, o + i * 5 + j, none⟩ = some u := by
      intro j u hu
      have hlt : j < 5 := (List.getElem?_eq_some_iff.1 hu).1
      have := hc (i * 5 + j) u (by rw [flat_get _ Val.cells_len l i j a hi hlt]; exact hu)
      rw [← Nat.add_assoc] at this
      exact this
    exact ⟨hj 0 _ rfl, hj 1 _ rfl, hj 2 _ rfl, hj 3 _ rfl, hj 4 _ rfl⟩
theorem Vs.nil (w : World) : Vs w none 0 [] := ⟨Rs.nil _ _ _, by simp, by omega⟩

theorem vsame_v (a b : Val) (w : World) : Calls Try.prog 67 #[vlv a, vlv b] w fun e w' => e = .returned (.bool (Vl.same a b)) ∧ Below w.heap.size w w' := vsame_any a.k a.n a.x a.s a.b b.k b.n b.x b.s b.b w
theorem vright_v (a : Val) (w : World) : Calls Try.prog 66 #[vlv a] w fun e w' => e = .returned (.bool (Vl.right a)) ∧ Below w.heap.size w w' := vright_any a.k a.n a.x a.s a.b w
namespace Pd
def z0 : Val := ⟨0, 0, 0, ⟨#[]⟩, false⟩
def zero (v : Val) : Bool := Vl.same v z0
def most (v w : Val) : Bool := Vl.ok v w && decide (Vl.cmp v w ≤ 0)
def nan (v : Val) : Bool := decide (v.k = 2) && Fl.nan v.x
def pre (s p : ByteArray) : Bool := decide (p.size ≤ s.size) && (s.toList.take p.size == p.toList)
def sames : List Val → List Val → Bool
  | [], [] => true
  | a :: l, b :: m => Vl.same a b && sames l m
  | _, _ => false
def rset (l : List Val) : Bool := decide (1 ≤ l.length) && decide (l.length ≤ 4) && l.all Vl.right
end Pd

theorem zero_any (a : Val) (w : World) : Calls Try.prog 91 #[vlv a] w fun e w' => e = .returned (.bool (Pd.zero a)) ∧ Below w.heap.size w w' := by
  go_enter Try.func91, Try.ntmps91
  go_wp2_with fail
  refine (vsame_v a Pd.z0 _).mono ?_
  rintro e w' ⟨rfl, hb⟩
  have HB := Lib.hid (below_then (one_new _ _) hb)
  clear hb
  go_wp2_with fail
  go_ret
  exact ⟨rfl, HB.out⟩
end Go.Proofs.Ytgenmebmdpnjhaa
