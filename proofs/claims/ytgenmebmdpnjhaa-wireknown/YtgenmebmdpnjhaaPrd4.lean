
/- Tests: ends, and what implies what: the contracts of package pred's lower, upper, hasEnds, within, takesEach, prefixImplies. -/
import Derived.Test.YtgenmebmdpnjhaaPrd3
namespace Go.Proofs.Ytgenmebmdpnjhaa
open Go.RowKit
set_option linter.unusedVariables false

/-- An end: is it there, is it open, where. -/
structure En where
  th : Bool
  op : Bool
  at_ : Val
abbrev ev (e : En) : Value := .agg #[.bool e.th, .bool e.op, .int .i64 e.at_.k, .int .i64 e.at_.n, .float .f64 e.at_.x, .string e.at_.s, .bool e.at_.b]
structure EBox (W : World) (g : Nat) (e : En) : Prop where
  h0 : ∀ x : Later W, x.at_.cell? ⟨g, 0, none⟩ = some (.bool e.th)
  h1 : ∀ x : Later W, x.at_.cell? ⟨g, 1, none⟩ = some (.bool e.op)
  h2 : ∀ x : Later W, x.at_.cell? ⟨g, 2, none⟩ = some (.int .i64 e.at_.k)
  h3 : ∀ x : Later W, x.at_.cell? ⟨g, 3, none⟩ = some (.int .i64 e.at_.n)
  h4 : ∀ x : Later W, x.at_.cell? ⟨g, 4, none⟩ = some (.float .f64 e.at_.x)
  h5 : ∀ x : Later W, x.at_.cell? ⟨g, 5, none⟩ = some (.string e.at_.s)
  h6 : ∀ x : Later W, x.at_.cell? ⟨g, 6, none⟩ = some (.bool e.at_.b)
theorem EBox.next {W : World} {g : Nat} {e : En} (h : EBox W g e) (W' : World) (k : Below W.heap.size W W') : EBox W' g e :=
  ⟨fun x => h.h0 ⟨x.at_, below_then k x.below⟩, fun x => h.h1 ⟨x.at_, below_then k x.below⟩, fun x => h.h2 ⟨x.at_, below_then k x.below⟩, fun x => h.h3 ⟨x.at_, below_then k x.below⟩, fun x => h.h4 ⟨x.at_, below_then k x.below⟩, fun x => h.h5 ⟨x.at_, below_then k x.below⟩, fun x => h.h6 ⟨x.at_, below_then k x.below⟩⟩
namespace Pd
def lower (p : Prd) : En := if p.t = 6 then ⟨true, true, p.v⟩ else if p.t = 7 ∨ p.t = 8 then ⟨true, false, p.v⟩ else ⟨false, false, z0⟩
def upper (p : Prd) : En := if p.t = 4 then ⟨true, true, p.v⟩ else if p.t = 5 then ⟨true, false, p.v⟩ else if p.t = 8 then ⟨true, false, p.w⟩ else ⟨false, false, z0⟩
def hasEnds (p : Prd) : Bool := (lower p).th || (upper p).th
def within (q p : En) (i : Int) : Bool := !p.th || (q.th && (Vl.ok q.at_ p.at_ && (decide (Vl.cmp q.at_ p.at_ = i) || decide (Vl.cmp q.at_ p.at_ = 0) && (q.op || !p.op))))
def each (p : Prd) (l : List Val) : Bool := l.all (fun v => nan v || takes p v)
def preI (v : Val) (p : Prd) : Bool := if p.t = 9 ∨ p.t = 7 ∨ p.t = 6 then takes p v else false
def implies (q p : Prd) : Bool :=
  if !(right q && right p) then false
  else if void q || decide (p.t = 1) then true
  else if sameT q p then true
  else if p.t = 3 then !takes q p.v
  else if q.t = 2 then takes p q.v
  else if q.t = 10 then each p q.set
  else if hasEnds q && hasEnds p then within (lower q) (lower p) 1 && within (upper q) (upper p) (-1)
  else if q.t = 9 then preI q.v p
  else false
theorem fit0 : Fit z0 := ⟨by decide, by decide, by decide⟩
theorem lower_fit {p : Prd} (h : Fit p.v) : Fit (lower p).at_ := by
  unfold lower; split
  · exact h
  · split
    · exact h
    · exact fit0
theorem upper_fit {p : Prd} (h : Fit p.v) (h' : Fit p.w) : Fit (upper p).at_ := by
  unfold upper; split
  · exact h
  · split
    · exact h
    · split
      · exact h'
      · exact fit0
end Pd

theorem alloc2_new (w : World) (o o' : Obj) : ((w.alloc o).alloc o').heap[w.heap.size + 1]? = some o' := by have := heap_alloc_new (w.alloc o) o'; rw [size_next] at this; exact this
end Go.Proofs.Ytgenmebmdpnjhaa
