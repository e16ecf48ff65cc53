
/- PredTells and PredImplies of arguments that came in. -/
import Derived.Test.YtddgpbokfglieaaOpenPrd
import Derived.Test.YtddgpbokfglieaaPredTells
namespace Go.Proofs.Ytddgpbokfglieaa
open Go.RowKit
theorem pimplies_below (w : World) (x : Pt) (ax : IsArg w x) (y : Pt) (ay : IsArg w y) (A : Option Addr) (len cap : Nat) (zs : List Int) (hr : IsRow .i64 w A len cap zs) :
    Calls Try.prog 5 #[pv x.p x.A x.p.set.length x.c, pv y.p y.A y.p.set.length y.c, .slice A len cap] w fun e w' => e = .returned (.bool true) ∧ Below w.heap.size w w' :=
  pimplies_walk x y A len cap w ax ay hr.draws
theorem ptells_below (w : World) (x : Pt) (ax : IsArg w x) (y : Pt) (ay : IsArg w y) (k n : Int) (f : Nat) (s : ByteArray) (b : Bool) (hv : IsVal k n f s) (A : Option Addr) (len cap : Nat) (zs : List Int) (hr : IsRow .i64 w A len cap zs) :
    Calls Try.prog 4 #[pv x.p x.A x.p.set.length x.c, pv y.p y.A y.p.set.length y.c, vl k n f s b, .slice A len cap] w fun e w' => e = .returned (.bool true) ∧ Below w.heap.size w w' :=
  ptells_walk x y ⟨k, n, f, s, b⟩ A len cap w ax ay ⟨(int_range hv.num).1, (int_range hv.num).2, by have := hv.txt; unfold maxLen at this; show s.size ≤ _; omega⟩ hr.draws
end Go.Proofs.Ytddgpbokfglieaa
