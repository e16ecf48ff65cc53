
/- Closed calls of package math: NaN, Inf, Copysign; and Feed.Float. -/
import Derived.Test.YtgenmebmdpnjhaaFloat
import Derived.Test.YtgenmebmdpnjhaaHand
import Derived.Deep.RegionWith
namespace Go.Proofs.Ytgenmebmdpnjhaa
open Go.RowKit

/-- A float is one cell. -/
theorem store_float (a : Addr) (x : Nat) (w : World) : (store a (.float .f64 x)).run Try.prog w = stored Try.prog w a (.float .f64 x) .plain := run_store Try.prog w a _ .plain rfl

/-- What Feed.Float tells: some float. -/
def FloatPost (B b a : Nat) (w : World) (e : Ending) (w' : World) : Prop :=
  ∃ x : Nat, x < 2 ^ 64 ∧ e = .returned (.float .f64 x) ∧ IsFeed B w' b (a + 1) ∧ Kept (· = b) w w'

end Go.Proofs.Ytgenmebmdpnjhaa
