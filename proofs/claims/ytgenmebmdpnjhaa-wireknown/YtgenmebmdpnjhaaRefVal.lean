
/- The document's answers on values: the same words. -/
import Derived.Test.YtgenmebmdpnjhaaVal2
import Derived.Test.YtgenmebmdpnjhaaRef1
import Derived.Test.YtgenmebmdpnjhaaLater
namespace Go.Proofs.Ytgenmebmdpnjhaa
open Go.RowKit

theorem below_drewN {B : Nat} {a w : World} (h : Below B a w) (n : Nat) : Below B a (w.drewN n) := ⟨h.os, h.tape, h.output, h.size, h.block⟩

end Go.Proofs.Ytgenmebmdpnjhaa
