
/- The document's answers on values: the same words. -/
import Derived.Test.YtfbfbajccphkoaaVal2
import Derived.Test.YtfbfbajccphkoaaRef1
import Derived.Test.YtfbfbajccphkoaaLater
namespace Go.Proofs.Ytfbfbajccphkoaa
open Go.RowKit

theorem below_drewN {B : Nat} {a w : World} (h : Below B a w) (n : Nat) : Below B a (w.drewN n) := ⟨h.os, h.tape, h.output, h.size, h.block⟩

set_option maxHeartbeats 2000000 in
theorem rvsame_any (ak an : Int) (ax : Nat) (az : ByteArray) (ab : Bool) (bk bn : Int) (bx : Nat) (bz : ByteArray) (bb : Bool) (w : World) :
    Calls Try.prog 56 #[vl ak an ax az ab, vl bk bn bx bz bb] w fun e w' => e = .returned (.bool (Vl.same ⟨ak, an, ax, az, ab⟩ ⟨bk, bn, bx, bz, bb⟩)) ∧ Below w.heap.size w w' := by
  have hsc := Fl.same_cast ax bx
  by_cases hk : ak = bk
  · subst hk
    by_cases hn : an = bn
    · subst hn
      cases hx : Fl.same ax bx
      · rw [hx] at hsc
        go_enter Try.func56, Try.ntmps56
        go_wp2_with fail
        go_quiet (first | (go_at_call 75; exact Calls.quiet_of_same ((rbits_any _ _).mono fun e w' h => ⟨h.1, h.2.symm⟩)))
        go_wp2_with fail
        go_ret
        exact ⟨by simp [Vl.same, *], below_drewN (two_new _ _ _) _⟩
      · rw [hx] at hsc
        cases hs : (az.toList == bz.toList)
        · go_enter Try.func56, Try.ntmps56
          go_wp2_with fail
          go_quiet (first | (go_at_call 75; exact Calls.quiet_of_same ((rbits_any _ _).mono fun e w' h => ⟨h.1, h.2.symm⟩)))
          go_wp2_with fail
          go_ret
          exact ⟨by simp [Vl.same, *], below_drewN (two_new _ _ _) _⟩
        · go_enter Try.func56, Try.ntmps56
          go_wp2_with fail
          go_quiet (first | (go_at_call 75; exact Calls.quiet_of_same ((rbits_any _ _).mono fun e w' h => ⟨h.1, h.2.symm⟩)))
          go_wp2_with fail
          go_ret
          exact ⟨by simp [Vl.same, *], below_drewN (two_new _ _ _) _⟩
    · clear hsc
      go_enter Try.func56, Try.ntmps56
      go_wp2_with fail
      go_quiet (first | (go_at_call 75; exact Calls.quiet_of_same ((rbits_any _ _).mono fun e w' h => ⟨h.1, h.2.symm⟩)))
      go_wp2_with fail
      go_ret
      exact ⟨by simp [Vl.same, *], below_drewN (two_new _ _ _) _⟩
  · clear hsc
    go_enter Try.func56, Try.ntmps56
    go_wp2_with fail
    go_quiet (first | (go_at_call 75; exact Calls.quiet_of_same ((rbits_any _ _).mono fun e w' h => ⟨h.1, h.2.symm⟩)))
    go_wp2_with fail
    go_ret
    exact ⟨by simp [Vl.same, *], below_drewN (two_new _ _ _) _⟩

end Go.Proofs.Ytfbfbajccphkoaa
