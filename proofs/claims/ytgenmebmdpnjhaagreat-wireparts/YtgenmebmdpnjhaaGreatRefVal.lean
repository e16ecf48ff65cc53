
/- The document's answers on values: the same words. -/
import Derived.Test.YtgenmebmdpnjhaaGreatG1b
namespace Go.Proofs.YtgenmebmdpnjhaaGreat
open Go.RowKit

theorem below_drewN {B : Nat} {a w : World} (h : Below B a w) (n : Nat) : Below B a (w.drewN n) := ⟨h.os, h.tape, h.output, h.size, h.block⟩

set_option maxHeartbeats 2000000 in
theorem rvsame_any (ak an : Int) (ax : Nat) (az : ByteArray) (ab : Bool) (bk bn : Int) (bx : Nat) (bz : ByteArray) (bb : Bool) (w : World) :
    Calls Tryz.prog 108 #[vl ak an ax az ab, vl bk bn bx bz bb] w fun e w' => e = .returned (.bool (Vl.same ⟨ak, an, ax, az, ab⟩ ⟨bk, bn, bx, bz, bb⟩)) ∧ Below w.heap.size w w' := by
  have hsc := Fl.same_cast ax bx
  by_cases hk : ak = bk
  · subst hk
    by_cases hn : an = bn
    · subst hn
      cases hx : Fl.same ax bx
      · rw [hx] at hsc
        go_enter Tryz.func108, Tryz.ntmps108
        go_wp2_with fail
        go_quiet (first | (go_at_call 135; exact Calls.quiet_of_same ((rbits_any _ _).mono fun e w' h => ⟨h.1, h.2.symm⟩)))
        go_wp2_with fail
        go_ret
        exact ⟨by simp [Vl.same, *], below_drewN (two_new _ _ _) _⟩
      · rw [hx] at hsc
        cases hs : (az.toList == bz.toList)
        · go_enter Tryz.func108, Tryz.ntmps108
          go_wp2_with fail
          go_quiet (first | (go_at_call 135; exact Calls.quiet_of_same ((rbits_any _ _).mono fun e w' h => ⟨h.1, h.2.symm⟩)))
          go_wp2_with fail
          go_ret
          exact ⟨by simp [Vl.same, *], below_drewN (two_new _ _ _) _⟩
        · go_enter Tryz.func108, Tryz.ntmps108
          go_wp2_with fail
          go_quiet (first | (go_at_call 135; exact Calls.quiet_of_same ((rbits_any _ _).mono fun e w' h => ⟨h.1, h.2.symm⟩)))
          go_wp2_with fail
          go_ret
          exact ⟨by simp [Vl.same, *], below_drewN (two_new _ _ _) _⟩
    · clear hsc
      go_enter Tryz.func108, Tryz.ntmps108
      go_wp2_with fail
      go_quiet (first | (go_at_call 135; exact Calls.quiet_of_same ((rbits_any _ _).mono fun e w' h => ⟨h.1, h.2.symm⟩)))
      go_wp2_with fail
      go_ret
      exact ⟨by simp [Vl.same, *], below_drewN (two_new _ _ _) _⟩
  · clear hsc
    go_enter Tryz.func108, Tryz.ntmps108
    go_wp2_with fail
    go_quiet (first | (go_at_call 135; exact Calls.quiet_of_same ((rbits_any _ _).mono fun e w' h => ⟨h.1, h.2.symm⟩)))
    go_wp2_with fail
    go_ret
    exact ⟨by simp [Vl.same, *], below_drewN (two_new _ _ _) _⟩

set_option maxHeartbeats 2000000 in
theorem rvright_any (ak an : Int) (ax : Nat) (az : ByteArray) (ab : Bool) (w : World) :
    Calls Tryz.prog 104 #[vl ak an ax az ab] w fun e w' => e = .returned (.bool (Vl.right ⟨ak, an, ax, az, ab⟩)) ∧ Below w.heap.size w w' := by
  have hK : ak = 1 ∨ ak = 2 ∨ ak = 3 ∨ ak = 4 ∨ (¬ ak = 1 ∧ ¬ ak = 2 ∧ ¬ ak = 3 ∧ ¬ ak = 4) := by omega
  rcases hK with rfl | rfl | rfl | rfl | ⟨g1, g2, g3, g4⟩
  all_goals
    go_enter Tryz.func104, Tryz.ntmps104
    go_wp2_with fail
    go_quiet (fail)
    go_wp2_with fail
    all_goals
      go_ret
      refine ⟨?_, below_drewN (one_new _ _) _⟩
      simp_all [Vl.right, Vl.zx, Vl.zs]
      all_goals first | omega | (generalize az.toList = l; cases l <;> rfl)

end Go.Proofs.YtgenmebmdpnjhaaGreat
