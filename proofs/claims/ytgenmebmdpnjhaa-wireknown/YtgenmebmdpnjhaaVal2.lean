
/- Package value: Is, Same, Right. -/
import Derived.Test.YtgenmebmdpnjhaaVal
namespace Go.Proofs.Ytgenmebmdpnjhaa
open Go.RowKit

theorem below_sub {B C : Nat} {w w' : World} (h : Below B w w') (hc : C ≤ B) : Below C w w' := ⟨h.os, h.tape, h.output, h.size, fun k hk => h.block k (Nat.lt_of_lt_of_le hk hc)⟩
/-- One step behind another. -/
theorem below_then {a b c : World} (h : Below a.heap.size a b) (k : Below b.heap.size b c) : Below a.heap.size a c := h.trans (below_sub k h.size)

theorem one_new (w : World) (A : Obj) : Below w.heap.size w (w.alloc A) := (Below.refl _ _).alloc (Nat.le_refl _) _

set_option maxHeartbeats 2000000 in
theorem vsame_any (ak an : Int) (ax : Nat) (az : ByteArray) (ab : Bool) (bk bn : Int) (bx : Nat) (bz : ByteArray) (bb : Bool) (w : World) :
    Calls Try.prog 67 #[vl ak an ax az ab, vl bk bn bx bz bb] w fun e w' => e = .returned (.bool (Vl.same ⟨ak, an, ax, az, ab⟩ ⟨bk, bn, bx, bz, bb⟩)) ∧ Below w.heap.size w w' := by
  by_cases hk : ak = bk
  · subst hk
    by_cases hn : an = bn
    · subst hn
      cases hx : Fl.same ax bx
      · go_enter Try.func67, Try.ntmps67
        go_wp2_with (go_at_call 79; refine (same_any _ _ _).mono ?_; rintro e w' ⟨rfl, rfl⟩)
        go_ret
        exact ⟨by simp [Vl.same, *], two_new _ _ _⟩
      · cases hs : (az.toList == bz.toList)
        · go_enter Try.func67, Try.ntmps67
          go_wp2_with (go_at_call 79; refine (same_any _ _ _).mono ?_; rintro e w' ⟨rfl, rfl⟩)
          go_ret
          exact ⟨by simp [Vl.same, *], two_new _ _ _⟩
        · go_enter Try.func67, Try.ntmps67
          go_wp2_with (go_at_call 79; refine (same_any _ _ _).mono ?_; rintro e w' ⟨rfl, rfl⟩)
          go_ret
          exact ⟨by simp [Vl.same, *], two_new _ _ _⟩
    · go_enter Try.func67, Try.ntmps67
      go_wp2_with (go_at_call 79; refine (same_any _ _ _).mono ?_; rintro e w' ⟨rfl, rfl⟩)
      go_ret
      exact ⟨by simp [Vl.same, *], two_new _ _ _⟩
  · go_enter Try.func67, Try.ntmps67
    go_wp2_with (go_at_call 79; refine (same_any _ _ _).mono ?_; rintro e w' ⟨rfl, rfl⟩)
    go_ret
    exact ⟨by simp [Vl.same, *], two_new _ _ _⟩

set_option maxHeartbeats 2000000 in
theorem vright_any (ak an : Int) (ax : Nat) (az : ByteArray) (ab : Bool) (w : World) :
    Calls Try.prog 66 #[vl ak an ax az ab] w fun e w' => e = .returned (.bool (Vl.right ⟨ak, an, ax, az, ab⟩)) ∧ Below w.heap.size w w' := by
  have hst := store_float
  have hsz := fun h => Vl.size_nil (s := az) h
  have HS := Lib.hid hsz
  clear hsz
  have hK : ak = 1 ∨ ak = 2 ∨ ak = 3 ∨ ak = 4 ∨ (¬ ak = 1 ∧ ¬ ak = 2 ∧ ¬ ak = 3 ∧ ¬ ak = 4) := by omega
  rcases hK with rfl | rfl | rfl | rfl | ⟨g1, g2, g3, g4⟩
  all_goals
    go_enter Try.func66, Try.ntmps66
    go_wp2_with fail
    all_goals
      go_ret
      have hs := HS.out
      clear hst
      refine ⟨?_, by first | exact two_new _ _ _ | exact one_new _ _⟩
      simp_all [Vl.right, Vl.zx, Vl.zs] <;> omega
end Go.Proofs.Ytgenmebmdpnjhaa
