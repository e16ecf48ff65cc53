
/- Package value: Is, Same, Right. -/
import Derived.Test.YtfbfbajccphkoaaGreatVal
namespace Go.Proofs.YtfbfbajccphkoaaGreat
open Go.RowKit

theorem below_sub {B C : Nat} {w w' : World} (h : Below B w w') (hc : C ≤ B) : Below C w w' := ⟨h.os, h.tape, h.output, h.size, fun k hk => h.block k (Nat.lt_of_lt_of_le hk hc)⟩
/-- One step behind another. -/
theorem below_then {a b c : World} (h : Below a.heap.size a b) (k : Below b.heap.size b c) : Below a.heap.size a c := h.trans (below_sub k h.size)

theorem one_new (w : World) (A : Obj) : Below w.heap.size w (w.alloc A) := (Below.refl _ _).alloc (Nat.le_refl _) _

theorem vis_any (ak an : Int) (ax : Nat) (az : ByteArray) (ab : Bool) (bk bn : Int) (bx : Nat) (bz : ByteArray) (bb : Bool) (h1 : -9223372036854775808 ≤ an) (h2 : an ≤ 9223372036854775807) (h3 : -9223372036854775808 ≤ bn) (h4 : bn ≤ 9223372036854775807) (w : World) :
    Calls Tryz.prog 104 #[vl ak an ax az ab, vl bk bn bx bz bb] w fun e w' => e = .returned (.bool (Vl.is ⟨ak, an, ax, az, ab⟩ ⟨bk, bn, bx, bz, bb⟩)) ∧ Below w.heap.size w w' := by
  have hv := fun w => vcmp_any ak an ax az ab bk bn bx bz bb h1 h2 h3 h4 w
  unfold Vl.is
  generalize Vl.cmp ⟨ak, an, ax, az, ab⟩ ⟨bk, bn, bx, bz, bb⟩ = c at hv ⊢
  generalize Vl.ok ⟨ak, an, ax, az, ab⟩ ⟨bk, bn, bx, bz, bb⟩ = k at hv ⊢
  have HV := Lib.hid hv
  clear hv
  go_enter Tryz.func104, Tryz.ntmps104
  go_wp2_with fail
  refine (HV.out _).mono ?_
  rintro e w' ⟨rfl, hb⟩
  have HB := Lib.hid (below_then (two_new _ _ _) hb)
  clear hb HV
  cases k
  · go_wp2_with fail
    go_ret
    exact ⟨rfl, HB.out⟩
  · go_wp2_with fail
    go_ret
    exact ⟨rfl, HB.out⟩

set_option maxHeartbeats 2000000 in
theorem vsame_any (ak an : Int) (ax : Nat) (az : ByteArray) (ab : Bool) (bk bn : Int) (bx : Nat) (bz : ByteArray) (bb : Bool) (w : World) :
    Calls Tryz.prog 77 #[vl ak an ax az ab, vl bk bn bx bz bb] w fun e w' => e = .returned (.bool (Vl.same ⟨ak, an, ax, az, ab⟩ ⟨bk, bn, bx, bz, bb⟩)) ∧ Below w.heap.size w w' := by
  by_cases hk : ak = bk
  · subst hk
    by_cases hn : an = bn
    · subst hn
      cases hx : Fl.same ax bx
      · go_enter Tryz.func77, Tryz.ntmps77
        go_wp2_with (go_at_call 97; refine (same_any _ _ _).mono ?_; rintro e w' ⟨rfl, rfl⟩)
        go_ret
        exact ⟨by simp [Vl.same, *], two_new _ _ _⟩
      · cases hs : (az.toList == bz.toList)
        · go_enter Tryz.func77, Tryz.ntmps77
          go_wp2_with (go_at_call 97; refine (same_any _ _ _).mono ?_; rintro e w' ⟨rfl, rfl⟩)
          go_ret
          exact ⟨by simp [Vl.same, *], two_new _ _ _⟩
        · go_enter Tryz.func77, Tryz.ntmps77
          go_wp2_with (go_at_call 97; refine (same_any _ _ _).mono ?_; rintro e w' ⟨rfl, rfl⟩)
          go_ret
          exact ⟨by simp [Vl.same, *], two_new _ _ _⟩
    · go_enter Tryz.func77, Tryz.ntmps77
      go_wp2_with (go_at_call 97; refine (same_any _ _ _).mono ?_; rintro e w' ⟨rfl, rfl⟩)
      go_ret
      exact ⟨by simp [Vl.same, *], two_new _ _ _⟩
  · go_enter Tryz.func77, Tryz.ntmps77
    go_wp2_with (go_at_call 97; refine (same_any _ _ _).mono ?_; rintro e w' ⟨rfl, rfl⟩)
    go_ret
    exact ⟨by simp [Vl.same, *], two_new _ _ _⟩

set_option maxHeartbeats 2000000 in
theorem vright_any (ak an : Int) (ax : Nat) (az : ByteArray) (ab : Bool) (w : World) :
    Calls Tryz.prog 51 #[vl ak an ax az ab] w fun e w' => e = .returned (.bool (Vl.right ⟨ak, an, ax, az, ab⟩)) ∧ Below w.heap.size w w' := by
  have hst := store_float
  have hsz := fun h => Vl.size_nil (s := az) h
  have HS := Lib.hid hsz
  clear hsz
  have hK : ak = 1 ∨ ak = 2 ∨ ak = 3 ∨ ak = 4 ∨ (¬ ak = 1 ∧ ¬ ak = 2 ∧ ¬ ak = 3 ∧ ¬ ak = 4) := by omega
  rcases hK with rfl | rfl | rfl | rfl | ⟨g1, g2, g3, g4⟩
  all_goals
    go_enter Tryz.func51, Tryz.ntmps51
    go_wp2_with fail
    all_goals
      go_ret
      have hs := HS.out
      clear hst
      refine ⟨?_, by first | exact two_new _ _ _ | exact one_new _ _⟩
      simp_all [Vl.right, Vl.zx, Vl.zs] <;> omega
end Go.Proofs.YtfbfbajccphkoaaGreat
