
/- The document's answers on values: the same words. -/
import Derived.Test.YtfbfbajccphkoaaGreatVal2
import Derived.Test.YtfbfbajccphkoaaGreatRef1
import Derived.Test.YtfbfbajccphkoaaGreatBase
namespace Go.Proofs.YtfbfbajccphkoaaGreat
open Go.RowKit

set_option maxHeartbeats 2000000 in
theorem rvcmp_any (ak an : Int) (ax : Nat) (az : ByteArray) (ab : Bool) (bk bn : Int) (bx : Nat) (bz : ByteArray) (bb : Bool) (h1 : -9223372036854775808 ≤ an) (h2 : an ≤ 9223372036854775807) (h3 : -9223372036854775808 ≤ bn) (h4 : bn ≤ 9223372036854775807) (w : World) :
    Calls Tryz.prog 57 #[vl ak an ax az ab, vl bk bn bx bz bb] w fun e w' => e = .returned (pairIB (Vl.cmp ⟨ak, an, ax, az, ab⟩ ⟨bk, bn, bx, bz, bb⟩) (Vl.ok ⟨ak, an, ax, az, ab⟩ ⟨bk, bn, bx, bz, bb⟩)) ∧ Below w.heap.size w w' := by
  have hW := Vl.ways ak bk
  rcases hW with ⟨rfl, rfl⟩ | ⟨rfl, rfl⟩ | ⟨rfl, rfl⟩ | ⟨rfl, rfl⟩ | ⟨rfl, rfl⟩ | ⟨rfl, rfl⟩ | ⟨rfl, g1, g2⟩ | ⟨rfl, g1, g2⟩ | ⟨rfl, g1⟩ | ⟨rfl, g1⟩ | ⟨g1, g2, g3, g4⟩
  case xi =>
    have hr := Vl.cmpInt_range bn ax
    go_enter Tryz.func57, Tryz.ntmps57
    go_wp2_with (go_at_call 82; refine (rcmpint_any _ _ h3 h4 _).mono ?_; rintro e w' ⟨rfl, rfl⟩)
    go_ret2
    exact ⟨pairIB_eq (by simp [Vl.cmp]) (by simp [Vl.ok]), two_new _ _ _⟩
  case ii =>
    rcases Int.lt_trichotomy an bn with h | h | h
    · have e := Fl.sgn_lt h
      go_enter Tryz.func57, Tryz.ntmps57
      go_wp2_with fail
      go_ret2
      exact ⟨pairIB_eq (by simp [Vl.cmp, e]) (by simp [Vl.ok]), two_new _ _ _⟩
    · have e := Fl.sgn_eq h
      subst h
      go_enter Tryz.func57, Tryz.ntmps57
      go_wp2_with fail
      go_ret2
      exact ⟨pairIB_eq (by simp [Vl.cmp, e]) (by simp [Vl.ok]), two_new _ _ _⟩
    · have e := Fl.sgn_gt h
      go_enter Tryz.func57, Tryz.ntmps57
      go_wp2_with fail
      go_ret2
      exact ⟨pairIB_eq (by simp [Vl.cmp, e]) (by simp [Vl.ok]), two_new _ _ _⟩
  case ss =>
    cases h : Op.bytesLess az.toList bz.toList
    · cases g : (az.toList == bz.toList)
      · go_enter Tryz.func57, Tryz.ntmps57
        go_wp2_with fail
        go_ret2
        exact ⟨pairIB_eq (by simp [Vl.cmp, Vl.txt, h, g]) (by simp [Vl.ok]), two_new _ _ _⟩
      · go_enter Tryz.func57, Tryz.ntmps57
        go_wp2_with fail
        go_ret2
        exact ⟨pairIB_eq (by simp [Vl.cmp, Vl.txt, h, g]) (by simp [Vl.ok]), two_new _ _ _⟩
    · go_enter Tryz.func57, Tryz.ntmps57
      go_wp2_with fail
      go_ret2
      exact ⟨pairIB_eq (by simp [Vl.cmp, Vl.txt, h]) (by simp [Vl.ok]), two_new _ _ _⟩
  case bb =>
    cases ab <;> cases bb
    all_goals
      go_enter Tryz.func57, Tryz.ntmps57
      go_wp2_with fail
      go_ret2
      exact ⟨pairIB_eq (by simp [Vl.cmp, Vl.bl]) (by simp [Vl.ok]), two_new _ _ _⟩
  all_goals
    go_enter Tryz.func57, Tryz.ntmps57
    go_wp2_with (first | (go_at_call 82; refine (rcmpint_any _ _ h1 h2 _).mono ?_; rintro e w' ⟨rfl, rfl⟩) | (go_at_call 83; refine (rcmp_any _ _ _).mono ?_; rintro e w' ⟨rfl, rfl⟩))
    go_ret2
    exact ⟨pairIB_eq (by simp [Vl.cmp, *]) (by simp [Vl.ok, *]), two_new _ _ _⟩

theorem rvis_any (ak an : Int) (ax : Nat) (az : ByteArray) (ab : Bool) (bk bn : Int) (bx : Nat) (bz : ByteArray) (bb : Bool) (h1 : -9223372036854775808 ≤ an) (h2 : an ≤ 9223372036854775807) (h3 : -9223372036854775808 ≤ bn) (h4 : bn ≤ 9223372036854775807) (w : World) :
    Calls Tryz.prog 59 #[vl ak an ax az ab, vl bk bn bx bz bb] w fun e w' => e = .returned (.bool (Vl.is ⟨ak, an, ax, az, ab⟩ ⟨bk, bn, bx, bz, bb⟩)) ∧ Below w.heap.size w w' := by
  have hv := fun w => rvcmp_any ak an ax az ab bk bn bx bz bb h1 h2 h3 h4 w
  unfold Vl.is
  generalize Vl.cmp ⟨ak, an, ax, az, ab⟩ ⟨bk, bn, bx, bz, bb⟩ = c at hv ⊢
  generalize Vl.ok ⟨ak, an, ax, az, ab⟩ ⟨bk, bn, bx, bz, bb⟩ = k at hv ⊢
  have HV := Lib.hid hv
  clear hv
  go_enter Tryz.func59, Tryz.ntmps59
  go_wp2_with fail
  refine (HV.out _).mono ?_
  rintro e w' ⟨rfl, hb⟩
  have HB := Lib.hid (below_then (two_new _ _ _) hb)
  clear hb HV
  cases k
  · go_wp2_with fail
    go_ret
    exact ⟨rfl, HB.out⟩
  · go_wp2_with fail
    go_ret
    exact ⟨rfl, HB.out⟩

theorem below_drewN {B : Nat} {a w : World} (h : Below B a w) (n : Nat) : Below B a (w.drewN n) := ⟨h.os, h.tape, h.output, h.size, h.block⟩

set_option maxHeartbeats 2000000 in
theorem rvsame_any (ak an : Int) (ax : Nat) (az : ByteArray) (ab : Bool) (bk bn : Int) (bx : Nat) (bz : ByteArray) (bb : Bool) (w : World) :
    Calls Tryz.prog 61 #[vl ak an ax az ab, vl bk bn bx bz bb] w fun e w' => e = .returned (.bool (Vl.same ⟨ak, an, ax, az, ab⟩ ⟨bk, bn, bx, bz, bb⟩)) ∧ Below w.heap.size w w' := by
  have hsc := Fl.same_cast ax bx
  by_cases hk : ak = bk
  · subst hk
    by_cases hn : an = bn
    · subst hn
      cases hx : Fl.same ax bx
      · rw [hx] at hsc
        go_enter Tryz.func61, Tryz.ntmps61
        go_wp2_with fail
        go_quiet (first | (go_at_call 85; exact Calls.quiet_of_same ((rbits_any _ _).mono fun e w' h => ⟨h.1, h.2.symm⟩)))
        go_wp2_with fail
        go_ret
        exact ⟨by simp [Vl.same, *], below_drewN (two_new _ _ _) _⟩
      · rw [hx] at hsc
        cases hs : (az.toList == bz.toList)
        · go_enter Tryz.func61, Tryz.ntmps61
          go_wp2_with fail
          go_quiet (first | (go_at_call 85; exact Calls.quiet_of_same ((rbits_any _ _).mono fun e w' h => ⟨h.1, h.2.symm⟩)))
          go_wp2_with fail
          go_ret
          exact ⟨by simp [Vl.same, *], below_drewN (two_new _ _ _) _⟩
        · go_enter Tryz.func61, Tryz.ntmps61
          go_wp2_with fail
          go_quiet (first | (go_at_call 85; exact Calls.quiet_of_same ((rbits_any _ _).mono fun e w' h => ⟨h.1, h.2.symm⟩)))
          go_wp2_with fail
          go_ret
          exact ⟨by simp [Vl.same, *], below_drewN (two_new _ _ _) _⟩
    · clear hsc
      go_enter Tryz.func61, Tryz.ntmps61
      go_wp2_with fail
      go_quiet (first | (go_at_call 85; exact Calls.quiet_of_same ((rbits_any _ _).mono fun e w' h => ⟨h.1, h.2.symm⟩)))
      go_wp2_with fail
      go_ret
      exact ⟨by simp [Vl.same, *], below_drewN (two_new _ _ _) _⟩
  · clear hsc
    go_enter Tryz.func61, Tryz.ntmps61
    go_wp2_with fail
    go_quiet (first | (go_at_call 85; exact Calls.quiet_of_same ((rbits_any _ _).mono fun e w' h => ⟨h.1, h.2.symm⟩)))
    go_wp2_with fail
    go_ret
    exact ⟨by simp [Vl.same, *], below_drewN (two_new _ _ _) _⟩

set_option maxHeartbeats 2000000 in
theorem rvright_any (ak an : Int) (ax : Nat) (az : ByteArray) (ab : Bool) (w : World) :
    Calls Tryz.prog 55 #[vl ak an ax az ab] w fun e w' => e = .returned (.bool (Vl.right ⟨ak, an, ax, az, ab⟩)) ∧ Below w.heap.size w w' := by
  have hK : ak = 1 ∨ ak = 2 ∨ ak = 3 ∨ ak = 4 ∨ (¬ ak = 1 ∧ ¬ ak = 2 ∧ ¬ ak = 3 ∧ ¬ ak = 4) := by omega
  rcases hK with rfl | rfl | rfl | rfl | ⟨g1, g2, g3, g4⟩
  all_goals
    go_enter Tryz.func55, Tryz.ntmps55
    go_wp2_with fail
    go_quiet (fail)
    go_wp2_with fail
    all_goals
      go_ret
      refine ⟨?_, below_drewN (one_new _ _) _⟩
      simp_all [Vl.right, Vl.zx, Vl.zs]
      all_goals first | omega | (generalize az.toList = l; cases l <;> rfl)

end Go.Proofs.YtfbfbajccphkoaaGreat
