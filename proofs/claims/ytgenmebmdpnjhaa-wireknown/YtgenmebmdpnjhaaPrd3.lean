
/- Tests: the contracts of package pred's takes, void, sameTest and of what calls them. -/
import Derived.Test.YtgenmebmdpnjhaaPrd2
namespace Go.Proofs.Ytgenmebmdpnjhaa
open Go.RowKit
set_option linter.unusedVariables false

set_option maxHeartbeats 8000000 in
theorem samet_any {p q : Prd} {A B : Option Addr} {n c m d : Nat} {w : World} (h : IsPrd w p A n) (h' : IsPrd w q B m) : Calls Try.prog 80 #[pv p A n c, pv q B m d] w fun e w' => e = .returned (.bool (Pd.sameT p q)) ∧ Below w.heap.size w w' := by
  obtain ⟨W, hW1, hW, hB, hV⟩ := world_pp w p A n c q B m d
  have HL := Lib.hid (h.set.later hW)
  have HL' := Lib.hid (h'.set.later hW)
  have HW := Lib.hid hW
  have HW1 := Lib.hid hW1
  clear h h' hW hW1
  obtain ⟨c0, c1, c2, c3, c4, c5, c6, c7, c8, c9, c10, c11, c12⟩ := hB
  obtain ⟨d0, d1, d2, d3, d4, d5, d6, d7, d8, d9, d10, d11, d12⟩ := hV
  obtain ⟨pn, pt, pa, pw, pl⟩ := p
  obtain ⟨qn, qt, qa, qw, ql⟩ := q
  dsimp only at c0 c1 c2 c3 c4 c5 c6 c7 c8 c9 c10 c11 c12 d0 d1 d2 d3 d4 d5 d6 d7 d8 d9 d10 d11 d12 HL HL'
  haveI := later_some W
  unfold Pd.sameT
  dsimp only
  by_cases ht : pt = qt
  · subst ht
    go_enter Try.func80, Try.ntmps80
    go_wp2_with fail
    refine (calls_later (x := ⟨_, HW1.out⟩) (vsame_v pa qa _)).mono ?_
    rintro e _ ⟨rfl, y, rfl⟩
    clear HW1
    cases h1 : Vl.same pa qa <;> cases h2 : Vl.same pw qw
    all_goals
      go_wp2_with (first | (go_at_call 67; refine (calls_later (vsame_v pw qw _)).mono ?_; rintro e _ ⟨rfl, y, rfl⟩) | (go_at_call 93; refine (equal_l HL.out HL'.out).mono ?_; rintro e _ ⟨rfl, y, rfl⟩) | fail)
      go_ret
      exact ⟨ret_bool (by simp [h1, h2]), below_then HW.out (Later.below _)⟩
  · go_enter Try.func80, Try.ntmps80
    go_wp2_with fail
    go_ret
    exact ⟨ret_bool (by simp [ht]), below_then HW.out HW1.out⟩
theorem samet_l {p q : Prd} {A B : Option Addr} {n c m d : Nat} {W : World} {x : Later W} (h : IsPrd W p A n) (h' : IsPrd W q B m) : Calls Try.prog 80 #[pv p A n c, pv q B m d] x.at_ fun e w' => e = .returned (.bool (Pd.sameT p q)) ∧ ∃ y : Later W, w' = y.at_ := calls_later (samet_any (h.later x.below) (h'.later x.below))
set_option maxHeartbeats 8000000 in
theorem psame_any {p q : Prd} {A B : Option Addr} {n c m d : Nat} {w : World} (h : IsPrd w p A n) (h' : IsPrd w q B m) : Calls Try.prog 69 #[pv p A n c, pv q B m d] w fun e w' => e = .returned (.bool (Pd.same p q)) ∧ Below w.heap.size w w' := by
  obtain ⟨W, hW1, hW, hB, hV⟩ := world_pp w p A n c q B m d
  have HP := Lib.hid (h.later hW)
  have HQ := Lib.hid (h'.later hW)
  have HW := Lib.hid hW
  have HW1 := Lib.hid hW1
  clear h h' hW hW1 hB hV
  unfold Pd.same
  cases hn : (p.name.toList == q.name.toList)
  all_goals
    go_enter Try.func69, Try.ntmps69
    go_wp2_with (first | (go_at_call 80; refine (samet_l (x := ⟨_, HW1.out⟩) HP.out HQ.out).mono ?_; rintro e _ ⟨rfl, y, rfl⟩) | fail)
    go_ret
    first | exact ⟨ret_bool (by simp), below_then HW.out (Later.below _)⟩ | exact ⟨ret_bool (by simp), below_then HW.out HW1.out⟩
end Go.Proofs.Ytgenmebmdpnjhaa
