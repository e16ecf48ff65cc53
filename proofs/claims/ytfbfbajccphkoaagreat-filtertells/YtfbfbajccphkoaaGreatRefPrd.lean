
/- The document's answers on tests: RightPred, SamePred, TakesValue, Void, Implies. -/
import Derived.Test.YtfbfbajccphkoaaGreatPrd5
namespace Go.Proofs.YtfbfbajccphkoaaGreat
open Go.RowKit
set_option linter.unusedVariables false

theorem rset_of {nm : ByteArray} {v u : Val} {l : List Val} (hw : At.word nm = true) (h1 : Pd.zero v = true) (h2 : Pd.zero u = true) (h3 : (1 : Int) ≤ (l.length : Int)) (h : l.all Vl.right = true) : decide ((l.length : Int) ≤ 4) = Pd.right ⟨nm, 10, v, u, l⟩ := by
  have h3' : 1 ≤ l.length := by omega
  simp only [Pd.right, hw, h1, h2, Pd.rset, h]
  by_cases h4 : l.length ≤ 4
  · rw [decide_eq_true (by omega : (l.length : Int) ≤ 4)]; simp [h3', h4]
  · rw [decide_eq_false (by omega : ¬ (l.length : Int) ≤ 4)]; simp [h4]
theorem rset_no {nm : ByteArray} {v u : Val} {l : List Val} (h3 : ¬ (1 : Int) ≤ (l.length : Int)) : false = Pd.right ⟨nm, 10, v, u, l⟩ := by
  have h3' : ¬ 1 ≤ l.length := by omega
  simp only [Pd.right, Pd.rset, decide_eq_false h3']; simp
set_option maxHeartbeats 8000000 in
theorem rpright_any {p : Prd} {A : Option Addr} {n c : Nat} {w : World} (h : IsPrd w p A n) : Calls Tryz.prog 29 #[pv p A n c] w fun e w' => e = .returned (.bool (Pd.right p)) ∧ Below w.heap.size w w' := by
  obtain ⟨W, hW1, hW, hB⟩ := world_p w p A n c
  obtain ⟨nm, t, v, u, l⟩ := p
  obtain ⟨hnm, hv, hu, hl⟩ := h
  obtain rfl : l.length = n := hl.len
  have hfew := hl.few
  have HL := Lib.hid hl
  have HW := Lib.hid hW
  have HLW := Lib.hid (hl.later hW)
  have HW1 := Lib.hid hW1
  clear hl hv hu hW hW1
  obtain ⟨c0, c1, c2, c3, c4, c5, c6, c7, c8, c9, c10, c11, c12⟩ := hB
  dsimp only at c0 c1 c2 c3 c4 c5 c6 c7 c8 c9 c10 c11 c12 hnm HL HLW
  have hz0 : ((l.length : Int) == 0) = decide (l = []) := zero_len l
  have HZ := Lib.hid hz0
  clear hz0
  haveI := later_some W
  go_enter Tryz.func29, Tryz.ntmps29
  go_wp2_with fail
  refine (calls_later_same (x := ⟨_, HW1.out⟩) (rword_any nm hnm _)).mono ?_
  rintro e _ ⟨rfl, y, rfl⟩
  clear HW1
  cases hw : At.word nm
  · go_wp2_with fail
    go_ret
    exact ⟨ret_bool (by simp [Pd.right, hw]), below_then HW.out y.below⟩
  have ht := Pd.tests t
  rcases ht with rfl | rfl | rfl | rfl | rfl | rfl | rfl | rfl | rfl | rfl | ⟨g1, g2, g3, g4, g5, g6, g7, g8, g9, g10⟩
  · cases h1 : Pd.zero v <;> cases h2 : Pd.zero u
    all_goals
      go_wp2_with (first | (go_at_call 54; refine (calls_later (rzero_any _ _)).mono ?_; rintro e _ ⟨rfl, y, rfl⟩) | (go_at_call 55; refine (calls_later (rvright_v _ _)).mono ?_; rintro e _ ⟨rfl, y, rfl⟩) | fail)
      go_ret
      exact ⟨ret_bool (by simp [Pd.right, hw, h1, h2, HZ.out]), below_then HW.out (Later.below _)⟩
  case' inr.inr.inr.inr.inr.inr.inr.inr.inr.inr =>
    go_wp2_with fail
    go_ret
    exact ⟨ret_bool (by simp [Pd.right, hw, g1, g8, g9, g10]; omega), below_then HW.out (Later.below _)⟩
  case' inr.inr.inr.inr.inr.inr.inr.inr.inr.inl =>
    go_wp2_with fail
    go_loopw [3] (fun ii wr => ∃ (k : Nat) (x : Later W), k ≤ l.length ∧ ii = .int .i64 (k : Int) ∧ l.all Vl.right = (l.drop k).all Vl.right ∧ wr = x.at_) (fun ii _ => l.length - (intOf ii).toNat)
    case atStart => exact ⟨0, y, by omega, rfl, rfl, rfl⟩
    case round =>
      obtain ⟨k, x, hk, rfl, hl, rfl⟩ := hrel
      have HK := Lib.hid hl
      clear hl
      by_cases hlt : k < l.length
      · obtain ⟨g, o, rfl, hg⟩ := HLW.out.at (by omega)
        obtain ⟨a, ha⟩ : ∃ a, l[k]? = some a := ⟨_, List.getElem?_eq_getElem hlt⟩
        have HG := Lib.hid ha
        have hs := (hg k a ha).later x.below
        obtain ⟨d0, d1, d2, d3, d4⟩ := hs
        clear hg ha
        go_wp2_with fail
        refine (calls_later (rvright_v a _)).mono ?_
        rintro e _ ⟨rfl, y', rfl⟩
        clear d0 d1 d2 d3 d4
        cases hr : Vl.right a
        · have HM := Lib.hid (Pd.all_bad HG.out hr)
          go_wp2_with fail
          go_ret
          exact ⟨ret_bool (by simp [Pd.right, Pd.rset, HM.out]), below_then HW.out (Later.below _)⟩
        · have HM := Lib.hid (Pd.all_good HG.out HK.out hr)
          go_wp2_with fail
          exact ⟨⟨k + 1, y', by omega, rfl, HM.out, rfl⟩, by simp [intOf]; omega⟩
      · have HM := Lib.hid (Pd.all_end hlt HK.out)
        cases h1 : Pd.zero v <;> cases h2 : Pd.zero u <;> by_cases h3 : (1 : Int) ≤ (l.length : Int)
        all_goals
          go_wp2_with (first | (go_at_call 54; refine (calls_later (rzero_any _ _)).mono ?_; rintro e _ ⟨rfl, y, rfl⟩) | fail)
          go_ret
          first | exact ⟨ret_bool (rset_of hw h1 h2 (by omega) HM.out), below_then HW.out (Later.below _)⟩ | exact ⟨ret_bool (rset_no (by omega)), below_then HW.out (Later.below _)⟩ | exact ⟨ret_bool (by simp [Pd.right, hw, h1, h2]), below_then HW.out (Later.below _)⟩
  case' inr.inr.inr.inr.inr.inr.inr.inr.inl =>
    go_wp2_with fail
    refine (calls_later (rvright_v v _)).mono ?_
    rintro e _ ⟨rfl, y, rfl⟩
    cases h1 : Vl.right v <;> cases h2 : Pd.zero u <;> by_cases h3 : v.k = 3
    all_goals
      go_wp2_with (first | (go_at_call 54; refine (calls_later (rzero_any u _)).mono ?_; rintro e _ ⟨rfl, y, rfl⟩) | fail)
      go_ret
      exact ⟨ret_bool (by simp [Pd.right, hw, h1, h2, h3, HZ.out]), below_then HW.out (Later.below _)⟩
  case' inr.inr.inr.inr.inr.inr.inr.inl =>
    cases h1 : Vl.right v <;> cases h2 : Vl.right u
    all_goals
      go_wp2_with (first | (go_at_call 54; refine (calls_later (rzero_any _ _)).mono ?_; rintro e _ ⟨rfl, y, rfl⟩) | (go_at_call 55; refine (calls_later (rvright_v _ _)).mono ?_; rintro e _ ⟨rfl, y, rfl⟩) | fail)
      go_ret
      exact ⟨ret_bool (by simp [Pd.right, hw, h1, h2, HZ.out]), below_then HW.out (Later.below _)⟩
  all_goals
    cases h1 : Vl.right v <;> cases h2 : Pd.zero u
    all_goals
      go_wp2_with (first | (go_at_call 54; refine (calls_later (rzero_any _ _)).mono ?_; rintro e _ ⟨rfl, y, rfl⟩) | (go_at_call 55; refine (calls_later (rvright_v _ _)).mono ?_; rintro e _ ⟨rfl, y, rfl⟩) | fail)
      go_ret
      exact ⟨ret_bool (by simp [Pd.right, hw, h1, h2, HZ.out]), below_then HW.out (Later.below _)⟩
theorem rpright_l {p : Prd} {A : Option Addr} {n c : Nat} {W : World} {x : Later W} (h : IsPrd W p A n) : Calls Tryz.prog 29 #[pv p A n c] x.at_ fun e w' => e = .returned (.bool (Pd.right p)) ∧ ∃ y : Later W, w' = y.at_ := calls_later (rpright_any (h.later x.below))
end Go.Proofs.YtfbfbajccphkoaaGreat
