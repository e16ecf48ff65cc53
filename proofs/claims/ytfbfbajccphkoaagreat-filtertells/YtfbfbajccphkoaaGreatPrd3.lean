
/- Tests: the contracts of package pred's takes, void, sameTest and of what calls them. -/
import Derived.Test.YtfbfbajccphkoaaGreatPrd2
namespace Go.Proofs.YtfbfbajccphkoaaGreat
open Go.RowKit
set_option linter.unusedVariables false

set_option maxHeartbeats 8000000 in
theorem takes_any {p : Prd} {A : Option Addr} {n c : Nat} {v : Val} {w : World} (h : IsPrd w p A n) (hv : Fit v) : Calls Tryz.prog 56 #[pv p A n c, vlv v] w fun e w' => e = .returned (.bool (Pd.takes p v)) ∧ Below w.heap.size w w' := by
  obtain ⟨W, hW1, hW, hB, hV⟩ := world_pv w p A n c v
  obtain ⟨nm, t, a, u, l⟩ := p
  obtain ⟨hnm, ha, hu, hl⟩ := h
  obtain rfl : l.length = n := hl.len
  have HA := Lib.hid ha
  have HU := Lib.hid hu
  have HV := Lib.hid hv
  have hvs := hv.txt
  have has := ha.txt
  have HW := Lib.hid hW
  have HLW := Lib.hid (hl.later hW)
  have HW1 := Lib.hid hW1
  clear hl hv hu hW hW1 ha hnm
  obtain ⟨c0, c1, c2, c3, c4, c5, c6, c7, c8, c9, c10, c11, c12⟩ := hB
  obtain ⟨d0, d1, d2, d3, d4⟩ := hV
  dsimp only at c0 c1 c2 c3 c4 c5 c6 c7 c8 c9 c10 c11 c12 HLW HA HU HV hvs has
  haveI := later_some W
  go_enter Tryz.func56, Tryz.ntmps56
  go_wp2_with fail
  refine (calls_later (x := ⟨_, HW1.out⟩) (vcmp_v HV.out HA.out _)).mono ?_
  rintro e _ ⟨rfl, y, rfl⟩
  clear HW1
  have ht := Pd.tests t
  generalize hc : Vl.cmp v a = cc
  generalize hk : Vl.ok v a = kk
  rcases ht with rfl | rfl | rfl | rfl | rfl | rfl | rfl | rfl | rfl | rfl | ⟨g1, g2, g3, g4, g5, g6, g7, g8, g9, g10⟩
  case' inr.inr.inr.inr.inr.inr.inr.inr.inr.inr =>
    clear hc hk
    go_wp2_with fail
    go_ret
    exact ⟨ret_bool (by simp [Pd.takes, g1, g2, g3, g4, g5, g6, g7, g8, g9, g10]), below_then HW.out (Later.below _)⟩
  case' inr.inr.inr.inr.inr.inr.inr.inr.inr.inl =>
    clear hc hk
    go_wp2_with (first | (go_at_call 81; refine (isoneof_l HV.out HLW.out).mono ?_; rintro e _ ⟨rfl, y, rfl⟩) | fail)
    go_ret
    exact ⟨ret_bool (by simp [Pd.takes]), below_then HW.out (Later.below _)⟩
  case' inr.inr.inr.inr.inr.inr.inr.inr.inl =>
    clear hc hk
    by_cases h3 : v.k = 3
    all_goals
      go_wp2_with (first | (go_at_call 80; refine (calls_later_same (has_any _ _ hvs has _)).mono ?_; rintro e _ ⟨rfl, y, rfl⟩) | fail)
      go_ret
      exact ⟨ret_bool (by simp [Pd.takes, h3]), below_then HW.out (Later.below _)⟩
  case' inr.inr.inr.inr.inr.inr.inr.inl =>
    have HC := Lib.hid hc
    have HK := Lib.hid hk
    clear hc hk
    cases kk
    · go_wp2_with fail
      go_ret
      exact ⟨ret_bool (by simp [Pd.takes, HC.out, HK.out]), below_then HW.out (Later.below _)⟩
    · by_cases h0 : 0 ≤ cc
      all_goals
        go_wp2_with (first | (go_at_call 79; refine (calls_later (atmost_any HV.out HU.out _)).mono ?_; rintro e _ ⟨rfl, y, rfl⟩) | fail)
        go_ret
        exact ⟨ret_bool (by first | (simp [Pd.takes, HC.out, HK.out, h0]; done) | (simp [Pd.takes, HC.out, HK.out]; intro; omega)), below_then HW.out (Later.below _)⟩
  all_goals
    have HC := Lib.hid hc
    have HK := Lib.hid hk
    clear hc hk
    cases kk
    all_goals
      go_wp2_with fail
      go_ret
      exact ⟨ret_bool (by first | (simp [Pd.takes, HC.out, HK.out]; done) | (simp [Pd.takes, HC.out, HK.out]; rfl)), below_then HW.out (Later.below _)⟩
theorem takes_l {p : Prd} {A : Option Addr} {n c : Nat} {v : Val} {W : World} {x : Later W} (h : IsPrd W p A n) (hv : Fit v) : Calls Tryz.prog 56 #[pv p A n c, vlv v] x.at_ fun e w' => e = .returned (.bool (Pd.takes p v)) ∧ ∃ y : Later W, w' = y.at_ := calls_later (takes_any (h.later x.below) hv)

set_option maxHeartbeats 8000000 in
theorem ptakes_any {p : Prd} {A : Option Addr} {n c : Nat} {v : Val} {w : World} (h : IsPrd w p A n) (hv : Fit v) : Calls Tryz.prog 31 #[pv p A n c, vlv v] w fun e w' => e = .returned (.bool (Pd.right p && Pd.takes p v)) ∧ Below w.heap.size w w' := by
  obtain ⟨W, hW1, hW, hB, hV⟩ := world_pv w p A n c v
  have HP := Lib.hid (h.later hW)
  have HV := Lib.hid hv
  have HW := Lib.hid hW
  have HW1 := Lib.hid hW1
  clear h hv hW hW1
  obtain ⟨c0, c1, c2, c3, c4, c5, c6, c7, c8, c9, c10, c11, c12⟩ := hB
  obtain ⟨d0, d1, d2, d3, d4⟩ := hV
  haveI := later_some W
  go_enter Tryz.func31, Tryz.ntmps31
  go_wp2_with fail
  refine (pright_l (x := ⟨_, HW1.out⟩) HP.out).mono ?_
  rintro e _ ⟨rfl, y, rfl⟩
  clear HW1
  cases hr : Pd.right p
  all_goals
    go_wp2_with (first | (go_at_call 56; refine (takes_l HP.out HV.out).mono ?_; rintro e _ ⟨rfl, y, rfl⟩) | fail)
    go_ret
    exact ⟨ret_bool (by simp [hr]), below_then HW.out (Later.below _)⟩

set_option maxHeartbeats 8000000 in
theorem void_any {p : Prd} {A : Option Addr} {n c : Nat} {w : World} (h : IsPrd w p A n) : Calls Tryz.prog 64 #[pv p A n c] w fun e w' => e = .returned (.bool (Pd.void p)) ∧ Below w.heap.size w w' := by
  obtain ⟨W, hW1, hW, hB⟩ := world_p w p A n c
  obtain ⟨nm, t, a, u, l⟩ := p
  obtain ⟨hnm, ha, hu, hl⟩ := h
  obtain rfl : l.length = n := hl.len
  have HA := Lib.hid ha
  have HU := Lib.hid hu
  have HW := Lib.hid hW
  have HLW := Lib.hid (hl.later hW)
  have HW1 := Lib.hid hW1
  clear hl hu hW hW1 ha hnm
  dsimp only at HLW HA HU
  have ht := Pd.tests t
  go_enter Tryz.func64, Tryz.ntmps64
  rcases ht with rfl | rfl | rfl | rfl | rfl | rfl | rfl | rfl | rfl | rfl | ⟨g1, g2, g3, g4, g5, g6, g7, g8, g9, g10⟩
  case' inr.inr.inr.inr.inr.inr.inr.inr.inr.inr =>
    go_wp2_with fail
    go_ret
    exact ⟨ret_bool (by simp [Pd.void, g2, g4, g5, g6, g7, g8, g10]), below_then HW.out HW1.out⟩
  all_goals
    go_wp2_with (first | (go_at_call 86; refine (calls_later (x := ⟨_, HW1.out⟩) (nanv_any a _)).mono ?_; rintro e _ ⟨rfl, y, rfl⟩) | (go_at_call 79; refine (calls_later (x := ⟨_, HW1.out⟩) (atmost_any HA.out HU.out _)).mono ?_; rintro e _ ⟨rfl, y, rfl⟩) | (go_at_call 87; refine (contnan_l (x := ⟨_, HW1.out⟩) HLW.out).mono ?_; rintro e _ ⟨rfl, y, rfl⟩) | fail)
    go_ret
    first | exact ⟨ret_bool (by simp [Pd.void]), below_then HW.out (Later.below _)⟩ | exact ⟨ret_bool (by simp [Pd.void]), below_then HW.out HW1.out⟩
theorem void_l {p : Prd} {A : Option Addr} {n c : Nat} {W : World} {x : Later W} (h : IsPrd W p A n) : Calls Tryz.prog 64 #[pv p A n c] x.at_ fun e w' => e = .returned (.bool (Pd.void p)) ∧ ∃ y : Later W, w' = y.at_ := calls_later (void_any (h.later x.below))
set_option maxHeartbeats 8000000 in
theorem pvoid_any {p : Prd} {A : Option Addr} {n c : Nat} {w : World} (h : IsPrd w p A n) : Calls Tryz.prog 38 #[pv p A n c] w fun e w' => e = .returned (.bool (Pd.right p && Pd.void p)) ∧ Below w.heap.size w w' := by
  obtain ⟨W, hW1, hW, hB⟩ := world_p w p A n c
  have HP := Lib.hid (h.later hW)
  have HW := Lib.hid hW
  have HW1 := Lib.hid hW1
  clear h hW hW1
  obtain ⟨c0, c1, c2, c3, c4, c5, c6, c7, c8, c9, c10, c11, c12⟩ := hB
  haveI := later_some W
  go_enter Tryz.func38, Tryz.ntmps38
  go_wp2_with fail
  refine (pright_l (x := ⟨_, HW1.out⟩) HP.out).mono ?_
  rintro e _ ⟨rfl, y, rfl⟩
  clear HW1
  cases hr : Pd.right p
  all_goals
    go_wp2_with (first | (go_at_call 64; refine (void_l HP.out).mono ?_; rintro e _ ⟨rfl, y, rfl⟩) | fail)
    go_ret
    exact ⟨ret_bool (by simp [hr]), below_then HW.out (Later.below _)⟩

set_option maxHeartbeats 8000000 in
theorem samet_any {p q : Prd} {A B : Option Addr} {n c m d : Nat} {w : World} (h : IsPrd w p A n) (h' : IsPrd w q B m) : Calls Tryz.prog 60 #[pv p A n c, pv q B m d] w fun e w' => e = .returned (.bool (Pd.sameT p q)) ∧ Below w.heap.size w w' := by
  obtain ⟨W, hW1, hW, hB, hV⟩ := world_pp w p A n c q B m d
  have HL := Lib.hid (h.set.later hW)
  have HL' := Lib.hid (h'.set.later hW)
  have HW := Lib.hid hW
  have HW1 := Lib.hid hW1
  clear h h' hW hW1
  obtain ⟨c0, c1, c2, c3, c4, c5, c6, c7, c8, c9, c10, c11, c12⟩ := hB
  obtain ⟨d0, d1, d2, d3, d4, d5, d6, d7, d8, d9, d10, d11, d12⟩ := hV
  obtain ⟨pn, pt, pa, pw, pl⟩ := p
  obtain ⟨qn, qt, qa, qw, ql⟩ := q
  dsimp only at c0 c1 c2 c3 c4 c5 c6 c7 c8 c9 c10 c11 c12 d0 d1 d2 d3 d4 d5 d6 d7 d8 d9 d10 d11 d12 HL HL'
  haveI := later_some W
  unfold Pd.sameT
  dsimp only
  by_cases ht : pt = qt
  · subst ht
    go_enter Tryz.func60, Tryz.ntmps60
    go_wp2_with fail
    refine (calls_later (x := ⟨_, HW1.out⟩) (vsame_v pa qa _)).mono ?_
    rintro e _ ⟨rfl, y, rfl⟩
    clear HW1
    cases h1 : Vl.same pa qa <;> cases h2 : Vl.same pw qw
    all_goals
      go_wp2_with (first | (go_at_call 77; refine (calls_later (vsame_v pw qw _)).mono ?_; rintro e _ ⟨rfl, y, rfl⟩) | (go_at_call 84; refine (equal_l HL.out HL'.out).mono ?_; rintro e _ ⟨rfl, y, rfl⟩) | fail)
      go_ret
      exact ⟨ret_bool (by simp [h1, h2]), below_then HW.out (Later.below _)⟩
  · go_enter Tryz.func60, Tryz.ntmps60
    go_wp2_with fail
    go_ret
    exact ⟨ret_bool (by simp [ht]), below_then HW.out HW1.out⟩
theorem samet_l {p q : Prd} {A B : Option Addr} {n c m d : Nat} {W : World} {x : Later W} (h : IsPrd W p A n) (h' : IsPrd W q B m) : Calls Tryz.prog 60 #[pv p A n c, pv q B m d] x.at_ fun e w' => e = .returned (.bool (Pd.sameT p q)) ∧ ∃ y : Later W, w' = y.at_ := calls_later (samet_any (h.later x.below) (h'.later x.below))
set_option maxHeartbeats 8000000 in
theorem psame_any {p q : Prd} {A B : Option Addr} {n c m d : Nat} {w : World} (h : IsPrd w p A n) (h' : IsPrd w q B m) : Calls Tryz.prog 35 #[pv p A n c, pv q B m d] w fun e w' => e = .returned (.bool (Pd.same p q)) ∧ Below w.heap.size w w' := by
  obtain ⟨W, hW1, hW, hB, hV⟩ := world_pp w p A n c q B m d
  have HP := Lib.hid (h.later hW)
  have HQ := Lib.hid (h'.later hW)
  have HW := Lib.hid hW
  have HW1 := Lib.hid hW1
  clear h h' hW hW1 hB hV
  unfold Pd.same
  cases hn : (p.name.toList == q.name.toList)
  all_goals
    go_enter Tryz.func35, Tryz.ntmps35
    go_wp2_with (first | (go_at_call 60; refine (samet_l (x := ⟨_, HW1.out⟩) HP.out HQ.out).mono ?_; rintro e _ ⟨rfl, y, rfl⟩) | fail)
    go_ret
    first | exact ⟨ret_bool (by simp), below_then HW.out (Later.below _)⟩ | exact ⟨ret_bool (by simp), below_then HW.out HW1.out⟩
end Go.Proofs.YtfbfbajccphkoaaGreat
