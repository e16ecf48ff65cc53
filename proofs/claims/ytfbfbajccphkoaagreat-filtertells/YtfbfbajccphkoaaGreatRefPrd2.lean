
/- The document's answers on tests: TakesValue, Void, SamePred. -/
import Derived.Test.YtfbfbajccphkoaaGreatRefPrd
import Derived.Test.YtfbfbajccphkoaaGreatPrdFacts
namespace Go.Proofs.YtfbfbajccphkoaaGreat
open Go.RowKit
set_option linter.unusedVariables false

set_option maxRecDepth 100000 in
set_option maxHeartbeats 8000000 in
theorem rtakes_any {p : Prd} {A : Option Addr} {n c : Nat} {v : Val} {w : World} (h : IsPrd w p A n) (hv : Fit v) : Calls Tryz.prog 33 #[pv p A n c, vlv v] w fun e w' => e = .returned (.bool (Pd.right p && Pd.takes p v)) ∧ Below w.heap.size w w' := by
  obtain ⟨W, hW1, hW, hB, hV⟩ := world_pv w p A n c v
  have HP := Lib.hid (h.later hW)
  obtain ⟨nm, t, a, u, l⟩ := p
  obtain ⟨hnm, ha, hu, hl⟩ := h
  obtain rfl : l.length = n := hl.len
  have HA := Lib.hid ha
  have HU := Lib.hid hu
  have HV := Lib.hid hv
  have hvs := hv.txt
  have has := ha.txt
  have HW := Lib.hid hW
  have hfew := hl.few
  have HLW := Lib.hid (hl.later hW)
  have HW1 := Lib.hid hW1
  clear hl hv hu hW hW1 ha hnm
  obtain ⟨c0, c1, c2, c3, c4, c5, c6, c7, c8, c9, c10, c11, c12⟩ := hB
  obtain ⟨d0, d1, d2, d3, d4⟩ := hV
  dsimp only at c0 c1 c2 c3 c4 c5 c6 c7 c8 c9 c10 c11 c12 HLW HA HU HV hvs has
  haveI := later_some W
  go_enter Tryz.func33, Tryz.ntmps33
  go_wp2_with fail
  refine (rpright_l (x := ⟨_, HW1.out⟩) HP.out).mono ?_
  rintro e _ ⟨rfl, y, rfl⟩
  clear HW1
  cases hr : Pd.right ⟨nm, t, a, u, l⟩
  · go_wp2_with fail
    go_ret
    exact ⟨ret_bool (by rw [hr]; rfl), below_then HW.out (Later.below _)⟩
  have HRR := Lib.hid hr
  clear hr
  go_wp2_with fail
  refine (calls_later (rvcmp_v HV.out HA.out _)).mono ?_
  rintro e _ ⟨rfl, y, rfl⟩
  have ht := Pd.tests t
  generalize hc : Vl.cmp v a = cc
  generalize hk : Vl.ok v a = kk
  rcases ht with rfl | rfl | rfl | rfl | rfl | rfl | rfl | rfl | rfl | rfl | ⟨g1, g2, g3, g4, g5, g6, g7, g8, g9, g10⟩
  case' inr.inr.inr.inr.inr.inr.inr.inr.inr.inr =>
    have hno := HRR.out
    simp [Pd.right, g1, g8, g9, g10] at hno
    omega
  case' inr.inr.inr.inr.inr.inr.inr.inr.inr.inl =>
    clear hc hk
    go_wp2_with fail
    go_loopw [9] (fun ii wr => ∃ (k : Nat) (x : Later W), k ≤ l.length ∧ ii = .int .i64 (k : Int) ∧ l.any (Vl.is v) = (l.drop k).any (Vl.is v) ∧ wr = x.at_) (fun ii _ => l.length - (intOf ii).toNat)
    case atStart => exact ⟨0, y, by omega, rfl, rfl, rfl⟩
    case round =>
      obtain ⟨k, x, hk, rfl, hl, rfl⟩ := hrel
      have HK := Lib.hid hl
      clear hl
      by_cases hlt : k < l.length
      · obtain ⟨g, o, rfl, hg⟩ := HLW.out.at (by omega)
        obtain ⟨b, hb⟩ : ∃ b, l[k]? = some b := ⟨_, List.getElem?_eq_getElem hlt⟩
        have HG := Lib.hid hb
        have hfb := HLW.out.fit b (List.mem_of_getElem? hb)
        have e0 := later_cell (hg k b hb).h0
        have e1 := later_cell (hg k b hb).h1
        have e2 := later_cell (hg k b hb).h2
        have e3 := later_cell (hg k b hb).h3
        have e4 := later_cell (hg k b hb).h4
        have KI := Lib.hid (fun x : Later W => calls_later (x := x) (rvis_v HV.out hfb x.at_))
        clear hg hb
        go_upto_region 27 with fail
        refine wp_region_later (W := W) (by kernel_rfl) (by kernel_rfl) (Later.below _) ?_
        repeat (go_big_quiet_step (first | (go_at_call 59; exact KI.out _)))
        refine wpQuiet_nil ?_
        clear e0 e1 e2 e3 e4
        rintro _ ⟨y', rfl⟩
        cases hr : Vl.is v b
        · have HM := Lib.hid (Pd.any_bad HG.out HK.out hr)
          go_wp2_with fail
          exact ⟨⟨k + 1, y', by omega, rfl, HM.out, rfl⟩, by simp [intOf]; omega⟩
        · have HM := Lib.hid (Pd.any_good HG.out hr)
          go_wp2_with fail
          go_ret
          exact ⟨ret_bool (by rw [HRR.out, Bool.true_and]; simp only [Pd.takes, HM.out]; simp), below_then HW.out (Later.below _)⟩
      · have HM := Lib.hid (Pd.any_end hlt HK.out)
        go_wp2_with fail
        go_ret
        exact ⟨ret_bool (by rw [HRR.out, Bool.true_and]; simp only [Pd.takes, HM.out]; simp), below_then HW.out (Later.below _)⟩
  case' inr.inr.inr.inr.inr.inr.inr.inr.inl =>
    clear hc hk
    by_cases h3 : v.k = 3
    all_goals
      go_wp2_with (first | (go_at_call 58; refine (calls_later_same (rhas_any _ _ hvs has _)).mono ?_; rintro e _ ⟨rfl, y, rfl⟩) | fail)
      go_ret
      exact ⟨ret_bool (by rw [HRR.out, Bool.true_and]; simp [Pd.takes, h3]), below_then HW.out (Later.below _)⟩
  case' inr.inr.inr.inr.inr.inr.inr.inl =>
    have HC := Lib.hid hc
    have HK := Lib.hid hk
    clear hc hk
    go_wp2_with fail
    refine (calls_later (rvcmp_v HV.out HU.out _)).mono ?_
    rintro e _ ⟨rfl, y, rfl⟩
    generalize hc2 : Vl.cmp v u = dd
    generalize hk2 : Vl.ok v u = jj
    have HC2 := Lib.hid hc2
    have HK2 := Lib.hid hk2
    clear hc2 hk2
    cases kk <;> cases jj <;> by_cases h0 : 0 ≤ cc
    all_goals
      go_wp2_with fail
      go_ret
      exact ⟨ret_bool (by rw [HRR.out, Bool.true_and]; first | (simp [Pd.takes, Pd.most, HC.out, HK.out, HC2.out, HK2.out, h0]; done) | (simp [Pd.takes, Pd.most, HC.out, HK.out, HC2.out, HK2.out]; intro; omega)), below_then HW.out (Later.below _)⟩
  all_goals
    have HC := Lib.hid hc
    have HK := Lib.hid hk
    clear hc hk
    cases kk
    all_goals
      go_wp2_with fail
      go_ret
      exact ⟨ret_bool (by rw [HRR.out, Bool.true_and]; first | (simp [Pd.takes, HC.out, HK.out]; done) | (simp [Pd.takes, HC.out, HK.out]; rfl)), below_then HW.out (Later.below _)⟩
theorem rtakes_l {p : Prd} {A : Option Addr} {n c : Nat} {v : Val} {W : World} {x : Later W} (h : IsPrd W p A n) (hv : Fit v) : Calls Tryz.prog 33 #[pv p A n c, vlv v] x.at_ fun e w' => e = .returned (.bool (Pd.right p && Pd.takes p v)) ∧ ∃ y : Later W, w' = y.at_ := calls_later (rtakes_any (h.later x.below) hv)

theorem is_nan {a : Val} (h : Vl.right a = true) : Vl.is a a = !Pd.nan a := by
  rw [Vl.is_self h]
  unfold Pd.nan
  by_cases hk : a.k = 2 <;> simp [hk]
theorem Pd.right_set {nm : ByteArray} {v u : Val} {l : List Val} (h : Pd.right ⟨nm, 10, v, u, l⟩ = true) : ∀ a, a ∈ l → Vl.right a = true := by
  simp [Pd.right, Pd.rset] at h
  exact h.2.2.2
theorem Pd.right_v {nm : ByteArray} {t : Int} {v u : Val} {l : List Val} (h : Pd.right ⟨nm, t, v, u, l⟩ = true) (h1 : 2 ≤ t) (h2 : t ≤ 7) : Vl.right v = true := by
  have e1 : ¬ t = 1 := by omega
  have e2 : ¬ t = 8 := by omega
  have e3 : ¬ t = 9 := by omega
  have e4 : ¬ t = 10 := by omega
  simp [Pd.right, e1, e2, e3, e4, h1, h2] at h
  exact h.2.1.1
theorem gt_not (d : Int) : decide (0 < d) = !decide (d ≤ 0) := by
  by_cases h : 0 < d
  · rw [decide_eq_true h, decide_eq_false (by omega)]; rfl
  · rw [decide_eq_false h, decide_eq_true (by omega)]; rfl
set_option maxRecDepth 100000 in
set_option maxHeartbeats 8000000 in
theorem rvoid_any {p : Prd} {A : Option Addr} {n c : Nat} {w : World} (h : IsPrd w p A n) : Calls Tryz.prog 40 #[pv p A n c] w fun e w' => e = .returned (.bool (Pd.right p && Pd.void p)) ∧ Below w.heap.size w w' := by
  obtain ⟨W, hW1, hW, hB⟩ := world_p w p A n c
  have HP := Lib.hid (h.later hW)
  obtain ⟨nm, t, a, u, l⟩ := p
  obtain ⟨hnm, ha, hu, hl⟩ := h
  obtain rfl : l.length = n := hl.len
  have HA := Lib.hid ha
  have HU := Lib.hid hu
  have HW := Lib.hid hW
  have hfew := hl.few
  have HLW := Lib.hid (hl.later hW)
  have HW1 := Lib.hid hW1
  clear hl hu hW hW1 ha hnm
  obtain ⟨c0, c1, c2, c3, c4, c5, c6, c7, c8, c9, c10, c11, c12⟩ := hB
  dsimp only at c0 c1 c2 c3 c4 c5 c6 c7 c8 c9 c10 c11 c12 HLW HA HU
  haveI := later_some W
  go_enter Tryz.func40, Tryz.ntmps40
  go_wp2_with fail
  refine (rpright_l (x := ⟨_, HW1.out⟩) HP.out).mono ?_
  rintro e _ ⟨rfl, y, rfl⟩
  clear HW1
  cases hr : Pd.right ⟨nm, t, a, u, l⟩
  · go_wp2_with fail
    go_ret
    exact ⟨ret_bool (by rw [hr]; rfl), below_then HW.out (Later.below _)⟩
  have HRR := Lib.hid hr
  clear hr
  have KS := Lib.hid (fun x : Later W => calls_later (x := x) (rvis_v HA.out HA.out x.at_))
  have ht := Pd.tests t
  rcases ht with rfl | rfl | rfl | rfl | rfl | rfl | rfl | rfl | rfl | rfl | ⟨g1, g2, g3, g4, g5, g6, g7, g8, g9, g10⟩
  case' inr.inr.inr.inr.inr.inr.inr.inr.inr.inr =>
    have hno := HRR.out
    simp [Pd.right, g1, g8, g9, g10] at hno
    omega
  case' inr.inr.inr.inr.inr.inr.inr.inr.inr.inl =>
    go_wp2_with fail
    go_loopw [5] (fun ii wr => ∃ (k : Nat) (x : Later W), k ≤ l.length ∧ ii = .int .i64 (k : Int) ∧ l.any (fun v => !Pd.nan v) = (l.drop k).any (fun v => !Pd.nan v) ∧ wr = x.at_) (fun ii _ => l.length - (intOf ii).toNat)
    case atStart => exact ⟨0, y, by omega, rfl, rfl, rfl⟩
    case round =>
      obtain ⟨k, x, hk, rfl, hl, rfl⟩ := hrel
      have HK := Lib.hid hl
      clear hl
      by_cases hlt : k < l.length
      · obtain ⟨g, o, rfl, hg⟩ := HLW.out.at (by omega)
        obtain ⟨b, hb⟩ : ∃ b, l[k]? = some b := ⟨_, List.getElem?_eq_getElem hlt⟩
        have HG := Lib.hid hb
        have hfb := HLW.out.fit b (List.mem_of_getElem? hb)
        have hrb := Pd.right_set HRR.out b (List.mem_of_getElem? hb)
        have e0 := later_cell (hg k b hb).h0
        have e1 := later_cell (hg k b hb).h1
        have e2 := later_cell (hg k b hb).h2
        have e3 := later_cell (hg k b hb).h3
        have e4 := later_cell (hg k b hb).h4
        have ki := fun x : Later W => calls_later (x := x) (rvis_v hfb hfb x.at_)
        rw [is_nan hrb] at ki
        have KI := Lib.hid ki
        clear hg hb ki hrb
        go_upto_region 17 with fail
        refine wp_region_later (W := W) (by kernel_rfl) (by kernel_rfl) (Later.below _) ?_
        repeat (go_big_quiet_step (first | (go_at_call 59; exact KI.out _)))
        refine wpQuiet_nil ?_
        clear e0 e1 e2 e3 e4
        rintro _ ⟨y', rfl⟩
        cases hr : Pd.nan b
        · have HM := Lib.hid (Pd.any_good (f := fun v => !Pd.nan v) HG.out (by simp [hr]))
          go_wp2_with fail
          go_ret
          exact ⟨ret_bool (by rw [HRR.out, Bool.true_and]; simp only [Pd.void, HM.out]; simp), below_then HW.out (Later.below _)⟩
        · have HM := Lib.hid (Pd.any_bad (f := fun v => !Pd.nan v) HG.out HK.out (by simp [hr]))
          go_wp2_with fail
          exact ⟨⟨k + 1, y', by omega, rfl, HM.out, rfl⟩, by simp [intOf]; omega⟩
      · have HM := Lib.hid (Pd.any_end hlt HK.out)
        go_wp2_with fail
        go_ret
        exact ⟨ret_bool (by rw [HRR.out, Bool.true_and]; simp only [Pd.void, HM.out]; simp), below_then HW.out (Later.below _)⟩
  case' inr.inr.inr.inr.inr.inr.inr.inl =>
    go_wp2_with fail
    refine (calls_later (rvcmp_v HA.out HU.out _)).mono ?_
    rintro e _ ⟨rfl, y, rfl⟩
    generalize hc2 : Vl.cmp a u = dd
    generalize hk2 : Vl.ok a u = jj
    have HC2 := Lib.hid hc2
    have HK2 := Lib.hid hk2
    clear hc2 hk2
    cases jj
    all_goals
      go_wp2_with fail
      go_ret
      exact ⟨ret_bool (by rw [HRR.out, Bool.true_and]; first | (simp [Pd.void, Pd.most, HC2.out, HK2.out]; done) | (simp [Pd.void, Pd.most, HC2.out, HK2.out]; exact gt_not dd)), below_then HW.out (Later.below _)⟩
  case' inl =>
    go_wp2_with fail
    go_ret
    exact ⟨ret_bool (by rw [HRR.out, Bool.true_and]; simp [Pd.void]), below_then HW.out (Later.below _)⟩
  case' inr.inr.inl =>
    go_wp2_with fail
    go_ret
    exact ⟨ret_bool (by rw [HRR.out, Bool.true_and]; simp [Pd.void]), below_then HW.out (Later.below _)⟩
  case' inr.inr.inr.inr.inr.inr.inr.inr.inl =>
    go_wp2_with fail
    go_ret
    exact ⟨ret_bool (by rw [HRR.out, Bool.true_and]; simp [Pd.void]), below_then HW.out (Later.below _)⟩
  all_goals
    have hra := Pd.right_v HRR.out (by omega) (by omega)
    have ki := KS.out
    rw [is_nan hra] at ki
    have KI := Lib.hid ki
    clear ki hra KS
    go_wp2_with (first | (go_at_call 59; refine (KI.out _).mono ?_; rintro e _ ⟨rfl, y, rfl⟩) | fail)
    go_ret
    exact ⟨ret_bool (by rw [HRR.out, Bool.true_and]; simp [Pd.void]), below_then HW.out (Later.below _)⟩
theorem rvoid_l {p : Prd} {A : Option Addr} {n c : Nat} {W : World} {x : Later W} (h : IsPrd W p A n) : Calls Tryz.prog 40 #[pv p A n c] x.at_ fun e w' => e = .returned (.bool (Pd.right p && Pd.void p)) ∧ ∃ y : Later W, w' = y.at_ := calls_later (rvoid_any (h.later x.below))
theorem rsames_l {A B : Option Addr} {n c n' c' : Nat} {l m : List Val} {W : World} {x : Later W} (h : Vs W A n l) (h' : Vs W B n' m) : Calls Tryz.prog 62 #[.slice A n c, .slice B n' c'] x.at_ fun e w' => e = .returned (.bool (Pd.sames l m)) ∧ ∃ y : Later W, w' = y.at_ := calls_later (rsames_any (h.later x.below) (h'.later x.below))
set_option maxRecDepth 100000 in
set_option maxHeartbeats 8000000 in
theorem rpsame_any {p q : Prd} {A B : Option Addr} {n c m d : Nat} {w : World} (h : IsPrd w p A n) (h' : IsPrd w q B m) : Calls Tryz.prog 36 #[pv p A n c, pv q B m d] w fun e w' => e = .returned (.bool (Pd.same p q)) ∧ Below w.heap.size w w' := by
  obtain ⟨W, hW1, hW, hB, hV⟩ := world_pp w p A n c q B m d
  have HL := Lib.hid (h.set.later hW)
  have HL' := Lib.hid (h'.set.later hW)
  have HW := Lib.hid hW
  have HW1 := Lib.hid hW1
  clear h h' hW hW1
  obtain ⟨c0, c1, c2, c3, c4, c5, c6, c7, c8, c9, c10, c11, c12⟩ := hB
  obtain ⟨d0, d1, d2, d3, d4, d5, d6, d7, d8, d9, d10, d11, d12⟩ := hV
  obtain ⟨pn, pt, pa, pw, pl⟩ := p
  obtain ⟨qn, qt, qa, qw, ql⟩ := q
  dsimp only at c0 c1 c2 c3 c4 c5 c6 c7 c8 c9 c10 c11 c12 d0 d1 d2 d3 d4 d5 d6 d7 d8 d9 d10 d11 d12 HL HL'
  haveI := later_some W
  unfold Pd.same Pd.sameT
  dsimp only
  cases hn : (pn.toList == qn.toList)
  · go_enter Tryz.func36, Tryz.ntmps36
    go_wp2_with fail
    go_ret
    exact ⟨ret_bool (by simp), below_then HW.out HW1.out⟩
  by_cases ht : pt = qt
  · subst ht
    go_enter Tryz.func36, Tryz.ntmps36
    go_wp2_with fail
    refine (calls_later (x := ⟨_, HW1.out⟩) (rvsame_v pa qa _)).mono ?_
    rintro e _ ⟨rfl, y, rfl⟩
    clear HW1
    cases h1 : Vl.same pa qa <;> cases h2 : Vl.same pw qw
    all_goals
      go_wp2_with (first | (go_at_call 61; refine (calls_later (rvsame_v pw qw _)).mono ?_; rintro e _ ⟨rfl, y, rfl⟩) | (go_at_call 62; refine (rsames_l HL.out HL'.out).mono ?_; rintro e _ ⟨rfl, y, rfl⟩) | fail)
      go_ret
      exact ⟨ret_bool (by simp [h1, h2]), below_then HW.out (Later.below _)⟩
  · go_enter Tryz.func36, Tryz.ntmps36
    go_wp2_with fail
    go_ret
    exact ⟨ret_bool (by simp [ht]), below_then HW.out HW1.out⟩
end Go.Proofs.YtfbfbajccphkoaaGreat
