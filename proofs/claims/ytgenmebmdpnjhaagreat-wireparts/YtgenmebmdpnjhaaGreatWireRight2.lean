
/- Subs, Events, Changes: right: the contracts. -/
import Derived.Test.YtgenmebmdpnjhaaGreatWireRight1
namespace Go.Proofs.YtgenmebmdpnjhaaGreat
open Go.RowKit
set_option linter.unusedVariables false
set_option maxRecDepth 100000

set_option maxHeartbeats 8000000 in
theorem rightsub_any {s : Sb} {w : World} (h : IsFt w s.f) : Calls Tryz.prog 65 #[sbv s] w fun e w' => e = .returned (.bool (Wr.rightSb s)) ∧ Below w.heap.size w w' := by
  have HF := Lib.hid h
  clear h
  cases H1 : Wr.client s.c
  · have HW : Hid (Wr.rightSb s = false) := Lib.hid (by simp [Wr.rightSb, H1])
    go_enter Tryz.func65, Tryz.ntmps65
    go_wp2_with (first | (go_at_call 30; refine (isclient_at H1).mono ?_; rintro e w' ⟨rfl, rfl⟩))
    go_ret
    exact ⟨by rw [HW.out]; rfl, one_new _ _⟩
  cases H2 : Wr.broker s.b
  · have HW : Hid (Wr.rightSb s = false) := Lib.hid (by simp [Wr.rightSb, H2])
    go_enter Tryz.func65, Tryz.ntmps65
    go_wp2_with (first | (go_at_call 30; refine (isclient_at H1).mono ?_; rintro e w' ⟨rfl, rfl⟩) | (go_at_call 28; refine (isbroker_at H2).mono ?_; rintro e w' ⟨rfl, rfl⟩))
    go_ret
    exact ⟨by rw [HW.out]; rfl, one_new _ _⟩
  cases H3 : Wr.cnt s.n
  · have HW : Hid (Wr.rightSb s = false) := Lib.hid (by simp [Wr.rightSb, H3])
    go_enter Tryz.func65, Tryz.ntmps65
    go_wp2_with (first | (go_at_call 30; refine (isclient_at H1).mono ?_; rintro e w' ⟨rfl, rfl⟩) | (go_at_call 28; refine (isbroker_at H2).mono ?_; rintro e w' ⟨rfl, rfl⟩) | (go_at_call 31; refine (iscnt_at H3).mono ?_; rintro e w' ⟨rfl, rfl⟩))
    go_ret
    exact ⟨by rw [HW.out]; rfl, one_new _ _⟩
  have HW : Hid (Wr.rightSb s = Fi.right s.f.l) := Lib.hid (by simp [Wr.rightSb, H1, H2, H3])
  go_enter Tryz.func65, Tryz.ntmps65
  go_wp2_with (first | (go_at_call 30; refine (isclient_at H1).mono ?_; rintro e w' ⟨rfl, rfl⟩) | (go_at_call 28; refine (isbroker_at H2).mono ?_; rintro e w' ⟨rfl, rfl⟩) | (go_at_call 31; refine (iscnt_at H3).mono ?_; rintro e w' ⟨rfl, rfl⟩))
  refine (fright_any (HF.out.later (one_new _ _)).ps).mono ?_
  rintro e w2 ⟨rfl, hb⟩
  have HBl := Lib.hid (below_then (one_new _ _) hb)
  clear hb
  go_wp2_with fail
  go_ret
  exact ⟨by rw [HW.out]; rfl, HBl.out⟩

set_option maxHeartbeats 8000000 in
theorem isbehind_any (s a : Sb) (w : World) : Calls Tryz.prog 66 #[sbv s, sbv a] w fun e w' => e = .returned (.bool (Wr.behind s a)) ∧ Below w.heap.size w w' := by
  by_cases h1 : s.c > a.c
  · have HW : Hid (Wr.behind s a = true) := Lib.hid (by unfold Wr.behind; rw [decide_eq_true h1]; rfl)
    go_enter Tryz.func66, Tryz.ntmps66
    go_wp2_with fail
    go_ret
    exact ⟨by rw [HW.out]; rfl, two_new _ _ _⟩
  cases h2 : (s.c == a.c)
  · have HW : Hid (Wr.behind s a = false) := Lib.hid (by unfold Wr.behind; rw [decide_eq_false h1, h2]; rfl)
    go_enter Tryz.func66, Tryz.ntmps66
    go_wp2_with fail
    go_ret
    exact ⟨by rw [HW.out]; rfl, two_new _ _ _⟩
  by_cases h3 : s.n > a.n
  · have HW : Hid (Wr.behind s a = true) := Lib.hid (by unfold Wr.behind; rw [h2, decide_eq_true h3]; simp)
    go_enter Tryz.func66, Tryz.ntmps66
    go_wp2_with fail
    go_ret
    exact ⟨by rw [HW.out]; rfl, two_new _ _ _⟩
  · have HW : Hid (Wr.behind s a = false) := Lib.hid (by unfold Wr.behind; rw [decide_eq_false h1, h2, decide_eq_false h3]; rfl)
    go_enter Tryz.func66, Tryz.ntmps66
    go_wp2_with fail
    go_ret
    exact ⟨by rw [HW.out]; rfl, two_new _ _ _⟩

set_option maxHeartbeats 8000000 in
theorem rightsubs_any {A : Option Addr} {n c : Nat} {l : List Sb} {w : World} (h : Sbs w A n l) :
    Calls Tryz.prog 27 #[.slice A n c] w fun e w' => e = .returned (.bool (Wr.rightSbs l)) ∧ Below w.heap.size w w' := by
  obtain rfl := h.len.symm
  have hn := h.few
  have HA := Lib.hid h
  clear h
  by_cases h18 : l.length ≤ 18
  case neg =>
    have HR : Hid (Wr.rightSbs l = false) := Lib.hid (by unfold Wr.rightSbs; rw [decide_eq_false h18]; rfl)
    have h18' : (l.length : Int) > 18 := by omega
    go_enter Tryz.func27, Tryz.ntmps27
    go_wp2_with fail
    go_ret
    exact ⟨by rw [HR.out]; rfl, Below.refl _ _⟩
  have HR : Hid (Wr.rightSbs l = (List.range l.length).all (Wr.sbAt l)) := Lib.hid (by unfold Wr.rightSbs; rw [decide_eq_true h18]; rfl)
  have h18' : ¬ (l.length : Int) > 18 := by omega
  go_enter Tryz.func27, Tryz.ntmps27
  go_wp2_with fail
  go_loopw [10] (fun ii wr => ∃ k : Nat, k ≤ l.length ∧ ii = .int .i64 (k : Int) ∧ (List.range l.length).all (Wr.sbAt l) = ((List.range l.length).drop k).all (Wr.sbAt l) ∧ Below w.heap.size w wr) (fun ii _ => l.length - (intOf ii).toNat)
  case atStart => exact ⟨0, by omega, rfl, rfl, Below.refl _ _⟩
  case round =>
    obtain ⟨k, hk, rfl, hl, hB⟩ := hrel
    have HL := Lib.hid hl
    have HB := Lib.hid hB
    clear hl hB
    by_cases hlt : k < l.length
    · obtain ⟨g, o, y, rfl, hy, hi, hc⟩ := HA.out.cells HB.out hlt
      have HG := Lib.hid hc
      have HY := Lib.hid hy
      have HI := Lib.hid hi
      clear hy hi hc
      go_upto_region 6 with (first | (refine wpList_load_at rfl 33 _ rfl g (o + k * 4) y.cells _ rfl HG.out Tryz.underlying33 rfl sb_size ?_; dsimp only [Sb.cells]))
      have hn1 := one_new wr (sbbox y)
      have HB1 := Lib.hid (below_then HB.out hn1)
      have HI1 := Lib.hid (HI.out.later hn1)
      have HN := Lib.hid (heap_alloc_new wr (sbbox y))
      clear hn1 HB HG HI
      dsimp only [sbbox] at HB1 HN HI1
      generalize wr.heap.size = gp at HN ⊢
      generalize wr.alloc _ = w1 at HB1 HN HI1 ⊢
      have HC := Lib.hid (later_cells (cells_row (cs := y.cells) HN.out))
      have KR := Lib.hid (fun x : Later w1 => rightsub_any (s := y) (HI1.out.later x.below))
      haveI := later_some w1
      cases hr : Wr.rightSb y
      · have HM := Lib.hid (Fi.all_bad (f := Wr.sbAt l) (Fi.range_at hlt) (Wr.sb_wrong HY.out hr))
        rw [hr] at KR
        go_upto_region 6 with fail
        refine wp_region_later (W := w1) (by kernel_rfl) (by kernel_rfl) (Below.refl _ _) ?_
        repeat (first | go_big_quiet_step (first | (go_at_call 65; exact calls_later (KR.out _))) | (go_big_quiet_want; refine quiet_load 33 _ rfl gp 0 y.cells _ rfl HC.out Tryz.underlying33 rfl sb_size ?_; go_big_quiet_on; simp only [Act.put, List.setIfInBounds_toArray, List.set_cons_succ, List.set_cons_zero]))
        refine wpQuiet_nil ?_
        rintro _ ⟨z, rfl⟩
        go_wp2_with fail
        go_ret
        exact ⟨by rw [HR.out, HM.out]; rfl, below_then HB1.out z.below⟩
      rw [hr] at KR
      rcases k with - | j
      · have HM := Lib.hid (Fi.all_good (f := Wr.sbAt l) (Fi.range_at hlt) HL.out ((Wr.sb_zero HY.out).trans hr))
        refine wp_region_later (W := w1) (by kernel_rfl) (by kernel_rfl) (Below.refl _ _) ?_
        repeat (first | go_big_quiet_step (first | (go_at_call 65; exact calls_later (KR.out _))) | (go_big_quiet_want; refine quiet_load 33 _ rfl gp 0 y.cells _ rfl HC.out Tryz.underlying33 rfl sb_size ?_; go_big_quiet_on; simp only [Act.put, List.setIfInBounds_toArray, List.set_cons_succ, List.set_cons_zero]))
        refine wpQuiet_nil ?_
        rintro _ ⟨z, rfl⟩
        go_wp2_with fail
        exact ⟨⟨1, by omega, rfl, HM.out, below_then HB1.out z.below⟩, by simp [intOf]; omega⟩
      · obtain ⟨g', o', y', hA', hy', hi', hc'⟩ := HA.out.cells HB1.out (show j < l.length by omega)
        cases hA'
        have HY' := Lib.hid hy'
        have HC' := Lib.hid (later_cells hc')
        have uj : IntKind.i64.wrap (((j + 1 : Nat) : Int) - 1) = (j : Int) := by rw [show ((j + 1 : Nat) : Int) - 1 = (j : Int) by omega]; exact IntWalk.i64_in _ (by omega)
        have KB := Lib.hid (fun x : Later w1 => isbehind_any y y' x.at_)
        clear hy' hi' hc'
        cases hw : Wr.behind y y'
        · have HM := Lib.hid (Fi.all_bad (f := Wr.sbAt l) (Fi.range_at hlt) ((Wr.sb_succ HY.out HY'.out).trans (by rw [hr, hw]; rfl)))
          rw [hw] at KB
          refine wp_region_later (W := w1) (by kernel_rfl) (by kernel_rfl) (Below.refl _ _) ?_
          repeat (first | go_big_quiet_step (first | (go_at_call 65; exact calls_later (KR.out _)) | (go_at_call 66; exact calls_later (KB.out _))) | (go_big_quiet_want; refine quiet_load 33 _ rfl gp 0 y.cells _ rfl HC.out Tryz.underlying33 rfl sb_size ?_; go_big_quiet_on; simp only [Act.put, List.setIfInBounds_toArray, List.set_cons_succ, List.set_cons_zero]) | (go_big_quiet_want; refine quiet_load 33 _ rfl g (o + j * 4) y'.cells _ rfl HC'.out Tryz.underlying33 rfl sb_size ?_; go_big_quiet_on; simp only [Act.put, List.setIfInBounds_toArray, List.set_cons_succ, List.set_cons_zero]))
          refine wpQuiet_nil ?_
          rintro _ ⟨z, rfl⟩
          go_wp2_with fail
          go_ret
          exact ⟨by rw [HR.out, HM.out]; rfl, below_then HB1.out z.below⟩
        · have HM := Lib.hid (Fi.all_good (f := Wr.sbAt l) (Fi.range_at hlt) HL.out ((Wr.sb_succ HY.out HY'.out).trans (by rw [hr, hw]; rfl)))
          rw [hw] at KB
          refine wp_region_later (W := w1) (by kernel_rfl) (by kernel_rfl) (Below.refl _ _) ?_
          repeat (first | go_big_quiet_step (first | (go_at_call 65; exact calls_later (KR.out _)) | (go_at_call 66; exact calls_later (KB.out _))) | (go_big_quiet_want; refine quiet_load 33 _ rfl gp 0 y.cells _ rfl HC.out Tryz.underlying33 rfl sb_size ?_; go_big_quiet_on; simp only [Act.put, List.setIfInBounds_toArray, List.set_cons_succ, List.set_cons_zero]) | (go_big_quiet_want; refine quiet_load 33 _ rfl g (o + j * 4) y'.cells _ rfl HC'.out Tryz.underlying33 rfl sb_size ?_; go_big_quiet_on; simp only [Act.put, List.setIfInBounds_toArray, List.set_cons_succ, List.set_cons_zero]))
          refine wpQuiet_nil ?_
          rintro _ ⟨z, rfl⟩
          go_wp2_with fail
          exact ⟨⟨j + 1 + 1, by omega, rfl, HM.out, below_then HB1.out z.below⟩, by simp [intOf]; omega⟩
    · have HM := Lib.hid (Fi.all_end (l := List.range l.length) (by rw [List.length_range]; exact hlt) HL.out)
      go_wp2_with fail
      go_ret
      exact ⟨by rw [HR.out, HM.out]; rfl, HB.out⟩

set_option maxHeartbeats 8000000 in
theorem rightevent_any {a : Ev} {w : World} (h : IsEv w a) : Calls Tryz.prog 29 #[evv a] w fun e w' => e = .returned (.bool (Wr.rightEv a)) ∧ Below w.heap.size w w' := by
  have HA := Lib.hid (h.later (one_new w (evbox a)))
  clear h
  cases H1 : Wr.client a.c
  · have HW : Hid (Wr.rightEv a = false) := Lib.hid (by simp [Wr.rightEv, H1])
    go_enter Tryz.func29, Tryz.ntmps29
    go_wp2_with (first | (go_at_call 30; refine (isclient_at H1).mono ?_; rintro e w' ⟨rfl, rfl⟩))
    go_ret
    exact ⟨by rw [HW.out]; rfl, one_new _ _⟩
  cases H2 : Wr.broker a.b
  · have HW : Hid (Wr.rightEv a = false) := Lib.hid (by simp [Wr.rightEv, H2])
    go_enter Tryz.func29, Tryz.ntmps29
    go_wp2_with (first | (go_at_call 30; refine (isclient_at H1).mono ?_; rintro e w' ⟨rfl, rfl⟩) | (go_at_call 28; refine (isbroker_at H2).mono ?_; rintro e w' ⟨rfl, rfl⟩))
    go_ret
    exact ⟨by rw [HW.out]; rfl, one_new _ _⟩
  cases H3 : Wr.cnt a.s
  · have HW : Hid (Wr.rightEv a = false) := Lib.hid (by simp [Wr.rightEv, H3])
    go_enter Tryz.func29, Tryz.ntmps29
    go_wp2_with (first | (go_at_call 30; refine (isclient_at H1).mono ?_; rintro e w' ⟨rfl, rfl⟩) | (go_at_call 28; refine (isbroker_at H2).mono ?_; rintro e w' ⟨rfl, rfl⟩) | (go_at_call 31; refine (iscnt_at H3).mono ?_; rintro e w' ⟨rfl, rfl⟩))
    go_ret
    exact ⟨by rw [HW.out]; rfl, one_new _ _⟩
  cases H4 : Wr.num a.e
  · have HW : Hid (Wr.rightEv a = false) := Lib.hid (by simp [Wr.rightEv, H4])
    go_enter Tryz.func29, Tryz.ntmps29
    go_wp2_with (first | (go_at_call 30; refine (isclient_at H1).mono ?_; rintro e w' ⟨rfl, rfl⟩) | (go_at_call 28; refine (isbroker_at H2).mono ?_; rintro e w' ⟨rfl, rfl⟩) | (go_at_call 31; refine (iscnt_at H3).mono ?_; rintro e w' ⟨rfl, rfl⟩))
    refine (isnum_at H4).mono ?_
    rintro e _ ⟨rfl, rfl⟩
    go_wp2_with fail
    go_ret
    exact ⟨by rw [HW.out]; rfl, one_new _ _⟩
  cases H5 : Wr.num a.a
  · have HW : Hid (Wr.rightEv a = false) := Lib.hid (by simp [Wr.rightEv, H5])
    go_enter Tryz.func29, Tryz.ntmps29
    go_wp2_with (first | (go_at_call 30; refine (isclient_at H1).mono ?_; rintro e w' ⟨rfl, rfl⟩) | (go_at_call 28; refine (isbroker_at H2).mono ?_; rintro e w' ⟨rfl, rfl⟩) | (go_at_call 31; refine (iscnt_at H3).mono ?_; rintro e w' ⟨rfl, rfl⟩))
    refine (isnum_at H4).mono ?_
    rintro e _ ⟨rfl, rfl⟩
    go_wp2_with fail
    refine (isnum_at H5).mono ?_
    rintro e _ ⟨rfl, rfl⟩
    go_wp2_with fail
    go_ret
    exact ⟨by rw [HW.out]; rfl, one_new _ _⟩
  cases H6 : At.right a.l
  · have HW : Hid (Wr.rightEv a = false) := Lib.hid (by simp [Wr.rightEv, H6])
    go_enter Tryz.func29, Tryz.ntmps29
    go_wp2_with (first | (go_at_call 30; refine (isclient_at H1).mono ?_; rintro e w' ⟨rfl, rfl⟩) | (go_at_call 28; refine (isbroker_at H2).mono ?_; rintro e w' ⟨rfl, rfl⟩) | (go_at_call 31; refine (iscnt_at H3).mono ?_; rintro e w' ⟨rfl, rfl⟩))
    refine (isnum_at H4).mono ?_
    rintro e _ ⟨rfl, rfl⟩
    go_wp2_with fail
    refine (isnum_at H5).mono ?_
    rintro e _ ⟨rfl, rfl⟩
    go_wp2_with fail
    refine (aright_any HA.out.l).mono ?_
    rw [H6]
    rintro e w2 ⟨rfl, hb⟩
    have HB := Lib.hid (below_then (one_new w (evbox a)) hb)
    have HT := Lib.hid (HA.out.t.later hb)
    have d6 := hb.cell (p := ⟨w.heap.size, 6, none⟩) (by rw [World.size_alloc]; exact Nat.lt_succ_self _)
    rw [cell_of_row _ _ 6 _ _ _ (heap_alloc_new w (evbox a))] at d6
    clear hb HA
    go_wp2_with fail
    go_ret
    exact ⟨by rw [HW.out]; rfl, HB.out⟩
  have HW : Hid (Wr.rightEv a = Wr.rightSts a.t) := Lib.hid (by simp [Wr.rightEv, H1, H2, H3, H4, H5, H6])
  go_enter Tryz.func29, Tryz.ntmps29
  go_wp2_with (first | (go_at_call 30; refine (isclient_at H1).mono ?_; rintro e w' ⟨rfl, rfl⟩) | (go_at_call 28; refine (isbroker_at H2).mono ?_; rintro e w' ⟨rfl, rfl⟩) | (go_at_call 31; refine (iscnt_at H3).mono ?_; rintro e w' ⟨rfl, rfl⟩))
  refine (isnum_at H4).mono ?_
  rintro e _ ⟨rfl, rfl⟩
  go_wp2_with fail
  refine (isnum_at H5).mono ?_
  rintro e _ ⟨rfl, rfl⟩
  go_wp2_with fail
  refine (aright_any HA.out.l).mono ?_
  rw [H6]
  rintro e w2 ⟨rfl, hb⟩
  have HB := Lib.hid (below_then (one_new w (evbox a)) hb)
  have HT := Lib.hid (HA.out.t.later hb)
  have d6 := hb.cell (p := ⟨w.heap.size, 6, none⟩) (by rw [World.size_alloc]; exact Nat.lt_succ_self _)
  rw [cell_of_row _ _ 6 _ _ _ (heap_alloc_new w (evbox a))] at d6
  clear hb HA
  go_wp2_with fail
  refine (rightstamps_any HT.out).mono ?_
  rintro e w3 ⟨rfl, hb⟩
  have HB3 := Lib.hid (below_then HB.out hb)
  clear hb
  go_wp2_with fail
  go_ret
  exact ⟨by rw [HW.out]; rfl, HB3.out⟩

set_option maxHeartbeats 8000000 in
theorem rightchange_any {g : Bool} {s : Sb} {w : World} (h : IsFt w s.f) : Calls Tryz.prog 25 #[chv g s] w fun e w' => e = .returned (.bool (Wr.rightCh g s)) ∧ Below w.heap.size w w' := by
  have hn := one_new w (.cells #[.bool g, .int .i64 s.c, .int .i64 s.b, .int .i64 s.n, .slice s.f.A s.f.l.length s.f.c] 35)
  have hr := heap_alloc_new w (.cells #[.bool g, .int .i64 s.c, .int .i64 s.b, .int .i64 s.n, .slice s.f.A s.f.l.length s.f.c] 35)
  have HF := Lib.hid (h.later hn)
  have HB := Lib.hid hn
  have hca : ∀ j v, (chcells g s)[j]? = some v → _ := cells_row (cs := chcells g s) hr
  have HC := Lib.hid (cells_part (ds := s.cells) hca (Nat.zero_add 1) (fun j v hj => by rw [Nat.add_comm]; exact hj))
  have hc0 := hca 0 _ rfl
  have hc4 := hca 4 _ rfl
  simp only [Nat.zero_add] at hc0 hc4
  have H0 := Lib.hid hc0
  have H4 := Lib.hid hc4
  clear h hn hr hca hc0 hc4
  go_enter Tryz.func25, Tryz.ntmps25
  go_upto_region 1 with fail
  generalize w.alloc _ = W at HF HB HC H0 H4 ⊢
  go_wp2_with (first | (refine wpList_load_at rfl 33 _ rfl w.heap.size 1 s.cells _ rfl HC.out Tryz.underlying33 rfl sb_size ?_; dsimp only [Sb.cells]) | fail)
  refine (rightsub_any (s := s) HF.out).mono ?_
  rintro e w2 ⟨rfl, hb⟩
  have hc0 := later_cell H0.out ⟨_, hb⟩
  have hc4 := later_cell H4.out ⟨_, hb⟩
  have HB2 := Lib.hid (below_then HB.out hb)
  dsimp only at hc0 hc4
  clear hb
  cases h1 : Wr.rightSb s
  · have HW : Hid (Wr.rightCh g s = false) := Lib.hid (by unfold Wr.rightCh; rw [h1]; rfl)
    go_wp2_with fail
    go_ret
    exact ⟨by rw [HW.out]; rfl, HB2.out⟩
  cases g
  · have HW : Hid (Wr.rightCh false s = true) := Lib.hid (by unfold Wr.rightCh; rw [h1]; rfl)
    go_wp2_with fail
    go_ret
    exact ⟨by rw [HW.out]; rfl, HB2.out⟩
  · have HW : Hid (Wr.rightCh true s = ((s.f.l.length : Int) == 0)) := Lib.hid (by
      unfold Wr.rightCh
      rw [h1]
      by_cases h0 : s.f.l.length = 0
      · rw [h0]; rfl
      · rw [beq_eq_false_iff_ne.2 h0, beq_eq_false_iff_ne.2 (show ¬ (s.f.l.length : Int) = 0 by omega)]; rfl)
    go_wp2_with fail
    go_ret
    exact ⟨by rw [HW.out]; rfl, HB2.out⟩
end Go.Proofs.YtgenmebmdpnjhaaGreat
