
/- The document's SameFilter: the same word as the landed one's (Fi.same). -/
import Derived.Test.YtfbfbajccphkoaaGreatFilLoop
import Derived.Test.YtfbfbajccphkoaaGreatRefVal
import Derived.Test.YtfbfbajccphkoaaGreatBase
namespace Go.Proofs.YtfbfbajccphkoaaGreat
open Go.RowKit
set_option linter.unusedVariables false

theorem rsamesf_l {A B : Option Addr} {n c n' c' : Nat} {l m : List Val} {W : World} {x : Later W} (h : Vs W A n l) (h' : Vs W B n' m) : Calls Tryz.prog 62 #[.slice A n c, .slice B n' c'] x.at_ fun e w' => e = .returned (.bool (Pd.sames l m)) ∧ ∃ y : Later W, w' = y.at_ := calls_later (rsames_any (h.later x.below) (h'.later x.below))
set_option maxRecDepth 100000 in
set_option maxHeartbeats 8000000 in
theorem rsamep_any {p q : Prd} {A B : Option Addr} {n c m d : Nat} {w : World} (h : IsPrd w p A n) (h' : IsPrd w q B m) : Calls Tryz.prog 36 #[pv p A n c, pv q B m d] w fun e w' => e = .returned (.bool (Pd.same p q)) ∧ Below w.heap.size w w' := by
  obtain ⟨W, hW1, hW, hB, hV⟩ := world_pp w p A n c q B m d
  have HL := Lib.hid (h.set.later hW)
  have HL' := Lib.hid (h'.set.later hW)
  have HW := Lib.hid hW
  have HW1 := Lib.hid hW1
  clear h h' hW hW1
  obtain ⟨c0, c1, c2, c3, c4, c5, c6, c7, c8, c9, c10, c11, c12⟩ := hB
  obtain ⟨d0, d1, d2, d3, d4, d5, d6, d7, d8, d9, d10, d11, d12⟩ := hV
  obtain ⟨pn, pt, pa, pw, pl⟩ := p
  obtain ⟨qn, qt, qa, qw, ql⟩ := q
  dsimp only at c0 c1 c2 c3 c4 c5 c6 c7 c8 c9 c10 c11 c12 d0 d1 d2 d3 d4 d5 d6 d7 d8 d9 d10 d11 d12 HL HL'
  haveI := later_some W
  unfold Pd.same Pd.sameT
  dsimp only
  cases hn : (pn.toList == qn.toList)
  · go_enter Tryz.func36, Tryz.ntmps36
    go_wp2_with fail
    go_ret
    exact ⟨ret_bool (by simp), below_then HW.out HW1.out⟩
  by_cases ht : pt = qt
  · subst ht
    go_enter Tryz.func36, Tryz.ntmps36
    go_wp2_with fail
    refine (calls_later (x := ⟨_, HW1.out⟩) (rvsame_v pa qa _)).mono ?_
    rintro e _ ⟨rfl, y, rfl⟩
    clear HW1
    cases h1 : Vl.same pa qa <;> cases h2 : Vl.same pw qw
    all_goals
      go_wp2_with (first | (go_at_call 61; refine (calls_later (rvsame_v pw qw _)).mono ?_; rintro e _ ⟨rfl, y, rfl⟩) | (go_at_call 62; refine (rsamesf_l HL.out HL'.out).mono ?_; rintro e _ ⟨rfl, y, rfl⟩) | fail)
      go_ret
      exact ⟨ret_bool (by simp [h1, h2]), below_then HW.out (Later.below _)⟩
  · go_enter Tryz.func36, Tryz.ntmps36
    go_wp2_with fail
    go_ret
    exact ⟨ret_bool (by simp [ht]), below_then HW.out HW1.out⟩

set_option pp.deepTerms true in
set_option pp.maxSteps 10000000 in
set_option maxRecDepth 100000 in
set_option maxHeartbeats 8000000 in
theorem rfsame_any {A B : Option Addr} {n c n' c' : Nat} {l m : List Pt} {w : World} (h : Ps w A n l) (h' : Ps w B n' m) :
    Calls Tryz.prog 14 #[.slice A n c, .slice B n' c'] w fun e w' => e = .returned (.bool (Fi.same l m)) ∧ Below w.heap.size w w' := by
  obtain rfl := h.len.symm
  obtain rfl := h'.len.symm
  have hn := h.few
  have hn' := h'.few
  have HA := Lib.hid h
  have HA' := Lib.hid h'
  clear h h'
  by_cases hlen : l.length = m.length
  case neg =>
    have HM := Lib.hid (Fi.other_len hlen)
    have hlen' : ¬ (l.length : Int) = (m.length : Int) := by omega
    go_enter Tryz.func14, Tryz.ntmps14
    go_wp2_with fail
    go_ret
    exact ⟨by rw [HM.out]; rfl, Below.refl _ _⟩
  have hme : m.length = l.length := hlen.symm
  rw [hme] at HA' hn' ⊢
  clear hlen
  go_enter Tryz.func14, Tryz.ntmps14
  go_wp2_with fail
  go_loopw [5] (fun ii wr => ∃ k : Nat, k ≤ l.length ∧ ii = .int .i64 (k : Int) ∧ Fi.same l m = Fi.same (l.drop k) (m.drop k) ∧ Below w.heap.size w wr) (fun ii _ => l.length - (intOf ii).toNat)
  case atStart => exact ⟨0, by omega, rfl, rfl, Below.refl _ _⟩
  case round =>
    obtain ⟨k, hk, rfl, hl, hB⟩ := hrel
    have HL := Lib.hid hl
    have HB := Lib.hid hB
    clear hl hB
    by_cases hlt : k < l.length
    · obtain ⟨g, o, y, rfl, hy, hi, hc, -⟩ := HA.out.cells HB.out hlt
      obtain ⟨g', o', y', rfl, hy', hi', hc', hg'⟩ := HA'.out.cells HB.out (hme.symm ▸ hlt)
      have HG := Lib.hid hc
      have HY := Lib.hid hy
      have HI := Lib.hid hi
      have HG' := Lib.hid hc'
      have HY' := Lib.hid hy'
      have HI' := Lib.hid hi'
      clear hy hi hc hy' hi' hc'
      have c0 := fun x : Later wr => later_cell (HG.out 0 _ rfl) x
      have c1 := fun x : Later wr => later_cell (HG.out 1 _ rfl) x
      have c2 := fun x : Later wr => later_cell (HG.out 2 _ rfl) x
      have c3 := fun x : Later wr => later_cell (HG.out 3 _ rfl) x
      have c4 := fun x : Later wr => later_cell (HG.out 4 _ rfl) x
      have c5 := fun x : Later wr => later_cell (HG.out 5 _ rfl) x
      have c6 := fun x : Later wr => later_cell (HG.out 6 _ rfl) x
      have c7 := fun x : Later wr => later_cell (HG.out 7 _ rfl) x
      have c8 := fun x : Later wr => later_cell (HG.out 8 _ rfl) x
      have c9 := fun x : Later wr => later_cell (HG.out 9 _ rfl) x
      have c10 := fun x : Later wr => later_cell (HG.out 10 _ rfl) x
      have c11 := fun x : Later wr => later_cell (HG.out 11 _ rfl) x
      have c12 := fun x : Later wr => later_cell (HG.out 12 _ rfl) x
      have d0 := fun x : Later wr => later_cell (HG'.out 0 _ rfl) x
      have d1 := fun x : Later wr => later_cell (HG'.out 1 _ rfl) x
      have d2 := fun x : Later wr => later_cell (HG'.out 2 _ rfl) x
      have d3 := fun x : Later wr => later_cell (HG'.out 3 _ rfl) x
      have d4 := fun x : Later wr => later_cell (HG'.out 4 _ rfl) x
      have d5 := fun x : Later wr => later_cell (HG'.out 5 _ rfl) x
      have d6 := fun x : Later wr => later_cell (HG'.out 6 _ rfl) x
      have d7 := fun x : Later wr => later_cell (HG'.out 7 _ rfl) x
      have d8 := fun x : Later wr => later_cell (HG'.out 8 _ rfl) x
      have d9 := fun x : Later wr => later_cell (HG'.out 9 _ rfl) x
      have d10 := fun x : Later wr => later_cell (HG'.out 10 _ rfl) x
      have d11 := fun x : Later wr => later_cell (HG'.out 11 _ rfl) x
      have d12 := fun x : Later wr => later_cell (HG'.out 12 _ rfl) x
      dsimp only [Nat.add_zero] at c0 d0
      have KS := Lib.hid (fun x : Later wr => rsamep_any (c := y.c) (d := y'.c) (HI.out.later x.below).is (HI'.out.later x.below).is)
      clear HG HG' HI HI'
      haveI := later_some wr
      cases hr : Pd.same y.p y'.p
      · have HM := Lib.hid (Fi.same_bad HY.out HY'.out HL.out hr)
        rw [hr] at KS
        go_wp2_with fail
        refine wp_region_later (W := wr) (by kernel_rfl) (by kernel_rfl) (Below.refl _ _) ?_
        repeat (go_big_quiet_step (first | (go_at_call 36; exact calls_later (KS.out _))))
        refine wpQuiet_nil ?_
        rintro _ ⟨x, rfl⟩
        go_wp2_with fail
        go_ret
        exact ⟨by rw [HM.out]; rfl, below_then HB.out x.below⟩
      · have HM := Lib.hid (Fi.same_good HY.out HY'.out HL.out hr)
        rw [hr] at KS
        go_wp2_with fail
        refine wp_region_later (W := wr) (by kernel_rfl) (by kernel_rfl) (Below.refl _ _) ?_
        repeat (go_big_quiet_step (first | (go_at_call 36; exact calls_later (KS.out _))))
        refine wpQuiet_nil ?_
        rintro _ ⟨x, rfl⟩
        go_wp2_with fail
        exact ⟨⟨k + 1, by omega, rfl, HM.out, below_then HB.out x.below⟩, by simp [intOf]; omega⟩
    · have HM := Lib.hid (Fi.same_end hlt hme HL.out)
      go_wp2_with fail
      go_ret
      exact ⟨by rw [HM.out]; rfl, HB.out⟩
end Go.Proofs.YtfbfbajccphkoaaGreat
