
/- The contract of filter.Right. -/
import Derived.Test.YtgenmebmdpnjhaaFilRow
namespace Go.Proofs.Ytgenmebmdpnjhaa
open Go.RowKit
set_option linter.unusedVariables false

namespace Fi
theorem range_at {n k : Nat} (h : k < n) : (List.range n)[k]? = some k := by rw [List.getElem?_range h]
theorem right_long {f : List Pt} (h : ¬ f.length ≤ 3) : right f = false := by unfold right; rw [decide_eq_false h]; rfl
theorem right_short {f : List Pt} (h : f.length ≤ 3) : right f = (List.range f.length).all (rightAt f) := by unfold right; rw [decide_eq_true h]; rfl
theorem at_zero {f : List Pt} {x : Pt} (h : f[0]? = some x) : rightAt f 0 = Pd.right x.p := by unfold rightAt; rw [h]; simp
theorem at_next {f : List Pt} {j : Nat} {x y : Pt} (h : f[j + 1]? = some x) (g : f[j]? = some y) : rightAt f (j + 1) = (Pd.right x.p && !Op.bytesLess x.p.name.toList y.p.name.toList) := by unfold rightAt; rw [h]; simp [g]
theorem at_wrong {f : List Pt} {k : Nat} {x : Pt} (h : f[k]? = some x) (g : Pd.right x.p = false) : rightAt f k = false := by unfold rightAt; rw [h]; simp [g]
end Fi

set_option maxRecDepth 100000 in
set_option maxHeartbeats 8000000 in
theorem fright_any {A : Option Addr} {n c : Nat} {l : List Pt} {w : World} (h : Ps w A n l) :
    Calls Try.prog 64 #[.slice A n c] w fun e w' => e = .returned (.bool (Fi.right l)) ∧ Below w.heap.size w w' := by
  obtain rfl := h.len.symm
  have hn := h.few
  have HA := Lib.hid h
  have hst := store_float
  clear h
  by_cases h3 : l.length ≤ 3
  case neg =>
    have HR := Lib.hid (Fi.right_long h3)
    have h3' : (l.length : Int) > 3 := by omega
    go_enter Try.func64, Try.ntmps64
    go_wp2_with fail
    go_ret
    exact ⟨by rw [HR.out]; rfl, Below.refl _ _⟩
  have HR := Lib.hid (Fi.right_short h3)
  have h3' : ¬ (l.length : Int) > 3 := by omega
  go_enter Try.func64, Try.ntmps64
  go_wp2_with fail
  go_loopw [10] (fun ii wr => ∃ k : Nat, k ≤ l.length ∧ ii = .int .i64 (k : Int) ∧ (List.range l.length).all (Fi.rightAt l) = ((List.range l.length).drop k).all (Fi.rightAt l) ∧ Below w.heap.size w wr) (fun ii _ => l.length - (intOf ii).toNat)
  case atStart => exact ⟨0, by omega, rfl, rfl, Below.refl _ _⟩
  case round =>
    obtain ⟨k, hk, rfl, hl, hB⟩ := hrel
    have HL := Lib.hid hl
    have HB := Lib.hid hB
    clear hl hB
    by_cases hlt : k < l.length
    · obtain ⟨g, o, y, rfl, hy, hi, hc, -⟩ := HA.out.cells HB.out hlt
      have HG := Lib.hid hc
      have HY := Lib.hid hy
      have HI := Lib.hid hi
      clear hy hi hc
      go_upto_region 6 with (first | (refine wpList_load_at rfl 109 _ rfl g (o + k * 13) y.cells _ rfl HG.out Try.underlying109 rfl prd_size ?_; dsimp only [Pt.cells]))
      have hn1 := one_new wr y.box
      have HB1 := Lib.hid (below_then HB.out hn1)
      have HI1 := Lib.hid (HI.out.later hn1)
      have HN := Lib.hid (heap_alloc_new wr y.box)
      clear hn1 HB HI HG
      dsimp only [Pt.box, Pt.cells] at HB1 HI1 HN
      generalize wr.heap.size = gp at HN ⊢
      generalize wr.alloc _ = w1 at HB1 HI1 HN ⊢
      have HG := Lib.hid (cells_row (cs := y.cells) HN.out)
      go_wp2_with (first | (refine wpList_load_at rfl 109 _ rfl gp 0 y.cells _ rfl HG.out Try.underlying109 rfl prd_size ?_; dsimp only [Pt.cells]) | fail)
      refine (pright_any HI1.out.is).mono ?_
      rintro e w2 ⟨rfl, hb⟩
      have HB2 := Lib.hid (below_then HB1.out hb)
      have HN2 := Lib.hid (below_row hb HN.out)
      clear hb HB1 HN HI1 HG
      cases hr : Pd.right y.p
      · have HM2 := Lib.hid (Fi.all_bad (f := Fi.rightAt l) (Fi.range_at hlt) (Fi.at_wrong HY.out hr))
        go_wp2_with fail
        go_ret
        exact ⟨by rw [HR.out, HM2.out]; rfl, HB2.out⟩
      have lc0 := fun x : Later w2 => later_cell (cell_of_row _ _ 0 _ _ _ HN2.out) x
      haveI := later_some w2
      rcases k with - | j
      · have HM2 := Lib.hid (Fi.all_good (f := Fi.rightAt l) (Fi.range_at hlt) HL.out ((Fi.at_zero HY.out).trans hr))
        go_upto_region 8 with fail
        refine wp_region_later (W := w2) (by kernel_rfl) (by kernel_rfl) (Below.refl _ _) ?_
        repeat (go_big_quiet_step (fail))
        refine wpQuiet_nil ?_
        rintro _ ⟨z, rfl⟩
        go_wp2_with fail
        exact ⟨⟨1, by omega, rfl, HM2.out, below_then HB2.out z.below⟩, by simp [intOf]; omega⟩
      · obtain ⟨g', o', y', hA', hy', hi', hc', -⟩ := HA.out.cells HB2.out (show j < l.length by omega)
        cases hA'
        have HY' := Lib.hid hy'
        have ld0 := fun x : Later w2 => later_cell (hc' 0 _ rfl) x
        rw [Nat.add_zero] at ld0
        have uj : IntKind.i64.wrap (((j + 1 : Nat) : Int) - 1) = (j : Int) := by rw [show ((j + 1 : Nat) : Int) - 1 = (j : Int) by omega]; exact IntWalk.i64_in _ (by omega)
        clear hy' hi' hc'
        cases hw : Op.bytesLess y.p.name.toList y'.p.name.toList
        · have HM2 := Lib.hid (Fi.all_good (f := Fi.rightAt l) (Fi.range_at hlt) HL.out ((Fi.at_next HY.out HY'.out).trans (by rw [hr, hw]; rfl)))
          go_upto_region 8 with fail
          refine wp_region_later (W := w2) (by kernel_rfl) (by kernel_rfl) (Below.refl _ _) ?_
          repeat (go_big_quiet_step (fail))
          refine wpQuiet_nil ?_
          rintro _ ⟨z, rfl⟩
          go_wp2_with fail
          exact ⟨⟨j + 1 + 1, by omega, rfl, HM2.out, below_then HB2.out z.below⟩, by simp [intOf]; omega⟩
        · have HM2 := Lib.hid (Fi.all_bad (f := Fi.rightAt l) (Fi.range_at hlt) ((Fi.at_next HY.out HY'.out).trans (by rw [hr, hw]; rfl)))
          go_upto_region 8 with fail
          refine wp_region_later (W := w2) (by kernel_rfl) (by kernel_rfl) (Below.refl _ _) ?_
          repeat (go_big_quiet_step (fail))
          refine wpQuiet_nil ?_
          rintro _ ⟨z, rfl⟩
          go_wp2_with fail
          go_ret
          exact ⟨by rw [HR.out, HM2.out]; rfl, below_then HB2.out z.below⟩
    · have HM2 := Lib.hid (Fi.all_end (l := List.range l.length) (by rw [List.length_range]; exact hlt) HL.out)
      go_wp2_with fail
      go_ret
      exact ⟨by rw [HR.out, HM2.out]; rfl, HB.out⟩
end Go.Proofs.Ytgenmebmdpnjhaa
