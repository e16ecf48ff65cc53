
/- The document's answers on filters: RightFilter, Takes, Covers, Any: the same words as the landed ones'. -/
import Derived.Test.YtfbfbajccphkoaaGreatFilRight
import Derived.Test.YtfbfbajccphkoaaGreatRefPrd3
import Derived.Test.YtfbfbajccphkoaaGreatRefFil
import Derived.Test.YtfbfbajccphkoaaGreatFeedFilter
namespace Go.Proofs.YtfbfbajccphkoaaGreat
open Go.RowKit
set_option linter.unusedVariables false

/-- The thirteen cells of a test, in each later world. -/
theorem pt_laters {wr : World} {g o : Nat} {y : Pt} (h : ∀ j u, y.cells[j]? = some u → wr.cell? ⟨g, o + j, none⟩ = some u) :
    (∀ x : Later wr, x.at_.cell? ⟨g, o, none⟩ = some (.string y.p.name)) ∧ (∀ x : Later wr, x.at_.cell? ⟨g, o + 1, none⟩ = some (.int .i64 y.p.t)) ∧
    (∀ x : Later wr, x.at_.cell? ⟨g, o + 2, none⟩ = some (.int .i64 y.p.v.k)) ∧ (∀ x : Later wr, x.at_.cell? ⟨g, o + 3, none⟩ = some (.int .i64 y.p.v.n)) ∧ (∀ x : Later wr, x.at_.cell? ⟨g, o + 4, none⟩ = some (.float .f64 y.p.v.x)) ∧ (∀ x : Later wr, x.at_.cell? ⟨g, o + 5, none⟩ = some (.string y.p.v.s)) ∧ (∀ x : Later wr, x.at_.cell? ⟨g, o + 6, none⟩ = some (.bool y.p.v.b)) ∧
    (∀ x : Later wr, x.at_.cell? ⟨g, o + 7, none⟩ = some (.int .i64 y.p.w.k)) ∧ (∀ x : Later wr, x.at_.cell? ⟨g, o + 8, none⟩ = some (.int .i64 y.p.w.n)) ∧ (∀ x : Later wr, x.at_.cell? ⟨g, o + 9, none⟩ = some (.float .f64 y.p.w.x)) ∧ (∀ x : Later wr, x.at_.cell? ⟨g, o + 10, none⟩ = some (.string y.p.w.s)) ∧ (∀ x : Later wr, x.at_.cell? ⟨g, o + 11, none⟩ = some (.bool y.p.w.b)) ∧
    (∀ x : Later wr, x.at_.cell? ⟨g, o + 12, none⟩ = some (.slice y.A y.p.set.length y.c)) :=
  ⟨later_cell (h 0 _ rfl), later_cell (h 1 _ rfl), later_cell (h 2 _ rfl), later_cell (h 3 _ rfl), later_cell (h 4 _ rfl), later_cell (h 5 _ rfl), later_cell (h 6 _ rfl), later_cell (h 7 _ rfl), later_cell (h 8 _ rfl), later_cell (h 9 _ rfl), later_cell (h 10 _ rfl), later_cell (h 11 _ rfl), later_cell (h 12 _ rfl)⟩

set_option maxRecDepth 100000 in
set_option maxHeartbeats 8000000 in
theorem rfright_any {A : Option Addr} {n c : Nat} {l : List Pt} {w : World} (h : Ps w A n l) :
    Calls Tryz.prog 10 #[.slice A n c] w fun e w' => e = .returned (.bool (Fi.right l)) ∧ Below w.heap.size w w' := by
  obtain rfl := h.len.symm
  have hn := h.few
  have HA := Lib.hid h
  clear h
  go_enter Tryz.func10, Tryz.ntmps10
  go_wp2_with fail
  go_loopw [3] (fun ii wr => ∃ k : Nat, k ≤ l.length ∧ ii = .int .i64 (k : Int) ∧ (List.range l.length).all (Fi.rightAt l) = ((List.range l.length).drop k).all (Fi.rightAt l) ∧ Below w.heap.size w wr) (fun ii _ => l.length - (intOf ii).toNat)
  case atStart => exact ⟨0, by omega, rfl, rfl, Below.refl _ _⟩
  case round =>
    obtain ⟨k, hk, rfl, hl, hB⟩ := hrel
    have HL := Lib.hid hl
    have HB := Lib.hid hB
    clear hl hB
    by_cases hlt : k < l.length
    · obtain ⟨g, o, y, rfl, hy, hi, hc, -⟩ := HA.out.cells HB.out hlt
      have HY := Lib.hid hy
      have HI := Lib.hid hi
      obtain ⟨c0, c1, c2, c3, c4, c5, c6, c7, c8, c9, c10, c11, c12⟩ := pt_laters hc
      have KS := Lib.hid (fun x : Later wr => rpright_any (c := y.c) (HI.out.later x.below).is)
      clear hy hi hc HI
      haveI := later_some wr
      cases hr : Pd.right y.p
      · have HM := Lib.hid (Fi.all_bad (f := Fi.rightAt l) (Fi.range_at hlt) (Fi.at_wrong HY.out hr))
        rw [hr] at KS
        go_wp2_with fail
        refine wp_region_later (W := wr) (by kernel_rfl) (by kernel_rfl) (Below.refl _ _) ?_
        repeat (go_big_quiet_step (first | (go_at_call 29; exact calls_later (KS.out _))))
        refine wpQuiet_nil ?_
        rintro _ ⟨x, rfl⟩
        go_wp2_with fail
        go_ret
        exact ⟨by rw [Fi.right, HM.out]; simp, below_then HB.out x.below⟩
      rw [hr] at KS
      rcases k with - | j
      · simp only [Nat.zero_mul, Nat.add_zero] at c0 c1 c2 c3 c4 c5 c6 c7 c8 c9 c10 c11 c12
        have HM := Lib.hid (Fi.all_good (f := Fi.rightAt l) (Fi.range_at hlt) HL.out ((Fi.at_zero HY.out).trans hr))
        go_wp2_with fail
        refine wp_region_later (W := wr) (by kernel_rfl) (by kernel_rfl) (Below.refl _ _) ?_
        repeat (go_big_quiet_step (first | (go_at_call 29; exact calls_later (KS.out _))))
        refine wpQuiet_nil ?_
        rintro _ ⟨x, rfl⟩
        go_wp2_with fail
        exact ⟨⟨1, by omega, rfl, HM.out, below_then HB.out x.below⟩, by simp [intOf]; omega⟩
      · obtain ⟨g', o', y', hA', hy', hi', hc', -⟩ := HA.out.cells HB.out (show j < l.length by omega)
        cases hA'
        have HY' := Lib.hid hy'
        have d0 := fun x : Later wr => later_cell (hc' 0 _ rfl) x
        rw [Nat.add_zero] at d0
        have uj : IntKind.i64.wrap (((j + 1 : Nat) : Int) - 1) = (j : Int) := by rw [show ((j + 1 : Nat) : Int) - 1 = (j : Int) by omega]; exact IntWalk.i64_in _ (by omega)
        have up : decide (((j + 1 : Nat) : Int) > 0) = true := decide_eq_true (by omega)
        clear hy' hi' hc'
        have hw := Fi.less_gt y'.p.name.toList y.p.name.toList
        cases h1 : Op.bytesLess y'.p.name.toList y.p.name.toList <;> cases h2 : (y'.p.name.toList == y.p.name.toList)
        all_goals rw [h1, h2] at hw
        case false.false =>
          have HM := Lib.hid (Fi.all_bad (f := Fi.rightAt l) (Fi.range_at hlt) ((Fi.at_next HY.out HY'.out).trans (by rw [hr, ← hw]; rfl)))
          clear hw
          go_wp2_with fail
          refine wp_region_later (W := wr) (by kernel_rfl) (by kernel_rfl) (Below.refl _ _) ?_
          repeat (go_big_quiet_step (first | (go_at_call 29; exact calls_later (KS.out _))))
          refine wpQuiet_nil ?_
          rintro _ ⟨x, rfl⟩
          go_wp2_with fail
          go_ret
          exact ⟨by rw [Fi.right, HM.out]; simp, below_then HB.out x.below⟩
        all_goals
          have HM := Lib.hid (Fi.all_good (f := Fi.rightAt l) (Fi.range_at hlt) HL.out ((Fi.at_next HY.out HY'.out).trans (by rw [hr, ← hw]; rfl)))
          clear hw
          go_wp2_with fail
          refine wp_region_later (W := wr) (by kernel_rfl) (by kernel_rfl) (Below.refl _ _) ?_
          repeat (go_big_quiet_step (first | (go_at_call 29; exact calls_later (KS.out _))))
          refine wpQuiet_nil ?_
          rintro _ ⟨x, rfl⟩
          go_wp2_with fail
          exact ⟨⟨j + 1 + 1, by omega, rfl, HM.out, below_then HB.out x.below⟩, by simp [intOf]; omega⟩
    · have HM := Lib.hid (Fi.all_end (l := List.range l.length) (by rw [List.length_range]; exact hlt) HL.out)
      have e : decide ((l.length : Int) ≤ 3) = decide (l.length ≤ 3) := by by_cases h3 : l.length ≤ 3 <;> simp [h3] <;> omega
      have HE := Lib.hid e
      clear e
      go_wp2_with fail
      go_ret
      exact ⟨by rw [Fi.right, HM.out, HE.out]; simp, HB.out⟩

set_option maxRecDepth 100000 in
set_option maxHeartbeats 8000000 in
theorem rftakes_any {A B : Option Addr} {n c n' c' : Nat} {l : List Pt} {a : List Att} {w : World} (h : Ps w A n l) (h' : Ats w B n' a) (hfit : ∀ x, x ∈ a → Fit x.v) :
    Calls Tryz.prog 12 #[.slice A n c, .slice B n' c'] w fun e w' => e = .returned (.bool (Fi.takes l a)) ∧ Below w.heap.size w w' := by
  obtain rfl := h.len.symm
  have hn := h.few
  have HA := Lib.hid h
  have HM := Lib.hid h'
  have HF := Lib.hid hfit
  have hst := store_float
  clear h h' hfit
  go_enter Tryz.func12, Tryz.ntmps12
  go_wp2_with fail
  go_loopw [5] (fun ii wr => ∃ k : Nat, k ≤ l.length ∧ ii = .int .i64 (k : Int) ∧ Fi.takes l a = (l.drop k).all (fun p => Fi.takes1 a p.p) ∧ Below w.heap.size w wr) (fun ii _ => l.length - (intOf ii).toNat)
  case atStart => exact ⟨0, by omega, rfl, rfl, Below.refl _ _⟩
  case round =>
    obtain ⟨k, hk, rfl, hl, hB⟩ := hrel
    have HL := Lib.hid hl
    have HB := Lib.hid hB
    clear hl hB
    by_cases hlt : k < l.length
    · obtain ⟨g, o, y, rfl, hy, hi, hc, -⟩ := HA.out.cells HB.out hlt
      have HG := Lib.hid hc
      have HY := Lib.hid hy
      have HI := Lib.hid hi
      have c0 := hc 0 _ rfl
      rw [Nat.add_zero] at c0
      clear hy hi hc
      go_wp2_with fail
      refine (rget_any (s := y.p.name) (HM.out.later HB.out)).mono ?_
      rintro e w2 ⟨rfl, hb⟩
      have HB2 := Lib.hid (below_then HB.out hb)
      have HI2 := Lib.hid (HI.out.later hb)
      have HG2 : Hid (∀ j u, y.cells[j]? = some u → w2.cell? ⟨g, o + k * 13 + j, none⟩ = some u) := fun j u hj => (hb.cell (cell_lt (HG.out j u hj))).trans (HG.out j u hj)
      clear hb HB HI HG c0
      unfold gotv
      have hft := got_fit HF.out y.p.name
      have ht : Fi.takes1 a y.p = (At.has a y.p.name && (Pd.right y.p && Pd.takes y.p (At.got a y.p.name))) := rfl
      generalize At.got a y.p.name = v at hft ht ⊢
      generalize At.has a y.p.name = b at ht ⊢
      have HFV := Lib.hid hft
      clear hft
      obtain ⟨vk, vn, vx, vs, vb⟩ := v
      go_upto_region 5 with fail
      have hn1 := one_new w2 (vbox ⟨vk, vn, vx, vs, vb⟩)
      have HB3 := Lib.hid (below_then HB2.out hn1)
      have HI3 := Lib.hid (HI2.out.later hn1)
      have HG3 : Hid (∀ j u, y.cells[j]? = some u → (w2.alloc (vbox ⟨vk, vn, vx, vs, vb⟩)).cell? ⟨g, o + k * 13 + j, none⟩ = some u) := fun j u hj => (hn1.cell (cell_lt (HG2.out j u hj))).trans (HG2.out j u hj)
      have HV := Lib.hid (heap_alloc_new w2 (vbox ⟨vk, vn, vx, vs, vb⟩))
      clear hn1 HB2 HI2 HG2
      dsimp only [vbox] at HB3 HI3 HG3 HV
      generalize w2.heap.size = gv at HV ⊢
      generalize w2.alloc _ = w3 at HB3 HI3 HG3 HV ⊢
      have HV : Hid (w3.heap[gv]? = some (vbox ⟨vk, vn, vx, vs, vb⟩)) := HV
      have hg3 : ∀ j u, y.cells[j]? = some u → w3.cell? ⟨g, o + k * 13 + j, none⟩ = some u := HG3.out
      clear HG3
      haveI := later_some w3
      cases b
      · have HM2 := Lib.hid (Fi.all_bad (f := fun p : Pt => Fi.takes1 a p.p) HY.out ht)
        refine wp_region_later (W := w3) (by kernel_rfl) (by kernel_rfl) (Below.refl _ _) ?_
        repeat (go_big_quiet_step (fail))
        refine wpQuiet_nil ?_
        rintro _ ⟨x, rfl⟩
        go_wp2_with fail
        go_ret
        exact ⟨by rw [show Fi.takes l a = false from HM2.out]; rfl, below_then HB3.out x.below⟩
      · obtain ⟨c0, c1, c2, c3, c4, c5, c6, c7, c8, c9, c10, c11, c12⟩ := pt_laters hg3
        have a0 := fun x : Later w3 => later_cell (cell_of_row _ _ 0 _ _ _ HV.out) x
        have a1 := fun x : Later w3 => later_cell (cell_of_row _ _ 1 _ _ _ HV.out) x
        have a2 := fun x : Later w3 => later_cell (cell_of_row _ _ 2 _ _ _ HV.out) x
        have a3 := fun x : Later w3 => later_cell (cell_of_row _ _ 3 _ _ _ HV.out) x
        have a4 := fun x : Later w3 => later_cell (cell_of_row _ _ 4 _ _ _ HV.out) x
        have KS := Lib.hid (fun x : Later w3 => rtakes_any (c := y.c) (v := ⟨vk, vn, vx, vs, vb⟩) (HI3.out.later x.below).is HFV.out)
        clear hg3 HI3
        cases hr : (Pd.right y.p && Pd.takes y.p ⟨vk, vn, vx, vs, vb⟩)
        · have HM2 := Lib.hid (Fi.all_bad (f := fun p : Pt => Fi.takes1 a p.p) HY.out (ht.trans (by rw [hr]; rfl)))
          rw [hr] at KS
          refine wp_region_later (W := w3) (by kernel_rfl) (by kernel_rfl) (Below.refl _ _) ?_
          repeat (go_big_quiet_step (first | (go_at_call 33; exact calls_later (KS.out _))))
          refine wpQuiet_nil ?_
          rintro _ ⟨x, rfl⟩
          go_wp2_with fail
          go_ret
          exact ⟨by rw [show Fi.takes l a = false from HM2.out]; rfl, below_then HB3.out x.below⟩
        · have HM2 := Lib.hid (Fi.all_good (f := fun p : Pt => Fi.takes1 a p.p) HY.out HL.out (ht.trans (by rw [hr]; rfl)))
          rw [hr] at KS
          refine wp_region_later (W := w3) (by kernel_rfl) (by kernel_rfl) (Below.refl _ _) ?_
          repeat (go_big_quiet_step (first | (go_at_call 33; exact calls_later (KS.out _))))
          refine wpQuiet_nil ?_
          rintro _ ⟨x, rfl⟩
          go_wp2_with fail
          exact ⟨⟨k + 1, by omega, rfl, HM2.out, below_then HB3.out x.below⟩, by simp [intOf]; omega⟩
    · have HM2 := Lib.hid (Fi.all_end hlt HL.out)
      go_wp2_with fail
      go_ret
      exact ⟨by rw [show Fi.takes l a = true from HM2.out]; rfl, HB.out⟩

set_option maxRecDepth 100000 in
set_option maxHeartbeats 8000000 in
theorem rfany_any {A B : Option Addr} {n c n' c' : Nat} {L : List Ft} {a : List Att} {w : World} (h : Fs w A n L) (h' : Ats w B n' a) (hfit : ∀ x, x ∈ a → Fit x.v) :
    Calls Tryz.prog 20 #[.slice A n c, .slice B n' c'] w fun e w' => e = .returned (.bool (Fi.any L a)) ∧ Below w.heap.size w w' := by
  obtain rfl := h.len.symm
  have hn := h.few
  have HA := Lib.hid h
  have HM := Lib.hid h'
  have HF := Lib.hid hfit
  clear h h' hfit
  go_enter Tryz.func20, Tryz.ntmps20
  go_wp2_with fail
  go_loopw [5] (fun ii wr => ∃ k : Nat, k ≤ L.length ∧ ii = .int .i64 (k : Int) ∧ Fi.any L a = (L.drop k).any (fun f => Fi.takes f.l a) ∧ Below w.heap.size w wr) (fun ii _ => L.length - (intOf ii).toNat)
  case atStart => exact ⟨0, by omega, rfl, rfl, Below.refl _ _⟩
  case round =>
    obtain ⟨k, hk, rfl, hl, hB⟩ := hrel
    have HL := Lib.hid hl
    have HB := Lib.hid hB
    clear hl hB
    by_cases hlt : k < L.length
    · obtain ⟨g, o, f, rfl, hf, hi, hc⟩ := HA.out.cells HB.out hlt
      have HY := Lib.hid hf
      have HI := Lib.hid hi
      clear hf hi
      go_wp2_with fail
      refine (rftakes_any HI.out.ps (HM.out.later HB.out) HF.out).mono ?_
      rintro e w2 ⟨rfl, hb⟩
      have HB2 := Lib.hid (below_then HB.out hb)
      clear hb hc
      cases hr : Fi.takes f.l a
      · have HM2 := Lib.hid (Fi.any_bad (f := fun f : Ft => Fi.takes f.l a) HY.out HL.out hr)
        go_wp2_with fail
        exact ⟨⟨k + 1, by omega, rfl, HM2.out, HB2.out⟩, by simp [intOf]; omega⟩
      · have HM2 : Hid (Fi.any L a = true) := Fi.any_good (f := fun f : Ft => Fi.takes f.l a) HY.out hr
        go_wp2_with fail
        go_ret
        exact ⟨by rw [HM2.out]; rfl, HB2.out⟩
    · have HM2 := Lib.hid (Fi.any_end hlt HL.out)
      go_wp2_with fail
      go_ret
      exact ⟨by rw [show Fi.any L a = false from HM2.out]; rfl, HB.out⟩

namespace Fi
theorem found_next {α : Type} {l : List α} {f : α → Bool} {k : Nat} {a : α} {b t : Bool} (h : l[k]? = some a) (hp : t = (b || (l.drop k).any f)) : t = ((b || f a) || (l.drop (k + 1)).any f) := by
  rw [hp, drop_at h, List.any_cons, Bool.or_assoc]
theorem found_end {α : Type} {l : List α} {f : α → Bool} {k : Nat} {b t : Bool} (h : ¬ k < l.length) (hp : t = (b || (l.drop k).any f)) : b = t := by
  rw [hp, List.drop_eq_nil_of_le (by omega)]; simp
end Fi
set_option maxRecDepth 100000 in
set_option maxHeartbeats 16000000 in
theorem rfcovers_any {A B : Option Addr} {n c n' c' : Nat} {l m : List Pt} {w : World} (h : Ps w A n l) (h' : Ps w B n' m) :
    Calls Tryz.prog 16 #[.slice A n c, .slice B n' c'] w fun e w' => e = .returned (.bool (Fi.covers l m)) ∧ Below w.heap.size w w' := by
  obtain rfl := h.len.symm
  obtain rfl := h'.len.symm
  have hn := h.few
  have hn' := h'.few
  have HA := Lib.hid h
  have HM := Lib.hid h'
  have hst := store_float
  clear h h'
  go_enter Tryz.func16, Tryz.ntmps16
  go_wp2_with fail
  go_loopw [5] (fun ii wr => ∃ k : Nat, k ≤ m.length ∧ ii = .int .i64 (k : Int) ∧ Fi.void m = (m.drop k).any (fun q => Pd.right q.p && Pd.void q.p) ∧ Below w.heap.size w wr) (fun ii _ => m.length - (intOf ii).toNat)
  case atStart => exact ⟨0, by omega, rfl, rfl, Below.refl _ _⟩
  case round =>
    obtain ⟨k, hk, rfl, hl, hB⟩ := hrel
    have HL := Lib.hid hl
    have HB := Lib.hid hB
    clear hl hB
    by_cases hlt : k < m.length
    · obtain ⟨g, o, y, rfl, hy, hi, hc, -⟩ := HM.out.cells HB.out hlt
      have HG := Lib.hid hc
      have HY := Lib.hid hy
      have HI := Lib.hid hi
      clear hy hi hc
      go_wp2_with (first | (refine wpList_load_at rfl 48 _ rfl g (o + k * 13) y.cells _ rfl HG.out Tryz.underlying48 rfl prd_size ?_; dsimp only [Pt.cells]) | fail)
      refine (rvoid_any (c := y.c) HI.out.is).mono ?_
      rintro e w2 ⟨rfl, hb⟩
      have HB2 := Lib.hid (below_then HB.out hb)
      clear hb
      cases hr : (Pd.right y.p && Pd.void y.p)
      · have HM2 := Lib.hid (Fi.any_bad (f := fun q : Pt => Pd.right q.p && Pd.void q.p) HY.out HL.out hr)
        go_wp2_with fail
        exact ⟨⟨k + 1, by omega, rfl, HM2.out, HB2.out⟩, by simp [intOf]; omega⟩
      · have HV : Hid (Fi.void m = true) := Fi.any_good (f := fun q : Pt => Pd.right q.p && Pd.void q.p) HY.out hr
        go_wp2_with fail
        go_ret
        exact ⟨by rw [Fi.covers, HV.out]; rfl, HB2.out⟩
    · have hv : Fi.void m = false := Fi.any_end hlt HL.out
      have HC : Hid (Fi.covers l m = l.all fun p => Fi.implied p.p m) := by unfold Fi.covers; rw [hv]; rfl
      clear hv
      go_wp2_with fail
      go_loopw [6] (fun ii wx => ∃ k : Nat, k ≤ l.length ∧ ii = .int .i64 (k : Int) ∧ (l.all fun p => Fi.implied p.p m) = (l.drop k).all (fun p => Fi.implied p.p m) ∧ Below w.heap.size w wx) (fun ii _ => l.length - (intOf ii).toNat)
      case atStart => exact ⟨0, by omega, rfl, rfl, HB.out⟩
      case round =>
        obtain ⟨i, hi, rfl, hl, hB⟩ := hrel
        clear HL HB
        have HL := Lib.hid hl
        have HB := Lib.hid hB
        clear hl hB
        by_cases hlti : i < l.length
        · obtain ⟨g, o, y, rfl, hy, hii, hc, -⟩ := HA.out.cells HB.out hlti
          have HY := Lib.hid hy
          have HI := Lib.hid hii
          have HG := Lib.hid hc
          clear hy hii hc
          go_wp2_with fail
          go_loopw [7, 8] (fun vv ii wx => ∃ (b : Bool) (q : Nat), q ≤ m.length ∧ vv = .bool b ∧ ii = .int .i64 (q : Int) ∧ Fi.implied y.p m = (b || (m.drop q).any (fun z => (z.p.name.toList == y.p.name.toList) && Pd.implies z.p y.p)) ∧ Below w.heap.size w wx ∧ IsPt wx y ∧ (∀ j u, y.cells[j]? = some u → wx.cell? ⟨g, o + i * 13 + j, none⟩ = some u)) (fun _ ii _ => m.length - (intOf ii).toNat)
          case atStart => exact ⟨false, 0, by omega, rfl, rfl, rfl, HB.out, HI.out, HG.out⟩
          case round =>
            obtain ⟨b, q, hq, rfl, rfl, hl, hB, hI, hG⟩ := hrel
            clear HB HI HG
            have HF := Lib.hid hl
            have HB := Lib.hid hB
            have HI := Lib.hid hI
            clear hl hB hI
            by_cases hltq : q < m.length
            · obtain ⟨g', o', z, rfl, hz, hzi, hzc, -⟩ := HM.out.cells HB.out hltq
              have HN := Lib.hid (Fi.found_next (f := fun z : Pt => (z.p.name.toList == y.p.name.toList) && Pd.implies z.p y.p) hz HF.out)
              have HZI := Lib.hid hzi
              have hGl : ∀ v : Later wr, ∀ j u, y.cells[j]? = some u → v.at_.cell? ⟨g, o + i * 13 + j, none⟩ = some u := fun v j u hj => later_cell (hG j u hj) v
              have HGL := Lib.hid hGl
              obtain ⟨c0, c1, c2, c3, c4, c5, c6, c7, c8, c9, c10, c11, c12⟩ := pt_laters hG
              obtain ⟨d0, d1, d2, d3, d4, d5, d6, d7, d8, d9, d10, d11, d12⟩ := pt_laters hzc
              have KS := Lib.hid (fun v : Later wr => rimplies_any (c := z.c) (d := y.c) (HZI.out.later v.below).is (HI.out.later v.below).is)
              clear hz hzi hzc hG hGl HZI
              haveI := later_some wr
              cases b
              · cases hw : (z.p.name.toList == y.p.name.toList)
                · dsimp only [Hid] at HN
                  rw [hw] at HN
                  go_wp2_with fail
                  refine wp_region_later (W := wr) (by kernel_rfl) (by kernel_rfl) (Below.refl _ _) ?_
                  repeat (go_big_quiet_step (fail))
                  refine wpQuiet_nil ?_
                  rintro _ ⟨x, rfl⟩
                  go_wp2_with fail
                  exact ⟨⟨false, q + 1, by omega, rfl, rfl, HN, below_then HB.out x.below, HI.out.later x.below, HGL.out x⟩, by simp [intOf]; omega⟩
                · dsimp only [Hid] at HN
                  rw [hw] at HN
                  have HN' := Lib.hid HN
                  clear HN
                  generalize Pd.implies z.p y.p = r at KS HN'
                  go_wp2_with fail
                  refine wp_region_later (W := wr) (by kernel_rfl) (by kernel_rfl) (Below.refl _ _) ?_
                  repeat (go_big_quiet_step (first | (go_at_call 41; exact calls_later (KS.out _))))
                  refine wpQuiet_nil ?_
                  rintro _ ⟨x, rfl⟩
                  go_wp2_with fail
                  exact ⟨⟨r, q + 1, by omega, rfl, rfl, by have := HN'.out; simpa using this, below_then HB.out x.below, HI.out.later x.below, HGL.out x⟩, by simp [intOf]; omega⟩
              · have HT := Lib.hid HF.out
                go_wp2_with fail
                refine wp_region_later (W := wr) (by kernel_rfl) (by kernel_rfl) (Below.refl _ _) ?_
                repeat (go_big_quiet_step (fail))
                refine wpQuiet_nil ?_
                rintro _ ⟨x, rfl⟩
                go_wp2_with fail
                exact ⟨⟨true, q + 1, by omega, rfl, rfl, by rw [HT.out]; simp, below_then HB.out x.below, HI.out.later x.below, HGL.out x⟩, by simp [intOf]; omega⟩
            · have hb := Fi.found_end hltq HF.out
              cases b
              · have HM2 := Lib.hid (Fi.all_bad (f := fun p : Pt => Fi.implied p.p m) HY.out hb.symm)
                clear hb
                go_wp2_with fail
                go_ret
                exact ⟨by rw [HC.out, HM2.out]; rfl, HB.out⟩
              · have HM2 := Lib.hid (Fi.all_good (f := fun p : Pt => Fi.implied p.p m) HY.out HL.out hb.symm)
                clear hb
                go_wp2_with fail
                exact ⟨⟨i + 1, by omega, rfl, HM2.out, HB.out⟩, by simp [intOf]; omega⟩
        · have HM2 := Lib.hid (Fi.all_end hlti HL.out)
          go_wp2_with fail
          go_ret
          exact ⟨by rw [HC.out, HM2.out]; rfl, HB.out⟩
end Go.Proofs.YtfbfbajccphkoaaGreat
