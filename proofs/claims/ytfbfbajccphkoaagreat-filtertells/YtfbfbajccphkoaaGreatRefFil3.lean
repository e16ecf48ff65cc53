
/- The document's Reduce: the same row, of the filters themselves. -/
import Derived.Test.YtfbfbajccphkoaaGreatRefFil2
import Derived.Test.YtfbfbajccphkoaaGreatFilReduce
namespace Go.Proofs.YtfbfbajccphkoaaGreat
open Go.RowKit
set_option linter.unusedVariables false

/-- How the document's Reduce ends: a row of its own, of such filters as were handed in. -/
def RefRow (L : List Ft) (w : World) (e : Ending) (w' : World) : Prop :=
  ∃ v : Value, e = .returned v ∧ OwnF w.heap.size w' v (Fi.reduce L) ∧ Below w.heap.size w w'
namespace Fi
theorem kept_next {α : Type} {l : List α} {p : α → Bool} {k : Nat} {a : α} (h : l[k]? = some a) : (l.take (k + 1)).filter p = (l.take k).filter p ++ (if p a then [a] else []) := by
  rw [List.take_add_one, h, List.filter_append]
  simp [List.filter_cons]
end Fi
theorem OwnW.fs {B : Nat} {w : World} {A : Option Addr} {n c : Nat} {L : List Ft} (h : OwnF B w (.slice A n c) L) (he : ∀ f, f ∈ L → IsFt w f) (hl : L.length ≤ 9000) : n = L.length ∧ Fs w A L.length L := by
  obtain ⟨A', c', e, -, -, hr, -, -, -⟩ := h.reads
  cases e
  exact ⟨rfl, hr, he, by omega⟩

set_option maxRecDepth 100000 in
set_option maxHeartbeats 16000000 in
theorem rfreduce_any {A : Option Addr} {n c : Nat} {L : List Ft} {w : World} (h : Fs w A n L) (hn : L.length ≤ 900) :
    Calls Tryz.prog 22 #[.slice A n c] w (RefRow L w) := by
  obtain rfl := h.len.symm
  have HP := Lib.hid h
  clear h
  go_enter Tryz.func22, Tryz.ntmps22
  go_wp2_with fail
  go_loopw [3, 4] (fun v ii wr => ∃ k : Nat, k ≤ L.length ∧ ii = .int .i64 (k : Int) ∧ OwnF w.heap.size wr v (Fi.reduce (L.take k)) ∧ Below w.heap.size w wr) (fun _ ii _ => L.length - (intOf ii).toNat)
  case atStart => exact ⟨0, by omega, rfl, OwnW.nil _ _ _ (Nat.le_refl _), Below.refl _ _⟩
  case round =>
    obtain ⟨k, hk, rfl, hO, hB⟩ := hrel
    have HB := Lib.hid hB
    have HO := Lib.hid hO
    clear hO hB
    by_cases hlt : k < L.length
    · obtain ⟨g, o, f, rfl, hf, hi, hcell⟩ := HP.out.cells HB.out hlt
      have hfL := List.mem_of_getElem? hf
      have hisf := HP.out.each f hfL
      have hstep := Fi.reduce_next hf
      have hrow : ∀ y, y ∈ Fi.reduce (L.take k) → y ∈ L := fun y hy => List.mem_of_mem_take (Fi.reduce_mem hy)
      have hrl : (Fi.reduce (L.take k)).length ≤ 900 := by have := Fi.reduce_len (L.take k); rw [List.length_take] at this; omega
      have HSt := Lib.hid hstep
      generalize Fi.reduce (L.take k) = row at HO HSt hrow hrl
      have HRow := Lib.hid hrow
      have HF := Lib.hid hisf
      have HFC := Lib.hid hcell
      clear hi hf hstep hrow hisf hcell
      obtain ⟨A1, c1, hv1, -, -, hr1, -, -, -⟩ := HO.out.reads
      have HFS : Hid (Fs wr A1 row.length row) := ⟨hr1, fun y hy => (HP.out.each y (HRow.out y hy)).later HB.out, by omega⟩
      have HI : Hid (IsFt wr f) := HF.out.later HB.out
      subst hv1
      clear hr1
      go_wp2_with fail
      go_loopw [5, 6] (fun vv ii wx => ∃ (b : Bool) (q : Nat), q ≤ row.length ∧ vv = .bool b ∧ ii = .int .i64 (q : Int) ∧ Fi.covered f row = (b || (row.drop q).any (fun g => Fi.covers g.l f.l)) ∧ Below wr.heap.size wr wx) (fun _ ii _ => row.length - (intOf ii).toNat)
      case atStart => exact ⟨false, 0, by omega, rfl, rfl, rfl, Below.refl _ _⟩
      case round =>
        obtain ⟨b, q, hq, rfl, rfl, hl, hb⟩ := hrel
        have HL := Lib.hid hl
        have HB1 := Lib.hid hb
        clear hl hb
        by_cases hltq : q < row.length
        · obtain ⟨g', o', y, rfl, hy, hyi, hyc⟩ := HFS.out.cells HB1.out hltq
          have HN := Lib.hid (Fi.found_next (f := fun g : Ft => Fi.covers g.l f.l) hy HL.out)
          have hfc := (HB1.out.cell (cell_lt HFC.out)).trans HFC.out
          have KS := Lib.hid (fun x : Later wr => rfcovers_any (c := y.c) (c' := f.c) (hyi.later x.below).ps ((HI.out.later HB1.out).later x.below).ps)
          have l1 := fun x : Later wr => later_cell hyc x
          have l2 := fun x : Later wr => later_cell hfc x
          clear hy hyi hyc hfc
          haveI := later_some wr
          cases b
          · generalize Fi.covers y.l f.l = r at KS HN
            go_wp2_with fail
            refine wp_region_later (W := wr) (by kernel_rfl) (by kernel_rfl) (Below.refl _ _) ?_
            repeat (go_big_quiet_step (first | (go_at_call 16; exact calls_later (KS.out _))))
            refine wpQuiet_nil ?_
            rintro _ ⟨x, rfl⟩
            go_wp2_with fail
            exact ⟨⟨r, q + 1, by omega, rfl, rfl, by have := HN.out; simpa using this, below_then HB1.out x.below⟩, by simp [intOf]; omega⟩
          · go_wp2_with fail
            refine wp_region_later (W := wr) (by kernel_rfl) (by kernel_rfl) (Below.refl _ _) ?_
            repeat (go_big_quiet_step (fail))
            refine wpQuiet_nil ?_
            rintro _ ⟨x, rfl⟩
            go_wp2_with fail
            exact ⟨⟨true, q + 1, by omega, rfl, rfl, by rw [HL.out]; simp, below_then HB1.out x.below⟩, by simp [intOf]; omega⟩
        · have hb := Fi.found_end hltq HL.out
          cases b
          · have hst : Fi.step row f = row.filter (Fi.stays f) ++ [f] := by unfold Fi.step; rw [← hb]; rfl
            have HST := Lib.hid hst
            have HB2 := Lib.hid (below_then HB.out HB1.out)
            have HO2 := Lib.hid (HO.out.later HB1.out)
            have HFS2 := Lib.hid (HFS.out.later HB1.out)
            have HI2 := Lib.hid (HI.out.later HB1.out)
            have HFC2 := Lib.hid ((HB1.out.cell (cell_lt HFC.out)).trans HFC.out)
            clear hst hb HL HB1 HB HO HFS HI HFC
            go_wp2_with fail
            go_loopw [7, 8] (fun v2 ii wx => ∃ q : Nat, q ≤ row.length ∧ ii = .int .i64 (q : Int) ∧ OwnF wr.heap.size wx v2 ((row.take q).filter (Fi.stays f)) ∧ Below wr.heap.size wr wx) (fun _ ii _ => row.length - (intOf ii).toNat)
            case atStart => exact ⟨0, by omega, rfl, OwnW.nil _ _ _ (Nat.le_refl _), Below.refl _ _⟩
            case round =>
              obtain ⟨q, hq, rfl, hO3, hb⟩ := hrel
              have HO3 := Lib.hid hO3
              have HB3 := Lib.hid hb
              clear hO3 hb
              have hfl : ((row.take q).filter (Fi.stays f)).length ≤ row.length := by have := List.length_filter_le (Fi.stays f) (row.take q); rw [List.length_take] at this; omega
              by_cases hltq : q < row.length
              · obtain ⟨g', o', y, rfl, hy, hyi, hyc⟩ := HFS2.out.cells HB3.out hltq
                have HN := Lib.hid (Fi.kept_next (p := Fi.stays f) hy)
                have hfc := (HB3.out.cell (cell_lt HFC2.out)).trans HFC2.out
                have KS := Lib.hid (fun x : Later wr => rfcovers_any (c := f.c) (c' := y.c) ((HI2.out.later HB3.out).later x.below).ps (hyi.later x.below).ps)
                have l1 := fun x : Later wr => later_cell hyc x
                have l2 := fun x : Later wr => later_cell hfc x
                clear hy hyi hfc
                have es : Fi.stays f y = !Fi.covers f.l y.l := rfl
                haveI := later_some wr
                cases hr : Fi.covers f.l y.l
                · rw [hr] at KS es
                  have hN := HN.out
                  rw [es] at hN
                  have HN2 : Hid ((row.take (q + 1)).filter (Fi.stays f) = (row.take q).filter (Fi.stays f) ++ [y]) := hN
                  clear hN HN es
                  go_wp2_with fail
                  refine wp_region_later (W := wr) (by kernel_rfl) (by kernel_rfl) (Below.refl _ _) ?_
                  repeat (go_big_quiet_step (first | (go_at_call 16; exact calls_later (KS.out _))))
                  refine wpQuiet_nil ?_
                  rintro _ ⟨x, rfl⟩
                  have HO4 := Lib.hid (HO3.out.later x.below)
                  have HB4 := Lib.hid (below_then HB3.out x.below)
                  have l1x := l1 x
                  clear l1 l2 KS HO3 HB3
                  generalize x.at_ = wy at HO4 HB4 l1x ⊢
                  obtain ⟨A2, c2, rfl, -⟩ := HO4.out.reads
                  go_wp2_with (first | (at_builtin; refine wpList_ownw (k := 1) rfl _ _ 28 rfl Tryz.underlying28 fil_info rfl (by decide) _ _ ((row.take q).filter (Fi.stays f)).length (fflat ((row.take q).filter (Fi.stays f))) rfl (HO4.out.later (one_new _ _)) _ 1 1 rfl (fun h => by cases h) (fflat [y]) (new_ft wy y) (fflat_one _) (by omega) (by decide) ?_; intro v6 w6 hO6 hK6; have HO6 := Lib.hid (ownf_add hO6); have HB6 : Hid (Below _ _ w6) := (below_then HB4.out (one_new wy (.cells #[.slice y.A y.l.length y.c] 22))).trans (hK6.below (below_then HB4.out (one_new wy (.cells #[.slice y.A y.l.length y.c] 22))).size (fun i hi e => by have := ownw_base HO4.out i e; omega)); clear hO6 hK6))
                  exact ⟨⟨q + 1, by omega, rfl, by rw [HN2.out]; exact HO6.out, HB6.out⟩, by simp [intOf]; omega⟩
                · rw [hr] at KS es
                  have hN := HN.out
                  rw [es] at hN
                  have HN2 : Hid ((row.take (q + 1)).filter (Fi.stays f) = (row.take q).filter (Fi.stays f)) := hN.trans (List.append_nil _)
                  clear hN HN es
                  go_wp2_with fail
                  refine wp_region_later (W := wr) (by kernel_rfl) (by kernel_rfl) (Below.refl _ _) ?_
                  repeat (go_big_quiet_step (first | (go_at_call 16; exact calls_later (KS.out _))))
                  refine wpQuiet_nil ?_
                  rintro _ ⟨x, rfl⟩
                  go_wp2_with fail
                  exact ⟨⟨q + 1, by omega, rfl, by rw [HN2.out]; exact HO3.out.later x.below, below_then HB3.out x.below⟩, by simp [intOf]; omega⟩
              · obtain rfl : q = row.length := by omega
                have hO4 := HO3.out
                rw [List.take_length] at hO4
                have HO4 := Lib.hid hO4
                rw [List.take_length] at hfl
                have hfc := (HB3.out.cell (cell_lt HFC2.out)).trans HFC2.out
                obtain ⟨A2, c2, hv2, -⟩ := hO4.reads
                clear hO4 HO3
                subst hv2
                go_wp2_with (first | (at_builtin; refine wpList_ownw (k := 1) rfl _ _ 28 rfl Tryz.underlying28 fil_info rfl (by decide) _ _ (row.filter (Fi.stays f)).length (fflat (row.filter (Fi.stays f))) rfl (HO4.out.later (one_new _ _)) _ 1 1 rfl (fun h => by cases h) (fflat [f]) (new_ft _ f) (fflat_one _) (by omega) (by decide) ?_; intro v6 w6 hO6 hK6; have HO6 := Lib.hid (ownf_add hO6); have HB6 := Lib.hid ((below_then HB3.out (one_new _ (.cells #[.slice f.A f.l.length f.c] 22))).trans (hK6.below (below_then HB3.out (one_new _ (.cells #[.slice f.A f.l.length f.c] 22))).size (fun i hi e => by have := ownw_base HO4.out i e; omega))); clear hO6 hK6))
                exact ⟨⟨k + 1, by omega, rfl, by rw [HSt.out, HST.out]; exact ownw_sub HO6.out HB2.out.size, below_then HB2.out HB6.out⟩, by simp [intOf]; omega⟩
          · have hst : Fi.step row f = row := by unfold Fi.step; rw [← hb]; rfl
            have HST := Lib.hid hst
            clear hst hb
            go_wp2_with fail
            exact ⟨⟨k + 1, by omega, rfl, by rw [HSt.out, HST.out]; exact HO.out.later HB1.out, below_then HB.out HB1.out⟩, by simp [intOf]; omega⟩
    · obtain rfl : k = L.length := by omega
      have hO := HO.out
      rw [List.take_length] at hO
      have HO2 := Lib.hid hO
      clear hO HO
      go_wp2_with fail
      go_ret
      exact ⟨_, rfl, HO2.out, HB.out⟩
end Go.Proofs.YtfbfbajccphkoaaGreat
