
/- wire.Same, and all that it asks: the contracts. -/
import Derived.Test.YtgenmebmdpnjhaaGreatWireW
import Derived.Test.YtgenmebmdpnjhaaGreatG1c
namespace Go.Proofs.YtgenmebmdpnjhaaGreat
open Go.RowKit
set_option linter.unusedVariables false
set_option maxRecDepth 100000

abbrev sixv (f : Fr) : Value := .agg #[.int .i64 f.k, .int .i64 f.tb, .int .i64 f.fm, .int .i64 f.cl, .int .i64 f.sq, .int .i64 f.ep]
abbrev fivev (e : Ev) : Value := .agg #[.int .i64 e.c, .int .i64 e.b, .int .i64 e.s, .int .i64 e.e, .int .i64 e.a]
theorem fr_size : (Tryz.prog.info? 38).map (·.size) = some 19 := by kernel_rfl
theorem ev_size : (Tryz.prog.info? 30).map (·.size) = some 7 := by kernel_rfl
theorem fr_ev (f : Fr) : ∀ j v, f.e.cells[j]? = some v → f.cells[6 + j]? = some v := by
  intro j v hj
  match j, hj with
  | 0, hj | 1, hj | 2, hj | 3, hj | 4, hj | 5, hj | 6, hj => exact hj
theorem fr_sb (f : Fr) : ∀ j v, f.s.cells[j]? = some v → f.cells[14 + j]? = some v := by
  intro j v hj
  match j, hj with
  | 0, hj | 1, hj | 2, hj | 3, hj => exact hj
/-- The cells of a Change. -/
def chcells (g : Bool) (s : Sb) : List Value := .bool g :: s.cells
theorem fr_ch (f : Fr) : ∀ j v, (chcells f.g f.s)[j]? = some v → f.cells[13 + j]? = some v := by
  intro j v hj
  match j, hj with
  | 0, hj | 1, hj | 2, hj | 3, hj | 4, hj => exact hj
theorem ch_size : (Tryz.prog.info? 35).map (·.size) = some 5 := by kernel_rfl
theorem new_second (w : World) (o o' : Obj) : ((w.alloc o).alloc o').heap[w.heap.size + 1]? = some o' := by have := heap_alloc_new (w.alloc o) o'; rw [size_next] at this; exact this

set_option maxHeartbeats 4000000 in
theorem numbers_any (f : Fr) (w : World) : Calls Tryz.prog 36 #[frv f] w fun e w' => e = .returned (sixv f) ∧ Below w.heap.size w w' := by
  go_enter Tryz.func36, Tryz.ntmps36
  go_wp2
  refine bodyPost_ret (results_cell_row rfl _ _ _ _ _ _ _ rfl (new_second _ _ _) Tryz.underlying60 rfl (by kernel_rfl)) rfl ?_
  exact ⟨rfl, two_new _ _ _⟩
set_option maxHeartbeats 4000000 in
theorem place_any (e : Ev) (w : World) : Calls Tryz.prog 72 #[evv e] w fun r w' => r = .returned (fivev e) ∧ Below w.heap.size w w' := by
  go_enter Tryz.func72, Tryz.ntmps72
  go_wp2
  refine bodyPost_ret (results_cell_row rfl _ _ _ _ _ _ _ rfl (new_second _ _ _) Tryz.underlying108 rfl (by kernel_rfl)) rfl ?_
  exact ⟨rfl, two_new _ _ _⟩

set_option maxHeartbeats 8000000 in
theorem samesub_any {a b : Sb} {w : World} (ha : IsFt w a.f) (hb : IsFt w b.f) : Calls Tryz.prog 38 #[sbv a, sbv b] w fun e w' => e = .returned (.bool (Wr.sbsame a b)) ∧ Below w.heap.size w w' := by
  have HA := Lib.hid ha
  have HB := Lib.hid hb
  clear ha hb
  cases h1 : (a.c == b.c)
  · have HW : Hid (Wr.sbsame a b = false) := Lib.hid (by simp [Wr.sbsame, h1])
    go_enter Tryz.func38, Tryz.ntmps38
    go_wp2_with fail
    go_ret
    exact ⟨by rw [HW.out]; rfl, two_new _ _ _⟩
  cases h2 : (a.b == b.b)
  · have HW : Hid (Wr.sbsame a b = false) := Lib.hid (by simp [Wr.sbsame, h2])
    go_enter Tryz.func38, Tryz.ntmps38
    go_wp2_with fail
    go_ret
    exact ⟨by rw [HW.out]; rfl, two_new _ _ _⟩
  cases h3 : (a.n == b.n)
  · have HW : Hid (Wr.sbsame a b = false) := Lib.hid (by simp [Wr.sbsame, h3])
    go_enter Tryz.func38, Tryz.ntmps38
    go_wp2_with fail
    go_ret
    exact ⟨by rw [HW.out]; rfl, two_new _ _ _⟩
  have HW : Hid (Wr.sbsame a b = Fi.same a.f.l b.f.l) := Lib.hid (by simp [Wr.sbsame, h1, h2, h3])
  go_enter Tryz.func38, Tryz.ntmps38
  go_wp2_with fail
  refine (fsame_any (HA.out.later (two_new _ _ _)).ps (HB.out.later (two_new _ _ _)).ps).mono ?_
  rintro e w2 ⟨rfl, hb⟩
  have HBl := Lib.hid (below_then (two_new _ _ _) hb)
  clear hb
  go_wp2_with fail
  go_ret
  exact ⟨by rw [HW.out]; rfl, HBl.out⟩

set_option maxHeartbeats 8000000 in
theorem stequal_any {A B : Option Addr} {n c n' c' : Nat} {l m : List St} {w : World} (h : Sts w A n l) (h' : Sts w B n' m) :
    Calls Tryz.prog 74 #[.slice A n c, .slice B n' c'] w fun e w' => e = .returned (.bool (Wr.stsame l m)) ∧ Below w.heap.size w w' := by
  obtain rfl := h.len.symm
  obtain rfl := h'.len.symm
  have hn := h.few
  have hn' := h'.few
  have HA := Lib.hid h
  have HA' := Lib.hid h'
  clear h h'
  by_cases hlen : l.length = m.length
  case neg =>
    have HM := Lib.hid (Wr.st_other hlen)
    have hlen' : ¬ (l.length : Int) = (m.length : Int) := by omega
    go_enter Tryz.func74, Tryz.ntmps74
    go_wp2_with fail
    go_ret
    exact ⟨by rw [HM.out]; rfl, Below.refl _ _⟩
  have hme : m.length = l.length := hlen.symm
  rw [hme] at HA' hn' ⊢
  clear hlen
  go_enter Tryz.func74, Tryz.ntmps74
  go_wp2_with fail
  go_loopw [13] (fun ii wr => ∃ k : Nat, k ≤ l.length ∧ ii = .int .i64 (k : Int) ∧ Wr.stsame l m = Wr.stsame (l.drop k) (m.drop k) ∧ Below w.heap.size w wr) (fun ii _ => l.length - (intOf ii).toNat)
  case atStart => exact ⟨0, by omega, rfl, rfl, Below.refl _ _⟩
  case round =>
    obtain ⟨k, hk, rfl, hl, hB⟩ := hrel
    have HL := Lib.hid hl
    have HB := Lib.hid hB
    clear hl hB
    by_cases hlt : k < l.length
    · obtain ⟨g, o, y, rfl, hy, hc⟩ := HA.out.cells HB.out hlt
      obtain ⟨g', o', y', rfl, hy', hd⟩ := HA'.out.cells HB.out (hme.symm ▸ hlt)
      have HN := Lib.hid (Wr.st_next hy hy' HL.out)
      have c0 := fun x : Later wr => later_cell (hc 0 _ rfl) x
      have c1 := fun x : Later wr => later_cell (hc 1 _ rfl) x
      have d0 := fun x : Later wr => later_cell (hd 0 _ rfl) x
      have d1 := fun x : Later wr => later_cell (hd 1 _ rfl) x
      rw [Nat.add_zero] at c0 d0
      have hq := neq_stamp y.atom y.n y'.atom y'.n
      clear hy hy' hc hd
      haveI := later_some wr
      cases hr : ((y.atom == y'.atom) && (y.n == y'.n))
      · dsimp only [Hid] at HN
        rw [hr, Bool.false_and] at HN
        rw [hr, Bool.not_false] at hq
        have HM := Lib.hid HN
        clear HN hr
        go_wp2_with fail
        refine wp_region_later (W := wr) (by kernel_rfl) (by kernel_rfl) (Below.refl _ _) ?_
        repeat (go_big_quiet_step (fail))
        refine wpQuiet_nil ?_
        rintro _ ⟨x, rfl⟩
        go_wp2_with fail
        go_ret
        exact ⟨by rw [HM.out]; rfl, below_then HB.out x.below⟩
      · dsimp only [Hid] at HN
        rw [hr, Bool.true_and] at HN
        rw [hr, Bool.not_true] at hq
        have HM := Lib.hid HN
        clear HN hr
        go_wp2_with fail
        refine wp_region_later (W := wr) (by kernel_rfl) (by kernel_rfl) (Below.refl _ _) ?_
        repeat (go_big_quiet_step (fail))
        refine wpQuiet_nil ?_
        rintro _ ⟨x, rfl⟩
        go_wp2_with fail
        exact ⟨⟨k + 1, by omega, rfl, HM.out, below_then HB.out x.below⟩, by simp [intOf]; omega⟩
    · have HM := Lib.hid (Wr.st_end hlt hme HL.out)
      go_wp2_with fail
      go_ret
      exact ⟨by rw [HM.out]; rfl, HB.out⟩

theorem evbox_cells {w : World} {g : Nat} {e : Ev} (h : w.heap[g]? = some (evbox e)) : ∀ j u, e.cells[j]? = some u → w.cell? ⟨g, 0 + j, none⟩ = some u := cells_row (cs := e.cells) h
theorem frbox_cells {w : World} {g : Nat} {f : Fr} (h : w.heap[g]? = some (frbox f)) : ∀ j u, f.cells[j]? = some u → w.cell? ⟨g, 0 + j, none⟩ = some u := cells_row (cs := f.cells) h
theorem first_of (w : World) (o o' : Obj) : ((w.alloc o).alloc o').heap[w.heap.size]? = some o := below_row (one_new (w.alloc o) o') (heap_alloc_new w o)

set_option maxHeartbeats 16000000 in
theorem sameevent_any {a b : Ev} {w : World} (ha : IsEv w a) (hb : IsEv w b) : Calls Tryz.prog 37 #[evv a, evv b] w fun e w' => e = .returned (.bool (Wr.evsame a b)) ∧ Below w.heap.size w w' := by
  have hr1 := first_of w (evbox a) (evbox b)
  have hr2 := new_second w (evbox a) (evbox b)
  have hbl := two_new w (evbox a) (evbox b)
  have HA := Lib.hid (ha.later hbl)
  have HB := Lib.hid (hb.later hbl)
  clear ha hb
  dsimp only [evbox] at hr1 hr2 hbl HA HB
  obtain ⟨c0, c1, c2, c3, c4, c5, c6⟩ := ev_laters (evbox_cells hr1)
  obtain ⟨d0, d1, d2, d3, d4, d5, d6⟩ := ev_laters (evbox_cells hr2)
  have HBl := Lib.hid hbl
  clear hr1 hr2 hbl
  have hq := eq_five a.c a.b a.s a.e a.a b.c b.b b.s b.e b.a
  go_enter Tryz.func37, Tryz.ntmps37
  go_upto_region 1 with fail
  generalize (w.alloc _).alloc _ = W at *
  have hgs := HBl.out.size
  simp only [Nat.zero_add] at c1 c2 c3 c4 c5 c6 d1 d2 d3 d4 d5 d6
  have KP := Lib.hid (fun x : Later W => place_any a x.at_)
  have KQ := Lib.hid (fun x : Later W => place_any b x.at_)
  have KA := Lib.hid (fun x : Later W => asame_any (c := a.ca) (c' := b.ca) (HA.out.l.later x.below) (HB.out.l.later x.below))
  have KS := Lib.hid (fun x : Later W => stequal_any (c := a.cb) (c' := b.cb) (HA.out.t.later x.below) (HB.out.t.later x.below))
  have hw : Wr.evsame a b = (Wr.evints a b && (At.same a.l b.l && Wr.stsame a.t b.t)) := rfl
  have HW := Lib.hid hw
  have hi : Wr.evints a b = ((a.c == b.c) && ((a.b == b.b) && ((a.s == b.s) && ((a.e == b.e) && (a.a == b.a))))) := rfl
  rw [← hi] at hq
  clear hw hi HA HB
  generalize Wr.evints a b = b1 at hq HW
  generalize At.same a.l b.l = b2 at KA HW
  generalize Wr.stsame a.t b.t = b3 at KS HW
  haveI := later_some W
  cases b1
  · refine wp_region_later (W := W) (by kernel_rfl) (by kernel_rfl) (Below.refl _ _) ?_
    iterate 2 (go_big_quiet_step (first | (go_at_call 72; exact calls_later (KP.out _))))
    clear KP
    repeat (go_big_quiet_step (first | (go_at_call 72; exact calls_later (KQ.out _))))
    refine wpQuiet_nil ?_
    rintro _ ⟨x, rfl⟩
    go_wp2_with fail
    go_ret
    exact ⟨by rw [HW.out]; rfl, below_then HBl.out x.below⟩
  · rcases b2 with - | - <;> rcases b3 with - | -
    all_goals
      refine wp_region_later (W := W) (by kernel_rfl) (by kernel_rfl) (Below.refl _ _) ?_
      iterate 2 (go_big_quiet_step (first | (go_at_call 72; exact calls_later (KP.out _))))
      clear KP
      repeat (go_big_quiet_step (first | (go_at_call 72; exact calls_later (KQ.out _)) | (go_at_call 73; exact calls_later (KA.out _)) | (go_at_call 74; exact calls_later (KS.out _))))
      refine wpQuiet_nil ?_
      rintro _ ⟨x, rfl⟩
      go_wp2_with fail
      go_ret
      exact ⟨by rw [HW.out]; rfl, below_then HBl.out x.below⟩

set_option maxHeartbeats 8000000 in
theorem sbequal_any {A B : Option Addr} {n c n' c' : Nat} {l m : List Sb} {w : World} (h : Sbs w A n l) (h' : Sbs w B n' m) :
    Calls Tryz.prog 39 #[.slice A n c, .slice B n' c', .func (.func 38) #[] #[]] w fun e w' => e = .returned (.bool (Wr.sbssame l m)) ∧ Below w.heap.size w w' := by
  obtain rfl := h.len.symm
  obtain rfl := h'.len.symm
  have hn := h.few
  have hn' := h'.few
  have HA := Lib.hid h
  have HA' := Lib.hid h'
  clear h h'
  by_cases hlen : l.length = m.length
  case neg =>
    have HM := Lib.hid (Wr.sb_other hlen)
    have hlen' : ¬ (l.length : Int) = (m.length : Int) := by omega
    go_enter Tryz.func39, Tryz.ntmps39
    go_wp2_with fail
    go_ret
    exact ⟨by rw [HM.out]; rfl, Below.refl _ _⟩
  have hme : m.length = l.length := hlen.symm
  rw [hme] at HA' hn' ⊢
  clear hlen
  go_enter Tryz.func39, Tryz.ntmps39
  go_wp2_with fail
  go_loopw [17] (fun ii wr => ∃ k : Nat, k ≤ l.length ∧ ii = .int .i64 (k : Int) ∧ Wr.sbssame l m = Wr.sbssame (l.drop k) (m.drop k) ∧ Below w.heap.size w wr) (fun ii _ => l.length - (intOf ii).toNat)
  case atStart => exact ⟨0, by omega, rfl, rfl, Below.refl _ _⟩
  case round =>
    obtain ⟨k, hk, rfl, hl, hB⟩ := hrel
    have HL := Lib.hid hl
    have HB := Lib.hid hB
    clear hl hB
    by_cases hlt : k < l.length
    · obtain ⟨g, o, y, rfl, hy, hi, hc⟩ := HA.out.cells HB.out hlt
      obtain ⟨g', o', y', rfl, hy', hi', hc'⟩ := HA'.out.cells HB.out (hme.symm ▸ hlt)
      have HN := Lib.hid (Wr.sb_next hy hy' HL.out)
      have HG := Lib.hid hc
      have HI := Lib.hid hi
      have HG' := Lib.hid hc'
      have HI' := Lib.hid hi'
      clear hy hi hc hy' hi' hc'
      go_upto_region 6 with (first | (refine wpList_load_at rfl 33 _ rfl g (o + k * 4) y.cells _ rfl HG.out Tryz.underlying33 rfl sb_size ?_; dsimp only [Sb.cells]))
      have hn1 := one_new wr (sbbox y)
      have HB1 := Lib.hid (below_then HB.out hn1)
      have HI1 := Lib.hid (HI.out.later hn1)
      have HI2 := Lib.hid (HI'.out.later hn1)
      have HN1 := Lib.hid (heap_alloc_new wr (sbbox y))
      have HG2 : Hid (∀ j u, y'.cells[j]? = some u → (wr.alloc (sbbox y)).cell? ⟨g', o' + k * 4 + j, none⟩ = some u) := fun j u hj => (hn1.cell (cell_lt (HG'.out j u hj))).trans (HG'.out j u hj)
      clear hn1 HB HI HG HI' HG'
      dsimp only [sbbox] at HB1 HI1 HI2 HN1 HG2
      generalize wr.heap.size = gp at HN1 ⊢
      generalize wr.alloc _ = w1 at HB1 HI1 HI2 HN1 HG2 ⊢
      have HG2 : Hid (∀ j u, y'.cells[j]? = some u → w1.cell? ⟨g', o' + k * 4 + j, none⟩ = some u) := HG2
      go_upto_region 7 with (first | (refine wpList_load_at rfl 33 _ rfl g' (o' + k * 4) y'.cells _ rfl HG2.out Tryz.underlying33 rfl sb_size ?_; dsimp only [Sb.cells]))
      have hn1 := one_new w1 (sbbox y')
      replace HB1 := Lib.hid (below_then HB1.out hn1)
      replace HI1 := Lib.hid (HI1.out.later hn1)
      replace HI2 := Lib.hid (HI2.out.later hn1)
      replace HN1 := Lib.hid (below_row hn1 HN1.out)
      have HN2 := Lib.hid (heap_alloc_new w1 (sbbox y'))
      clear hn1 HG2
      dsimp only [sbbox] at HB1 HI1 HI2 HN1 HN2
      generalize w1.heap.size = gq at HN2 ⊢
      generalize w1.alloc _ = w2 at HB1 HI1 HI2 HN1 HN2 ⊢
      have HC := Lib.hid (cells_row (cs := y.cells) HN1.out)
      have HC' := Lib.hid (cells_row (cs := y'.cells) HN2.out)
      go_wp2_with (first | (refine wpList_load_at rfl 33 _ rfl gp 0 y.cells _ rfl HC.out Tryz.underlying33 rfl sb_size ?_; dsimp only [Sb.cells]) | (refine wpList_load_at rfl 33 _ rfl gq 0 y'.cells _ rfl HC'.out Tryz.underlying33 rfl sb_size ?_; dsimp only [Sb.cells]) | fail)
      refine (samesub_any (a := y) (b := y') HI1.out HI2.out).mono ?_
      rintro e w3 ⟨rfl, hb⟩
      have HB2 := Lib.hid (below_then HB1.out hb)
      clear hb
      dsimp only [Hid] at HN
      cases hr : Wr.sbsame y y'
      · rw [hr, Bool.false_and] at HN
        have HM := Lib.hid HN
        clear HN
        go_wp2_with fail
        go_ret
        exact ⟨by rw [HM.out]; rfl, HB2.out⟩
      · rw [hr, Bool.true_and] at HN
        have HM := Lib.hid HN
        clear HN
        go_wp2_with fail
        exact ⟨⟨k + 1, by omega, rfl, HM.out, HB2.out⟩, by simp [intOf]; omega⟩
    · have HM := Lib.hid (Wr.sb_end hlt hme HL.out)
      go_wp2_with fail
      go_ret
      exact ⟨by rw [HM.out]; rfl, HB.out⟩

end Go.Proofs.YtgenmebmdpnjhaaGreat
