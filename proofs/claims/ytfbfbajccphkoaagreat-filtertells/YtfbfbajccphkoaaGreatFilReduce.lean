
/- filter.copyAll and filter.Reduce: their contracts. -/
import Derived.Test.YtfbfbajccphkoaaGreatFilDel
import Derived.Test.YtfbfbajccphkoaaGreatFilCopy
namespace Go.Proofs.YtfbfbajccphkoaaGreat
open Go.RowKit
set_option linter.unusedVariables false

namespace Fi
/-- One more filter. -/
def step (row : List Ft) (f : Ft) : List Ft := if covered f row then row else row.filter (stays f) ++ [f]
def reduce (L : List Ft) : List Ft := L.foldl step []
theorem step_mem {row : List Ft} {f g : Ft} (h : g ∈ step row f) : g ∈ row ∨ g = f := by
  unfold step at h
  split at h
  · exact .inl h
  · rcases List.mem_append.1 h with h | h
    · exact .inl (List.mem_filter.1 h).1
    · exact .inr (List.mem_singleton.1 h)
theorem step_len (row : List Ft) (f : Ft) : (step row f).length ≤ row.length + 1 := by
  unfold step
  split
  · omega
  · rw [List.length_append, List.length_singleton]; have := List.length_filter_le (stays f) row; omega
theorem fold_mem : ∀ (L row : List Ft) {g : Ft}, g ∈ L.foldl step row → g ∈ row ∨ g ∈ L
  | [], row, g, h => .inl h
  | f :: L, row, g, h => by
    rcases fold_mem L (step row f) h with h | h
    · rcases step_mem h with h | rfl
      · exact .inl h
      · exact .inr (by simp)
    · exact .inr (by simp [h])
theorem fold_len : ∀ (L row : List Ft), (L.foldl step row).length ≤ row.length + L.length
  | [], row => by simp
  | f :: L, row => by
    have h1 := fold_len L (step row f)
    have h2 := step_len row f
    simp only [List.foldl_cons, List.length_cons]
    omega
theorem reduce_mem {L : List Ft} {g : Ft} (h : g ∈ reduce L) : g ∈ L := by
  rcases fold_mem L [] h with h | h
  · simp at h
  · exact h
theorem reduce_len (L : List Ft) : (reduce L).length ≤ L.length := by have := fold_len L []; simpa [reduce] using this
theorem reduce_next {L : List Ft} {k : Nat} {f : Ft} (h : L[k]? = some f) : reduce (L.take (k + 1)) = step (reduce (L.take k)) f := by
  unfold reduce
  rw [List.take_add_one, h, List.foldl_append]
  rfl
/-- The tests of a filter, where they lie apart. -/
def tests (f : Ft) : List Prd := f.l.map (·.p)
end Fi
/-- A filter all of which the call made. -/
structure Owned (B : Nat) (w : World) (f : Ft) : Prop where
  row : OwnP B w f.v f.l
  sets : ∀ x, x ∈ f.l → OwnS B w x
theorem Owned.later {B : Nat} {w w' : World} {f : Ft} (h : Owned B w f) (k : Below w.heap.size w w') : Owned B w' f := ⟨h.row.later k, fun x hx => (h.sets x hx).later k⟩
theorem Owned.sub {B C : Nat} {w : World} {f : Ft} (h : Owned B w f) (hc : C ≤ B) : Owned C w f := ⟨ownw_sub h.row hc, fun x hx => ownw_sub (h.sets x hx) hc⟩
theorem fil_types : (45 : TypeId) ≠ 22 ∧ (48 : TypeId) ≠ 22 := by decide
theorem Owned.turn {B g : Nat} {w w' : World} {f : Ft} {cs : Array Value} {fr : Nat × Nat} (h : Owned B w f) (k : Kept (· = g) w w') (hg : w.heap[g]? = some (.cells cs 22 fr)) : Owned B w' f :=
  ⟨h.row.kept k (ownw_not h.row hg fil_types.2), fun x hx => (h.sets x hx).kept k (ownw_not (h.sets x hx) hg fil_types.1)⟩
theorem Owned.is {B : Nat} {w : World} {f : Ft} (h : Owned B w f) (hf : ∀ p, p ∈ Fi.tests f → Pd.Fits p) : IsFt w f := by
  obtain ⟨A, c, e, hc, hm, hr, -, -, h0⟩ := h.row.reads
  unfold Ft.v at e
  cases e
  exact ⟨⟨hr, fun x hx => (h.sets x hx).is (hf _ (List.mem_map_of_mem hx)), by unfold maxLen at hm; omega⟩, h0⟩
theorem FilterPost.own {w w' : World} {e : Ending} {ps : List Prd} (h : FilterPost ps w e w') : ∃ f : Ft, e = .returned f.v ∧ Fi.tests f = ps ∧ Owned w.heap.size w' f ∧ Below w.heap.size w w' := by
  obtain ⟨v, m, rfl, hc⟩ := h
  obtain ⟨A, c, rfl, -⟩ := hc.own.reads
  exact ⟨⟨A, c, m⟩, rfl, hc.map, ⟨hc.own, hc.sets⟩, hc.below⟩
abbrev freshf (w : World) (n : Nat) : World := w.alloc (.cells (madeCells (Value.slice none 0 0).cells (n * 1)) 22)
theorem make_fils (w : World) (n : Nat) (hn : n ≤ 1000000) : (Instr.makeSlice 28 (.int .i64 (n : Int)) (.int .i64 (n : Int))).run Tryz.prog w = .ok (.slice (some ⟨w.heap.size, 0, none⟩) n n) (freshf w n) := by
  obtain ⟨i, hi, hz, h1, h2⟩ := info_at fil_info
  have := run_make (P := Tryz.prog) w 28 22 i _ Tryz.underlying28 hi hz .i64 .i64 n n (by omega) (Int.le_refl _) (by rw [h2]; omega) (by omega)
  rw [h1] at this
  exact this
/-- A row of copies that is under way. -/
structure MidF (w wr : World) (g n : Nat) (M : List Ft) (ts : List (List Prd)) : Prop where
  map : M.map Fi.tests = ts
  row : ∃ rest : List Value, rest.length = n - M.length ∧ wr.heap[g]? = some (.cells (fflat M ++ rest).toArray 22 (0, 0))
  few : M.length ≤ n
  each : ∀ f, f ∈ M → Owned w.heap.size wr f
  below : Below w.heap.size w wr
  hg : w.heap.size ≤ g
theorem MidF.later {w wr wx : World} {g n : Nat} {M : List Ft} {ts : List (List Prd)} (h : MidF w wr g n M ts) (k : Below wr.heap.size wr wx) : MidF w wx g n M ts := by
  obtain ⟨rest, hl, hr⟩ := h.row
  exact ⟨h.map, ⟨rest, hl, below_row k hr⟩, h.few, fun f hf => (h.each f hf).later k, below_then h.below k, h.hg⟩
theorem MidF.cell {w wr : World} {g n : Nat} {M : List Ft} {ts : List (List Prd)} (h : MidF w wr g n M ts) (hn : M.length < n) : ∃ u, wr.cell? ⟨g, M.length, none⟩ = some u ∧ wr.frozen? ⟨g, M.length, none⟩ = false := by
  obtain ⟨rest, hl, hr⟩ := h.row
  match rest, hl with
  | [], hl => simp at hl; omega
  | u :: rest, hl =>
    refine ⟨u, getrow hr ?_, frozen_of_row _ _ _ _ _ hr⟩
    rw [List.getElem?_append_right (by rw [fflat_len]; omega), fflat_len, Nat.sub_self]
    rfl
theorem MidF.put {w wr : World} {g n : Nat} {M : List Ft} {ts : List (List Prd)} {f : Ft} (h : MidF w wr g n M ts) (hf : Owned w.heap.size wr f) (hn : M.length < n) : MidF w (wr.setCell ⟨g, M.length, none⟩ f.v) g n (M ++ [f]) (ts ++ [Fi.tests f]) := by
  obtain ⟨rest, hl, hr⟩ := h.row
  have k : Kept (· = g) wr (wr.setCell ⟨g, M.length, none⟩ f.v) := Kept.setCell (S := (· = g)) _ _ rfl _
  refine ⟨by rw [List.map_append, h.map]; rfl, ⟨rest.drop 1, by simp; omega, ?_⟩, by simp; omega, ?_, h.below.trans (k.below h.below.size (by intro i hi e; have := h.hg; omega)), h.hg⟩
  · have := heap_setCell_same wr g M.length _ _ f.v hr
    rw [this]
    match rest, hl with
    | [], hl => simp at hl; omega
    | u :: rest, hl =>
      have e : (fflat M ++ (u :: rest)).set M.length f.v = fflat (M ++ [f]) ++ (u :: rest).drop 1 := by
        rw [List.set_append_right _ _ (by rw [fflat_len]; omega), fflat_len, Nat.sub_self, fflat_add]
        simp [fflat, Ft.cells]
      rw [List.setIfInBounds_toArray, e]
  · intro y hy
    have hy' : Owned w.heap.size wr y := by
      rcases List.mem_append.1 hy with hy | hy
      · exact h.each y hy
      · rw [List.mem_singleton.1 hy]; exact hf
    exact hy'.turn k hr
/-- How Reduce and copyAll end: such filters, all in memory that the call made. -/
def RowPost (ts : List (List Prd)) (w : World) (e : Ending) (w' : World) : Prop :=
  ∃ (v : Value) (M : List Ft), e = .returned v ∧ M.map Fi.tests = ts ∧ OwnF w.heap.size w' v M ∧ (∀ f, f ∈ M → Owned w.heap.size w' f) ∧ Below w.heap.size w w'

set_option maxRecDepth 100000 in
set_option maxHeartbeats 8000000 in
theorem copyall_any {A : Option Addr} {n c : Nat} {L : List Ft} {w : World} (h : Fs w A n L) (hn : L.length ≤ 1000) (hl : ∀ f, f ∈ L → f.l.length ≤ 1000 ∧ ∀ x, x ∈ f.l → x.p.set.length ≤ 2932031007317) :
    Calls Tryz.prog 47 #[.slice A n c] w (RowPost (L.map Fi.tests) w) := by
  obtain rfl := h.len.symm
  have HP := Lib.hid h
  have HS := Lib.hid hl
  have hmk := make_fils w L.length (by omega)
  have H0 : Hid (MidF w (freshf w L.length) w.heap.size L.length [] []) :=
    (⟨rfl, ⟨(madeCells (Value.slice none 0 0).cells (L.length * 1)).toList, by simp [madeCells], by rw [show fflat [] = [] from rfl, List.nil_append, Array.toArray_toList]; exact heap_alloc_new _ _⟩, by simp, by simp, one_new _ _, Nat.le_refl _⟩ : MidF w (freshf w L.length) w.heap.size L.length [] [])
  generalize freshf w L.length = W at hmk H0
  clear h hl
  go_enter Tryz.func47, Tryz.ntmps47
  go_wp2_with fail
  clear hmk
  go_loopw [11] (fun ii wr => ∃ (k : Nat) (M : List Ft), k ≤ L.length ∧ ii = .int .i64 (k : Int) ∧ M.length = k ∧ MidF w wr w.heap.size L.length M ((L.take k).map Fi.tests)) (fun ii _ => L.length - (intOf ii).toNat)
  case atStart => exact ⟨0, [], by omega, rfl, rfl, H0.out⟩
  case round =>
    obtain ⟨k, M, hk, rfl, hMk, hc⟩ := hrel
    have HC := Lib.hid hc
    clear hc H0
    by_cases hlt : k < L.length
    · obtain ⟨g, o, f, rfl, hf, hi, hcell⟩ := HP.out.cells HC.out.below hlt
      have HX := Lib.hid hf
      have HI := Lib.hid hi
      have hsm := HS.out f (List.mem_of_getElem? hf)
      have HSM := Lib.hid hsm
      clear hf hi hsm
      go_wp2_with fail
      refine (fcopy_any HI.out.ps HSM.out.1 HSM.out.2).mono ?_
      rintro e w2 hpost
      obtain ⟨f', rfl, ht, ho, hb⟩ := hpost.own
      have HC2 := Lib.hid (HC.out.later hb)
      have HO2 := Lib.hid (ho.sub HC.out.below.size)
      have HT := Lib.hid ht
      clear hpost hb ho hcell ht HC
      subst hMk
      obtain ⟨u, cM, fM⟩ := HC2.out.cell hlt
      have HC3 := Lib.hid (HC2.out.put HO2.out hlt)
      clear HC2 HO2
      dsimp only [Ft.v] at HC3 ⊢
      go_wp2_with fail
      have e : (L.take (M.length + 1)).map Fi.tests = (L.take M.length).map Fi.tests ++ [Fi.tests f'] := by rw [List.take_add_one, HX.out, HT.out]; simp [Fi.tests]
      exact ⟨⟨M.length + 1, M ++ [f'], by omega, rfl, by simp, by rw [e]; exact HC3.out⟩, by simp [intOf]; omega⟩
    · obtain rfl : k = L.length := by omega
      go_wp2_with fail
      go_ret
      have hc := HC.out
      rw [List.take_length] at hc
      obtain ⟨rest, hl, hr⟩ := hc.row
      have h0 : rest = [] := List.eq_nil_of_length_eq_zero (by rw [hl]; omega)
      rw [h0, List.append_nil] at hr
      refine ⟨_, M, rfl, hc.map, ?_, hc.each, hc.below⟩
      have := OwnW.of_row (k := 1) (n := M.length) hc.hg hr (by rw [fflat_len, Nat.mul_one]) (by unfold maxLen; omega)
      show OwnW 1 w.heap.size 22 wr (.slice (some ⟨w.heap.size, 0, none⟩) L.length L.length) M.length (fflat M)
      rw [hMk] at this ⊢
      exact this
theorem new_ft (w : World) (f : Ft) : Rs 1 (w.alloc (.cells #[.slice f.A f.l.length f.c] 22)) (some ⟨w.heap.size, 0, none⟩) 1 (fflat [f]) := by
  refine ⟨rfl, .inr ⟨w.heap.size, 0, rfl, fun j u hj => ?_⟩⟩
  rw [World.cell?_alloc_new, Nat.zero_add]
  simpa [fflat, Ft.cells, Ft.v] using hj
theorem ownf_add {B : Nat} {w : World} {v : Value} {L : List Ft} {f : Ft} (h : OwnW 1 B 22 w v (L.length + 1) (fflat L ++ fflat [f])) : OwnF B w v (L ++ [f]) := by
  unfold OwnF
  rw [List.length_append, List.length_singleton, fflat_add]
  exact h

set_option maxRecDepth 100000 in
set_option maxHeartbeats 16000000 in
theorem reduce_any {A : Option Addr} {n c : Nat} {L : List Ft} {w : World} (h : Fs w A n L) (hn : L.length ≤ 900) (hl : ∀ f, f ∈ L → f.l.length ≤ 1000 ∧ ∀ x, x ∈ f.l → x.p.set.length ≤ 2932031007317) :
    Calls Tryz.prog 21 #[.slice A n c] w (RowPost ((Fi.reduce L).map Fi.tests) w) := by
  obtain rfl := h.len.symm
  have HP := Lib.hid h
  have HS := Lib.hid hl
  clear h hl
  go_enter Tryz.func21, Tryz.ntmps21
  go_wp2_with fail
  go_loopw [3, 8] (fun v ii wr => ∃ k : Nat, k ≤ L.length ∧ ii = .int .i64 (k : Int) ∧ OwnF w.heap.size wr v (Fi.reduce (L.take k)) ∧ Below w.heap.size w wr) (fun _ ii _ => L.length - (intOf ii).toNat)
  case atStart => exact ⟨0, by omega, rfl, OwnW.nil _ _ _ (Nat.le_refl _), Below.refl _ _⟩
  case round =>
    obtain ⟨k, hk, rfl, hO, hB⟩ := hrel
    have HB := Lib.hid hB
    have HO := Lib.hid hO
    clear hO hB
    by_cases hlt : k < L.length
    · obtain ⟨g, o, f, rfl, hf, hi, hcell⟩ := HP.out.cells HB.out hlt
      have HX := Lib.hid hf
      have hfL := List.mem_of_getElem? hf
      have hisf := HP.out.each f hfL
      have hstep := Fi.reduce_next hf
      have hrow : ∀ y, y ∈ Fi.reduce (L.take k) → y ∈ L := fun y hy => List.mem_of_mem_take (Fi.reduce_mem hy)
      have hrl : (Fi.reduce (L.take k)).length ≤ 900 := by have := Fi.reduce_len (L.take k); rw [List.length_take] at this; omega
      have HSt := Lib.hid hstep
      generalize Fi.reduce (L.take k) = row at HO HSt hrow hrl
      have HRow := Lib.hid hrow
      have HF := Lib.hid hisf
      clear hi hf hstep hrow hisf
      go_upto_region 5 with fail
      have hn1 := one_new wr (.cells #[.slice f.A f.l.length f.c] 22)
      have HE : Hid (RedEnv w (wr.alloc (.cells #[.slice f.A f.l.length f.c] 22)) wr.heap.size f row) :=
        (⟨HF.out, fun y hy => HP.out.each y (HRow.out y hy), below_then HB.out hn1, heap_alloc_new _ _, HB.out.size⟩ : RedEnv _ _ _ _ _)
      have HO1 := Lib.hid (HO.out.later hn1)
      have HQ : Hid (∀ i, u3.ownBlock = some i → ¬ i = wr.heap.size) := fun i hi e => by have := ownw_lt HO.out i hi; omega
      clear hn1 HO HB hcell
      generalize wr.heap.size = q at HE HQ ⊢
      generalize wr.alloc _ = w1 at HE HO1 ⊢
      obtain ⟨A1, c1, hv1, -, -, hr1, -, -, -⟩ := HO1.out.reads
      have HFS : Hid (Fs w1 A1 row.length row) := ⟨hr1, fun y hy => (HE.out.isl y hy).later HE.out.below, by omega⟩
      have c0 : w1.cell? ⟨q, 0, none⟩ = some (.slice f.A f.l.length f.c) := cell_of_row _ _ 0 _ _ _ HE.out.box
      clear hr1
      subst hv1
      go_wp2_with fail
      refine (covered_any (HF.out.later HE.out.below) HFS.out).mono ?_
      rintro e w2 ⟨rfl, hb⟩
      have HE2 := Lib.hid (HE.out.later hb)
      have HO2 := Lib.hid (HO1.out.later hb)
      clear hb c0 HE HO1 HFS
      cases hcv : Fi.covered f row
      · have hst : Fi.step row f = row.filter (Fi.stays f) ++ [f] := by unfold Fi.step; rw [hcv]; rfl
        have HST := Lib.hid hst
        clear hst
        go_upto_region 7 with (first | (go_at_call 45; refine (delete_any HE2.out HO2.out HQ.out (by omega)).mono ?_; rintro e w3 ⟨v3, rfl, hO3, hs3, hK3⟩))
        have HBox := Lib.hid (hK3.row HE2.out.box (fun e => HQ.out _ e rfl))
        have HB3 : Hid (Below w.heap.size w w3) := HE2.out.below.trans (hK3.below HE2.out.below.size (fun i hi e => by have := ownw_base HO2.out i e; omega))
        have HO3 := Lib.hid hO3
        have hfl := List.length_filter_le (Fi.stays f) row
        clear hO3 hs3 hK3 HE2 HO2
        have c0 : w3.cell? ⟨q, 0, none⟩ = some (.slice f.A f.l.length f.c) := cell_of_row _ _ 0 _ _ _ HBox.out
        go_wp2_with (first | (at_builtin; refine wpList_ownw (k := 1) rfl _ _ 28 rfl Tryz.underlying28 fil_info rfl (by decide) w.heap.size _ (row.filter (Fi.stays f)).length (fflat (row.filter (Fi.stays f))) rfl (HO3.out.later (one_new _ _)) _ 1 1 rfl (fun h => by cases h) (fflat [f]) (new_ft w3 f) (fflat_one _) (by omega) (by decide) ?_; intro v6 w6 hO6 hK6; have HO6 := Lib.hid (ownf_add hO6); have HB6 : Hid (Below w.heap.size w w6) := (below_then HB3.out (one_new w3 (.cells #[.slice f.A f.l.length f.c] 22))).trans (hK6.below (below_then HB3.out (one_new w3 (.cells #[.slice f.A f.l.length f.c] 22))).size (fun i hi e => by have := ownw_base HO3.out i e; omega)); clear hO6 hK6))
        exact ⟨⟨k + 1, by omega, rfl, by rw [HSt.out, HST.out]; exact HO6.out, HB6.out⟩, by simp [intOf]; omega⟩
      · have hst : Fi.step row f = row := by unfold Fi.step; rw [hcv]; rfl
        have HST := Lib.hid hst
        clear hst
        go_wp2_with fail
        exact ⟨⟨k + 1, by omega, rfl, by rw [HSt.out, HST.out]; exact HO2.out, HE2.out.below⟩, by simp [intOf]; omega⟩
    · obtain rfl : k = L.length := by omega
      obtain ⟨A1, c1, hv1, -, -, hr1, -, -, -⟩ := HO.out.reads
      rw [List.take_length] at hr1
      have hlen := Fi.reduce_len L
      have HFS : Hid (Fs wr A1 (Fi.reduce L).length (Fi.reduce L)) := ⟨hr1, fun y hy => (HP.out.each y (Fi.reduce_mem hy)).later HB.out, by omega⟩
      rw [List.take_length] at hv1
      clear hr1 HO
      subst hv1
      go_wp2_with fail
      refine (copyall_any HFS.out (by omega) (fun f hf => HS.out f (Fi.reduce_mem hf))).mono ?_
      rintro e w2 ⟨v, M, rfl, hm, ho, he, hb⟩
      have HR : Hid (RowPost ((Fi.reduce L).map Fi.tests) w (.returned v) w2) := ⟨v, M, rfl, hm, ownw_sub ho HB.out.size, fun f hf => (he f hf).sub HB.out.size, below_then HB.out hb⟩
      clear hm ho he hb
      go_wp2_with fail
      go_ret
      exact HR.out
end Go.Proofs.YtfbfbajccphkoaaGreat
