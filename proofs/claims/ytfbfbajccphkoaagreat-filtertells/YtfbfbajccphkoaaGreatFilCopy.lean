
/- filter.copySet and filter.Copy: what they make is memory of their own. -/
import Derived.Test.YtfbfbajccphkoaaGreatFil
namespace Go.Proofs.YtfbfbajccphkoaaGreat
open Go.RowKit
set_option linter.unusedVariables false

abbrev vzero : Value := vl 0 0 0 ⟨#[]⟩ false
abbrev freshv (w : World) (n : Nat) : World := w.alloc (.cells (madeCells vzero.cells (n * 5)) 45)
theorem make_vals (w : World) (n : Nat) (hn : n ≤ 2932031007317) : (Instr.makeSlice 46 (.int .i64 (n : Int)) (.int .i64 (n : Int))).run Tryz.prog w = .ok (.slice (some ⟨w.heap.size, 0, none⟩) n n) (freshv w n) := by
  obtain ⟨i, hi, hz, h1, h2⟩ := info_at val_info
  have := run_make (P := Tryz.prog) w 46 45 i _ Tryz.underlying46 hi hz .i64 .i64 n n (by omega) (Int.le_refl _) (by rw [h2]; omega) (by omega)
  rw [h1] at this
  exact this
theorem copy_vals {A : Option Addr} {n c : Nat} {l : List Val} (w : World) (h : Vs w A n l) (ty : TypeId) : (Builtin.copy_ #[46, 46] ty #[.slice (some ⟨w.heap.size, 0, none⟩) n n, .slice A n c]).run Tryz.prog (freshv w n) = .ok (goInt n) ((freshv w n).setRow w.heap.size (vflat l).toArray) := by
  have hm : madeCells vzero.cells (n * 5) = (madeCells vzero.cells (n * 5)).toList.toArray := by simp
  refine run_copyw (freshv w n) _ _ ty 45 n n c w.heap.size A (madeCells vzero.cells (n * 5)).toList (vflat l) Tryz.underlying46 (by kernel_rfl) ?_ ?_ (h.row.later (one_new _ _)) (vflat_one l)
  · rw [← hm]; exact heap_alloc_new _ _
  · simp [madeCells]
/-- A Set in memory that the call made. -/
def SetPost (w : World) (l : List Val) (e : Ending) (w' : World) : Prop :=
  ∃ (A : Option Addr) (c : Nat), e = .returned (.slice A l.length c) ∧ OwnV w.heap.size w' (.slice A l.length c) l ∧ Below w.heap.size w w'

set_option maxRecDepth 100000 in
set_option maxHeartbeats 4000000 in
theorem copyset_any {A : Option Addr} {n c : Nat} {l : List Val} {w : World} (h : Vs w A n l) (hn : n ≤ 2932031007317) : Calls Tryz.prog 42 #[.slice A n c] w (SetPost w l) := by
  obtain rfl := h.len.symm
  by_cases h0 : l.length = 0
  · have hl : l = [] := List.eq_nil_of_length_eq_zero h0
    subst hl
    clear h h0
    go_enter Tryz.func42, Tryz.ntmps42
    go_wp2_with fail
    go_ret
    exact ⟨none, 0, rfl, OwnW.nil _ _ _ (Nat.le_refl _), Below.refl _ _⟩
  · have hmk := make_vals w l.length (by omega)
    have hcp := fun ty => copy_vals (c := c) w h ty
    have HB : Hid (Below w.heap.size w ((freshv w l.length).setRow w.heap.size (vflat l).toArray)) := below_setRow (one_new _ _) (Nat.le_refl _) _
    have HR : Hid (((freshv w l.length).setRow w.heap.size (vflat l).toArray).heap[w.heap.size]? = some (.cells (vflat l).toArray 45 (0, 0))) := setRow_heap _ _ _ _ _ _ (heap_alloc_new _ _)
    have h0' : ¬ (l.length : Int) = 0 := by omega
    generalize freshv w l.length = W at hmk hcp HB HR
    generalize W.setRow w.heap.size (vflat l).toArray = W' at hcp HB HR
    clear h h0
    go_enter Tryz.func42, Tryz.ntmps42
    go_wp2_with fail
    go_ret
    refine ⟨some ⟨w.heap.size, 0, none⟩, l.length, rfl, ?_, HB.out⟩
    exact OwnW.of_row (Nat.le_refl _) HR.out (flat_len _ Val.cells_len l) (by unfold maxLen; omega)

abbrev pzero : Value := pv ⟨⟨#[]⟩, 0, ⟨0, 0, 0, ⟨#[]⟩, false⟩, ⟨0, 0, 0, ⟨#[]⟩, false⟩, []⟩ none 0 0
abbrev freshp (w : World) (n : Nat) : World := w.alloc (.cells (madeCells pzero.cells (n * 13)) 48)
theorem make_prds (w : World) (n : Nat) (hn : n ≤ 1000000) : (Instr.makeSlice 22 (.int .i64 (n : Int)) (.int .i64 (n : Int))).run Tryz.prog w = .ok (.slice (some ⟨w.heap.size, 0, none⟩) n n) (freshp w n) := by
  obtain ⟨i, hi, hz, h1, h2⟩ := info_at prd_info
  have := run_make (P := Tryz.prog) w 22 48 i _ Tryz.underlying22 hi hz .i64 .i64 n n (by omega) (Int.le_refl _) (by rw [h2]; omega) (by omega)
  rw [h1] at this
  exact this
/-- A copy that is under way: the first of the row g are laid, the others are room. -/
structure Mid (w wr : World) (g n : Nat) (m : List Pt) (ps : List Prd) : Prop where
  map : m.map (·.p) = ps
  row : ∃ rest : List Value, rest.length = (n - m.length) * 13 ∧ wr.heap[g]? = some (.cells (pflat m ++ rest).toArray 48 (0, 0))
  few : m.length ≤ n
  sets : ∀ x, x ∈ m → OwnS w.heap.size wr x
  below : Below w.heap.size w wr
  hg : w.heap.size ≤ g
theorem Mid.later {w wr wx : World} {g n : Nat} {m : List Pt} {ps : List Prd} (h : Mid w wr g n m ps) (k : Below wr.heap.size wr wx) : Mid w wx g n m ps := by
  obtain ⟨rest, hl, hr⟩ := h.row
  exact ⟨h.map, ⟨rest, hl, below_row k hr⟩, h.few, fun x hx => (h.sets x hx).later k, below_then h.below k, h.hg⟩
theorem Mid.turn {w wr wx : World} {g n q : Nat} {m : List Pt} {ps : List Prd} {cs : Array Value} {fr : Nat × Nat} (h : Mid w wr g n m ps) (k : Kept (· = q) wr wx) (hq : wr.heap[q]? = some (.cells cs 48 fr)) (hw : w.heap.size ≤ q) (ne : g ≠ q) : Mid w wx g n m ps := by
  obtain ⟨rest, hl, hr⟩ := h.row
  exact ⟨h.map, ⟨rest, hl, k.row hr ne⟩, h.few, fun x hx => (h.sets x hx).kept k (ownw_not (h.sets x hx) hq val_pred), h.below.trans (k.below h.below.size (by intro i hi e; omega)), h.hg⟩
theorem part_mid {m : List Pt} {rest : List Value} {x : Pt} (h : 13 ≤ rest.length) : part (pflat m ++ rest) (m.length * 13) x.cells = pflat (m ++ [x]) ++ rest.drop 13 := by
  have hl : (pflat m).length = m.length * 13 := flat_len _ Pt.cells_len m
  unfold part
  rw [List.take_append_of_le_length (by omega), List.take_of_length_le (by omega), List.drop_append, List.drop_eq_nil_of_le (by omega), Pt.cells_len]
  rw [show m.length * 13 + 13 - (pflat m).length = 13 by omega]
  unfold pflat
  rw [List.flatMap_append]
  simp
/-- The next one is laid. -/
theorem Mid.put {w wr : World} {g n : Nat} {m : List Pt} {ps : List Prd} {x : Pt} {rest : List Value} (h : Mid w wr g n m ps) (hs : OwnS w.heap.size wr x) (hl : rest.length = (n - m.length) * 13) (hr : wr.heap[g]? = some (.cells (pflat m ++ rest).toArray 48 (0, 0))) (hn : m.length < n) :
    Mid w (wr.setRow g (part (pflat m ++ rest) (m.length * 13) x.cells).toArray) g n (m ++ [x]) (ps ++ [x.p]) := by
  have k := Kept.setRow wr g (part (pflat m ++ rest) (m.length * 13) x.cells).toArray
  have h13 : 13 ≤ rest.length := by
    rw [hl]
    have : 1 * 13 ≤ (n - m.length) * 13 := Nat.mul_le_mul_right 13 (by omega)
    omega
  refine ⟨by rw [List.map_append, h.map]; rfl, ⟨rest.drop 13, ?_, ?_⟩, by simp; omega, ?_, h.below.trans (k.below h.below.size (by intro i hi e; have := h.hg; omega)), h.hg⟩
  · rw [List.length_drop, hl, List.length_append, List.length_singleton]; omega
  · have := setRow_heap wr g _ (part (pflat m ++ rest) (m.length * 13) x.cells).toArray _ _ hr
    rw [part_mid h13] at this
    rw [part_mid h13]
    exact this
  · intro y hy
    have hy' : OwnS w.heap.size wr y := by
      rcases List.mem_append.1 hy with hy | hy
      · exact h.sets y hy
      · rw [List.mem_singleton.1 hy]; exact hs
    exact hy'.kept k (ownw_not hy' hr val_pred)
theorem Mid.cop {w wr : World} {g n : Nat} {m : List Pt} {ps : List Prd} (h : Mid w wr g n m ps) (hn : m.length = n) (hm : n ≤ 1000) : Cop w wr (.slice (some ⟨g, 0, none⟩) n n) m ps := by
  obtain ⟨rest, hl, hr⟩ := h.row
  have h0 : rest = [] := List.eq_nil_of_length_eq_zero (by rw [hl]; omega)
  subst hn
  subst h0
  rw [List.append_nil] at hr
  exact ⟨h.map, OwnW.of_row h.hg hr (flat_len _ Pt.cells_len m) (by unfold maxLen; omega), h.sets, h.below⟩

set_option maxRecDepth 100000 in
set_option maxHeartbeats 8000000 in
theorem fcopy_any {A : Option Addr} {n c : Nat} {l : List Pt} {w : World} (h : Ps w A n l) (hn : l.length ≤ 1000) (hset : ∀ x, x ∈ l → x.p.set.length ≤ 2932031007317) :
    Calls Tryz.prog 17 #[.slice A n c] w (FilterPost (l.map (·.p)) w) := by
  obtain rfl := h.len.symm
  have HP := Lib.hid h
  have HS := Lib.hid hset
  have hst := store_float
  have hmk := make_prds w l.length (by omega)
  have H0 : Hid (Mid w (freshp w l.length) w.heap.size l.length [] []) :=
    (⟨rfl, ⟨(madeCells pzero.cells (l.length * 13)).toList, by simp [madeCells], by rw [show pflat [] = [] from rfl, List.nil_append, Array.toArray_toList]; exact heap_alloc_new _ _⟩, by simp, by simp, one_new _ _, Nat.le_refl _⟩ : Mid w (freshp w l.length) w.heap.size l.length [] [])
  generalize freshp w l.length = W at hmk H0
  clear h hset
  go_enter Tryz.func17, Tryz.ntmps17
  go_wp2_with fail
  clear hmk
  go_loopw [11] (fun ii wr => ∃ (k : Nat) (m : List Pt), k ≤ l.length ∧ ii = .int .i64 (k : Int) ∧ m.length = k ∧ Mid w wr w.heap.size l.length m ((l.take k).map (·.p))) (fun ii _ => l.length - (intOf ii).toNat)
  case atStart => exact ⟨0, [], by omega, rfl, rfl, H0.out⟩
  case round =>
    obtain ⟨k, m, hk, rfl, hmk, hc⟩ := hrel
    have HC := Lib.hid hc
    clear hc H0
    by_cases hlt : k < l.length
    · obtain ⟨g, o, rfl, hg⟩ := HP.out.at (by omega)
      obtain ⟨x, hx⟩ : ∃ x, l[k]? = some x := ⟨_, List.getElem?_eq_getElem hlt⟩
      have hxl := List.mem_of_getElem? hx
      have HX := Lib.hid hx
      have HI := Lib.hid ((HP.out.each x hxl).later HC.out.below)
      have HL := HS.out x hxl
      have hcs : ∀ j u, x.cells[j]? = some u → wr.cell? ⟨g, o + k * 13 + j, none⟩ = some u := fun j u hj => (HC.out.below.cell (cell_lt (hg k x hx j u hj))).trans (hg k x hx j u hj)
      have HG := Lib.hid hcs
      clear hg hx hcs
      go_upto_region 5 with (first | (refine wpList_load_at rfl 48 _ rfl g (o + k * 13) x.cells _ rfl HG.out Tryz.underlying48 rfl prd_size ?_; dsimp only [Pt.cells]))
      have hn1 := one_new wr x.box
      have HC1 := Lib.hid (HC.out.later hn1)
      have HI1 := Lib.hid (HI.out.later hn1)
      have HR := Lib.hid (heap_alloc_new wr x.box)
      have hgp := HC.out.below.size
      obtain ⟨rest0, -, hr0⟩ := HC.out.row
      have hgw : w.heap.size < wr.heap.size := row_lt hr0
      clear hn1 HI HG HC hr0 rest0
      dsimp only [Pt.box, Pt.cells] at HC1 HI1 HR
      generalize wr.heap.size = gp at HR hgp hgw ⊢
      generalize wr.alloc _ = w1 at HC1 HI1 HR ⊢
      have HR : Hid (w1.heap[gp]? = some x.box) := HR
      have c12 : w1.cell? ⟨gp, 12, none⟩ = some (.slice x.A x.p.set.length x.c) := cell_of_row _ _ 12 _ _ _ HR.out
      go_wp2_with fail
      refine (copyset_any HI1.out.is.set HL).mono ?_
      rintro e w2 ⟨A2, c2, rfl, hO2, hb2⟩
      have HR2 := Lib.hid (below_row hb2 HR.out)
      have HC2 := Lib.hid (HC1.out.later hb2)
      have HO2 : Hid (OwnS w.heap.size w2 ⟨x.p, A2, c2⟩) := ownw_sub hO2 HC1.out.below.size
      have d12 : w2.cell? ⟨gp, 12, none⟩ = some (.slice x.A x.p.set.length x.c) := cell_of_row _ _ 12 _ _ _ HR2.out
      have f12 := frozen_of_row _ _ 12 _ _ HR2.out
      clear hO2 hb2 HR HC1 HI1 c12
      go_upto_region 6 with fail
      have hk3 : Kept (· = gp) w2 (w2.setCell ⟨gp, 12, none⟩ (.slice A2 x.p.set.length c2)) := Kept.setCell (S := (· = gp)) w2 ⟨gp, 12, none⟩ rfl _
      have HR3 := Lib.hid (heap_setCell_same w2 gp 12 _ _ (.slice A2 x.p.set.length c2) HR2.out)
      have HO3 := Lib.hid (HO2.out.kept hk3 (ownw_not HO2.out HR2.out val_pred))
      have HC3 := Lib.hid (HC2.out.turn hk3 HR2.out hgp (by omega))
      clear hk3 HO2 HR2 HC2 d12 f12
      generalize w2.setCell _ _ = w3 at HO3 HR3 HC3 ⊢
      have HO3 : Hid (OwnS w.heap.size w3 ⟨x.p, A2, c2⟩) := HO3
      have HR3 : Hid (w3.heap[gp]? = some (Pt.box ⟨x.p, A2, c2⟩)) := HR3
      have HG3 := Lib.hid (cells_row HR3.out)
      obtain ⟨rest, hrl, hrr⟩ := HC3.out.row
      have HRL := Lib.hid hrl
      have HRR := Lib.hid hrr
      have hk13 : m.length * 13 + 13 ≤ (pflat m ++ rest).length := by
        rw [List.length_append, flat_len _ Pt.cells_len, hrl]
        have : 1 * 13 ≤ (l.length - m.length) * 13 := Nat.mul_le_mul_right 13 (by omega)
        omega
      clear hrl hrr
      subst hmk
      go_wp2_with (first | (refine wpList_load_at rfl 48 _ rfl gp 0 (Pt.cells ⟨x.p, A2, c2⟩) _ rfl HG3.out Tryz.underlying48 rfl prd_size ?_; dsimp only [Pt.cells]) | (refine wpList_store_part rfl 48 _ _ rfl w.heap.size (m.length * 13) _ (Pt.cells ⟨x.p, A2, c2⟩) rfl rfl rfl 48 (pflat m ++ rest) HRR.out prd_size hk13 (Pt.one _) ?_; have HC6 := Lib.hid (HC3.out.put HO3.out HRL.out HRR.out hlt); generalize w3.setRow _ _ = w6 at HC6 ⊢) | fail)
      have e : (l.take (m.length + 1)).map (·.p) = (l.take m.length).map (·.p) ++ [x.p] := by rw [List.take_add_one, HX.out]; simp
      exact ⟨⟨m.length + 1, m ++ [⟨x.p, A2, c2⟩], by omega, rfl, by simp, by rw [e]; exact HC6.out⟩, by simp [intOf]; omega⟩
    · obtain rfl : k = l.length := by omega
      go_wp2_with fail
      go_ret
      exact ⟨_, m, rfl, by have := HC.out.cop hmk hn; rw [List.take_length] at this; exact this⟩
end Go.Proofs.YtfbfbajccphkoaaGreat
