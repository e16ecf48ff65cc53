/- G5: FilRow, FilRight, FilDel, FilCopy, FilReduce in one text. -/
import Derived.Test.YtgenmebmdpnjhaaGreatG3
import Derived.Test.YtgenmebmdpnjhaaGreatG4
namespace Go.Proofs.YtgenmebmdpnjhaaGreat
open Go.RowKit
set_option linter.unusedVariables false

/-- A filter and where it lies. -/
structure Ft where
  A : Option Addr
  c : Nat
  l : List Pt
def Ft.v (f : Ft) : Value := .slice f.A f.l.length f.c
def Ft.cells (f : Ft) : List Value := [f.v]
theorem Ft.cells_len (f : Ft) : f.cells.length = 1 := rfl
abbrev fflat (L : List Ft) : List Value := L.flatMap Ft.cells
theorem fflat_one (L : List Ft) : ∀ u ∈ fflat L, u.oneCell' = true := by
  intro u hu
  obtain ⟨a, -, ha⟩ := List.mem_flatMap.1 hu
  rw [List.mem_singleton.1 ha]
  rfl
theorem fflat_get {L : List Ft} {i : Nat} {f : Ft} (h : L[i]? = some f) : (fflat L)[i]? = some f.v := by
  have := flat_get Ft.cells Ft.cells_len L i 0 f h (by omega)
  rw [Nat.mul_one, Nat.add_zero] at this
  exact this
theorem fil_info : (Tryz.prog.info? 31).map (fun i => (i.zero, i.size, i.bytes)) = some (some (.slice none 0 0), 1, 24) := by kernel_rfl
/-- What is right of a filter as memory holds it. -/
structure IsFt (w : World) (f : Ft) : Prop where
  ps : Ps w f.A f.l.length f.l
  none_ : f.A = none → f.l.length = 0 ∧ f.c = 0
theorem IsFt.later {w w' : World} {f : Ft} (h : IsFt w f) (k : Below w.heap.size w w') : IsFt w' f := ⟨h.ps.later k, h.none_⟩
/-- A slice reads as a row of filters. -/
structure Fs (w : World) (A : Option Addr) (n : Nat) (L : List Ft) : Prop where
  row : Rs 1 w A n (fflat L)
  each : ∀ f, f ∈ L → IsFt w f
  few : n ≤ 9223372036854775807
theorem Fs.len {w : World} {A : Option Addr} {n : Nat} {L : List Ft} (h : Fs w A n L) : L.length = n := by
  have := h.row.1
  rw [flat_len _ Ft.cells_len] at this
  omega
theorem Fs.later {w w' : World} {A : Option Addr} {n : Nat} {L : List Ft} (h : Fs w A n L) (k : Below w.heap.size w w') : Fs w' A n L := ⟨h.row.later k, fun f hf => (h.each f hf).later k, h.few⟩
theorem Fs.cells {w wr : World} {A : Option Addr} {n : Nat} {L : List Ft} (h : Fs w A n L) (hb : Below w.heap.size w wr) {k : Nat} (hk : k < L.length) :
    ∃ g o f, A = some ⟨g, o, none⟩ ∧ L[k]? = some f ∧ IsFt wr f ∧ wr.cell? ⟨g, o + k, none⟩ = some (.slice f.A f.l.length f.c) := by
  obtain ⟨f, hf⟩ : ∃ f, L[k]? = some f := ⟨_, List.getElem?_eq_getElem hk⟩
  have hg := fflat_get hf
  rcases h.row.2 with h1 | ⟨g, o, rfl, hc⟩
  · rw [h1] at hg; simp at hg
  · have hc := hc k _ hg
    exact ⟨g, o, f, rfl, hf, (h.each f (List.mem_of_getElem? hf)).later hb, (hb.cell (cell_lt hc)).trans hc⟩
abbrev OwnF (B : Nat) (w : World) (v : Value) (L : List Ft) : Prop := OwnW 1 B 31 w v L.length (fflat L)

namespace Fi
/-- Is p's attribute there, and taken? -/
def takes1 (a : List Att) (p : Prd) : Bool := At.has a p.name && (Pd.right p && Pd.takes p (At.got a p.name))
def takes (f : List Pt) (a : List Att) : Bool := f.all fun p => takes1 a p.p
def any (L : List Ft) (a : List Att) : Bool := L.any fun f => takes f.l a
def covered (f : Ft) (L : List Ft) : Bool := L.any fun g => covers g.l f.l
/-- Is the one at k right, and its Name not below that of the one ahead? -/
def rightAt (f : List Pt) (k : Nat) : Bool := match f[k]? with
  | none => false
  | some x => Pd.right x.p && (match k with
    | 0 => true
    | j + 1 => match f[j]? with
      | none => false
      | some y => !Op.bytesLess x.p.name.toList y.p.name.toList)
def right (f : List Pt) : Bool := decide (f.length ≤ 3) && (List.range f.length).all (rightAt f)
end Fi
theorem got_fit {l : List Att} (h : ∀ a, a ∈ l → Fit a.v) (s : ByteArray) : Fit (At.got l s) := by
  unfold At.got
  split
  · rename_i a ha
    exact h a (List.mem_of_find?_eq_some ha)
  · exact ⟨by decide, by decide, by decide⟩

end Go.Proofs.YtgenmebmdpnjhaaGreat

namespace Go.Proofs.YtgenmebmdpnjhaaGreat
open Go.RowKit
set_option linter.unusedVariables false

namespace Fi
theorem range_at {n k : Nat} (h : k < n) : (List.range n)[k]? = some k := by rw [List.getElem?_range h]
theorem right_long {f : List Pt} (h : ¬ f.length ≤ 3) : right f = false := by unfold right; rw [decide_eq_false h]; rfl
theorem right_short {f : List Pt} (h : f.length ≤ 3) : right f = (List.range f.length).all (rightAt f) := by unfold right; rw [decide_eq_true h]; rfl
theorem at_zero {f : List Pt} {x : Pt} (h : f[0]? = some x) : rightAt f 0 = Pd.right x.p := by unfold rightAt; rw [h]; simp
theorem at_next {f : List Pt} {j : Nat} {x y : Pt} (h : f[j + 1]? = some x) (g : f[j]? = some y) : rightAt f (j + 1) = (Pd.right x.p && !Op.bytesLess x.p.name.toList y.p.name.toList) := by unfold rightAt; rw [h]; simp [g]
theorem at_wrong {f : List Pt} {k : Nat} {x : Pt} (h : f[k]? = some x) (g : Pd.right x.p = false) : rightAt f k = false := by unfold rightAt; rw [h]; simp [g]
end Fi

set_option maxRecDepth 100000 in
set_option maxHeartbeats 8000000 in
theorem fright_any {A : Option Addr} {n c : Nat} {l : List Pt} {w : World} (h : Ps w A n l) :
    Calls Tryz.prog 99 #[.slice A n c] w fun e w' => e = .returned (.bool (Fi.right l)) ∧ Below w.heap.size w w' := by
  obtain rfl := h.len.symm
  have hn := h.few
  have HA := Lib.hid h
  have hst := store_float
  clear h
  by_cases h3 : l.length ≤ 3
  case neg =>
    have HR := Lib.hid (Fi.right_long h3)
    have h3' : (l.length : Int) > 3 := by omega
    go_enter Tryz.func99, Tryz.ntmps99
    go_wp2_with fail
    go_ret
    exact ⟨by rw [HR.out]; rfl, Below.refl _ _⟩
  have HR := Lib.hid (Fi.right_short h3)
  have h3' : ¬ (l.length : Int) > 3 := by omega
  go_enter Tryz.func99, Tryz.ntmps99
  go_wp2_with fail
  go_loopw [10] (fun ii wr => ∃ k : Nat, k ≤ l.length ∧ ii = .int .i64 (k : Int) ∧ (List.range l.length).all (Fi.rightAt l) = ((List.range l.length).drop k).all (Fi.rightAt l) ∧ Below w.heap.size w wr) (fun ii _ => l.length - (intOf ii).toNat)
  case atStart => exact ⟨0, by omega, rfl, rfl, Below.refl _ _⟩
  case round =>
    obtain ⟨k, hk, rfl, hl, hB⟩ := hrel
    have HL := Lib.hid hl
    have HB := Lib.hid hB
    clear hl hB
    by_cases hlt : k < l.length
    · obtain ⟨g, o, y, rfl, hy, hi, hc, -⟩ := HA.out.cells HB.out hlt
      have HG := Lib.hid hc
      have HY := Lib.hid hy
      have HI := Lib.hid hi
      clear hy hi hc
      go_upto_region 6 with (first | (refine wpList_load_at rfl 98 _ rfl g (o + k * 13) y.cells _ rfl HG.out Tryz.underlying98 rfl prd_size ?_; dsimp only [Pt.cells]))
      have hn1 := one_new wr y.box
      have HB1 := Lib.hid (below_then HB.out hn1)
      have HI1 := Lib.hid (HI.out.later hn1)
      have HN := Lib.hid (heap_alloc_new wr y.box)
      clear hn1 HB HI HG
      dsimp only [Pt.box, Pt.cells] at HB1 HI1 HN
      generalize wr.heap.size = gp at HN ⊢
      generalize wr.alloc _ = w1 at HB1 HI1 HN ⊢
      have HG := Lib.hid (cells_row (cs := y.cells) HN.out)
      go_wp2_with (first | (refine wpList_load_at rfl 98 _ rfl gp 0 y.cells _ rfl HG.out Tryz.underlying98 rfl prd_size ?_; dsimp only [Pt.cells]) | fail)
      refine (pright_any HI1.out.is).mono ?_
      rintro e w2 ⟨rfl, hb⟩
      have HB2 := Lib.hid (below_then HB1.out hb)
      have HN2 := Lib.hid (below_row hb HN.out)
      clear hb HB1 HN HI1 HG
      cases hr : Pd.right y.p
      · have HM2 := Lib.hid (Fi.all_bad (f := Fi.rightAt l) (Fi.range_at hlt) (Fi.at_wrong HY.out hr))
        go_wp2_with fail
        go_ret
        exact ⟨by rw [HR.out, HM2.out]; rfl, HB2.out⟩
      have lc0 := fun x : Later w2 => later_cell (cell_of_row _ _ 0 _ _ _ HN2.out) x
      haveI := later_some w2
      rcases k with - | j
      · have HM2 := Lib.hid (Fi.all_good (f := Fi.rightAt l) (Fi.range_at hlt) HL.out ((Fi.at_zero HY.out).trans hr))
        go_upto_region 8 with fail
        refine wp_region_later (W := w2) (by kernel_rfl) (by kernel_rfl) (Below.refl _ _) ?_
        repeat (go_big_quiet_step (fail))
        refine wpQuiet_nil ?_
        rintro _ ⟨z, rfl⟩
        go_wp2_with fail
        exact ⟨⟨1, by omega, rfl, HM2.out, below_then HB2.out z.below⟩, by simp [intOf]; omega⟩
      · obtain ⟨g', o', y', hA', hy', hi', hc', -⟩ := HA.out.cells HB2.out (show j < l.length by omega)
        cases hA'
        have HY' := Lib.hid hy'
        have ld0 := fun x : Later w2 => later_cell (hc' 0 _ rfl) x
        rw [Nat.add_zero] at ld0
        have uj : IntKind.i64.wrap (((j + 1 : Nat) : Int) - 1) = (j : Int) := by rw [show ((j + 1 : Nat) : Int) - 1 = (j : Int) by omega]; exact IntWalk.i64_in _ (by omega)
        clear hy' hi' hc'
        cases hw : Op.bytesLess y.p.name.toList y'.p.name.toList
        · have HM2 := Lib.hid (Fi.all_good (f := Fi.rightAt l) (Fi.range_at hlt) HL.out ((Fi.at_next HY.out HY'.out).trans (by rw [hr, hw]; rfl)))
          go_upto_region 8 with fail
          refine wp_region_later (W := w2) (by kernel_rfl) (by kernel_rfl) (Below.refl _ _) ?_
          repeat (go_big_quiet_step (fail))
          refine wpQuiet_nil ?_
          rintro _ ⟨z, rfl⟩
          go_wp2_with fail
          exact ⟨⟨j + 1 + 1, by omega, rfl, HM2.out, below_then HB2.out z.below⟩, by simp [intOf]; omega⟩
        · have HM2 := Lib.hid (Fi.all_bad (f := Fi.rightAt l) (Fi.range_at hlt) ((Fi.at_next HY.out HY'.out).trans (by rw [hr, hw]; rfl)))
          go_upto_region 8 with fail
          refine wp_region_later (W := w2) (by kernel_rfl) (by kernel_rfl) (Below.refl _ _) ?_
          repeat (go_big_quiet_step (fail))
          refine wpQuiet_nil ?_
          rintro _ ⟨z, rfl⟩
          go_wp2_with fail
          go_ret
          exact ⟨by rw [HR.out, HM2.out]; rfl, below_then HB2.out z.below⟩
    · have HM2 := Lib.hid (Fi.all_end (l := List.range l.length) (by rw [List.length_range]; exact hlt) HL.out)
      go_wp2_with fail
      go_ret
      exact ⟨by rw [HR.out, HM2.out]; rfl, HB.out⟩
end Go.Proofs.YtgenmebmdpnjhaaGreat

namespace Go.Proofs.YtgenmebmdpnjhaaGreat
open Go.RowKit
set_option linter.unusedVariables false

theorem getrow {w : World} {g : Nat} {cs : List Value} {t : TypeId} {fr : Nat × Nat} {j : Nat} {v : Value} (hg : w.heap[g]? = some (.cells cs.toArray t fr)) (h : cs[j]? = some v) : w.cell? ⟨g, j, none⟩ = some v := by
  rw [cell_of_row _ _ _ _ _ _ hg]; simpa using h
/-- What Reduce's closure stands on: the filter f in the box q, those of L; all were there in w0. -/
structure RedEnv (w0 wr : World) (q : Nat) (f : Ft) (L : List Ft) : Prop where
  isf : IsFt w0 f
  isl : ∀ g, g ∈ L → IsFt w0 g
  below : Below w0.heap.size w0 wr
  box : wr.heap[q]? = some (.cells #[f.v] 31 (0, 0))
  hq : w0.heap.size ≤ q
theorem RedEnv.later {w0 wr wx : World} {q : Nat} {f : Ft} {L : List Ft} (h : RedEnv w0 wr q f L) (k : Below wr.heap.size wr wx) : RedEnv w0 wx q f L :=
  ⟨h.isf, h.isl, below_then h.below k, below_row k h.box, h.hq⟩
theorem RedEnv.turn {w0 wr wx : World} {q g : Nat} {f : Ft} {L : List Ft} (h : RedEnv w0 wr q f L) (k : Kept (· = g) wr wx) (ne : q ≠ g) (hg : w0.heap.size ≤ g) : RedEnv w0 wx q f L :=
  ⟨h.isf, h.isl, h.below.trans (k.below h.below.size (by intro i hi e; omega)), k.row h.box ne, h.hq⟩

namespace Fi
/-- Does f not cover it? -/
def stays (f : Ft) (g : Ft) : Bool := !covers f.l g.l
theorem all_take {α : Type} {l : List α} {p : α → Bool} {k : Nat} {a : α} (h : l[k]? = some a) (hp : (l.take k).all p = true) (ha : p a = true) : (l.take (k + 1)).all p = true := by
  rw [List.take_add_one, List.all_append, hp, h]; simp [ha]
theorem filter_all {α : Type} {l : List α} {p : α → Bool} (h : l.all p = true) : l.filter p = l := by
  rw [List.filter_eq_self]; exact fun a ha => (List.all_eq_true.1 h) a ha
theorem filter_next {α : Type} {l : List α} {p : α → Bool} {k : Nat} {a : α} (h : l[k]? = some a) : (l.take (k + 1)).filter p = (l.take k).filter p ++ (if p a then [a] else []) := by
  rw [List.take_add_one, List.filter_append, h]
  cases hp : p a <;> simp [hp]
end Fi
/-- Where the first is that f covers. -/
def FirstPost (f : Ft) (L : List Ft) (w : World) (e : Ending) (w' : World) : Prop :=
  ((e = .returned (.int .i64 (-1)) ∧ L.all (Fi.stays f) = true) ∨ ∃ k g, e = .returned (.int .i64 ((k : Nat) : Int)) ∧ k < L.length ∧ L[k]? = some g ∧ Fi.stays f g = false ∧ (L.take k).all (Fi.stays f) = true) ∧ Below w.heap.size w w'

theorem run_clear_row {w : World} {g i n c : Nat} {cur : List Value} (hg : w.heap[g]? = some (.cells cur.toArray 31 (0, 0))) (hn : 0 < n) (hl : i + n ≤ cur.length) (ty : TypeId) :
    (Builtin.clear_ #[100] ty #[.slice (some ⟨g, i, none⟩) n c]).run Tryz.prog w = .ok (.tuple #[]) (w.setRow g (part cur i (List.replicate n (.slice none 0 0))).toArray) := by
  obtain ⟨nfo, hi, hz, -, -⟩ := info_at fil_info
  have hs := run_storeCells_at Tryz.prog g i 31 (List.replicate n (.slice none 0 0)) 0 cur.toArray w hg (by simp; omega) (by intro u hu; rw [List.eq_of_mem_replicate hu]; rfl)
  have hzc : (Builtin.zeroCells (Value.slice none 0 0).cells n).toList = List.replicate n (.slice none 0 0) := by
    simp only [Builtin.zeroCells, Value.cells]
    apply List.ext_getElem?
    intro k
    by_cases hk : k < n <;> simp [hk, Nat.mod_one]
  cases n with
  | zero => omega
  | succ m =>
    simp only [Nat.add_zero] at hs
    simp [Builtin.clear_, run_underlying Tryz.underlying100, zeroValue, typeInfo, hi, hz, hzc, hs, part]
/-- DeleteFunc on its way: of the first j those that stay are K, in the row's front. -/
structure DelSt (w wr : World) (g : Nat) (f : Ft) (L : List Ft) (tail : List Value) (j : Nat) (K : List Ft) : Prop where
  keeps : (L.take j).filter (Fi.stays f) = K
  row : ∃ ys : List Value, ys.length = j - K.length ∧ wr.heap[g]? = some (.cells (fflat K ++ (ys ++ (fflat (L.drop j) ++ tail))).toArray 31 (0, 0))
  less : K.length < j
  few : j ≤ L.length
  kept : Kept (· = g) w wr
theorem DelSt.next {w wr wx : World} {g j : Nat} {f : Ft} {L K : List Ft} {tail : List Value} (h : DelSt w wr g f L tail j K) (k : Below wr.heap.size wr wx) : DelSt w wx g f L tail j K := by
  obtain ⟨ys, hy, hr⟩ := h.row
  exact ⟨h.keeps, ⟨ys, hy, below_row k hr⟩, h.less, h.few, h.kept.then (Kept.ofBelow k)⟩
theorem fflat_len (L : List Ft) : (fflat L).length = L.length := by rw [flat_len _ Ft.cells_len, Nat.mul_one]
theorem fflat_add (L M : List Ft) : fflat (L ++ M) = fflat L ++ fflat M := List.flatMap_append
theorem fflat_drop {L : List Ft} {j : Nat} {y : Ft} (h : L[j]? = some y) : fflat (L.drop j) = y.v :: fflat (L.drop (j + 1)) := by
  rw [drop_at h]; rfl
theorem DelSt.at {w wr : World} {g j : Nat} {f y : Ft} {L K : List Ft} {tail : List Value} (h : DelSt w wr g f L tail j K) (hj : L[j]? = some y) : wr.cell? ⟨g, j, none⟩ = some y.v := by
  obtain ⟨ys, hy, hr⟩ := h.row
  have := h.less
  refine getrow hr ?_
  rw [List.getElem?_append_right (by rw [fflat_len]; omega), List.getElem?_append_right (by rw [fflat_len]; omega), fflat_len, hy, show j - K.length - (j - K.length) = 0 by omega, fflat_drop hj]
  rfl
theorem DelSt.pass {w wr : World} {g j : Nat} {f y : Ft} {L K : List Ft} {tail : List Value} (h : DelSt w wr g f L tail j K) (hj : L[j]? = some y) (hs : Fi.stays f y = false) : DelSt w wr g f L tail (j + 1) K := by
  obtain ⟨ys, hy, hr⟩ := h.row
  have hl := h.less
  have hjl : j < L.length := (List.getElem?_eq_some_iff.1 hj).1
  refine ⟨by rw [Fi.filter_next hj, h.keeps, hs]; simp, ⟨ys ++ [y.v], by simp; omega, ?_⟩, by omega, by omega, h.kept⟩
  rw [hr, fflat_drop hj]
  simp
theorem DelSt.put {w wr : World} {g j : Nat} {f y : Ft} {L K : List Ft} {tail : List Value} (h : DelSt w wr g f L tail j K) (hj : L[j]? = some y) (hs : Fi.stays f y = true) : DelSt w (wr.setCell ⟨g, K.length, none⟩ y.v) g f L tail (j + 1) (K ++ [y]) := by
  obtain ⟨ys, hy, hr⟩ := h.row
  have hl := h.less
  have hjl : j < L.length := (List.getElem?_eq_some_iff.1 hj).1
  refine ⟨by rw [Fi.filter_next hj, h.keeps, hs]; simp, ⟨ys.drop 1 ++ [y.v], by simp; omega, ?_⟩, by simp; omega, by omega, h.kept.then (Kept.setCell (S := (· = g)) _ _ rfl _)⟩
  have := heap_setCell_same wr g K.length _ _ y.v hr
  rw [this, fflat_drop hj, fflat_add]
  match ys, hy with
  | [], hy => simp at hy; omega
  | z :: ys, hy =>
    have e : (fflat K ++ (z :: ys ++ (y.v :: fflat (L.drop (j + 1)) ++ tail))).set K.length y.v = fflat K ++ fflat [y] ++ ((z :: ys).drop 1 ++ [y.v] ++ (fflat (L.drop (j + 1)) ++ tail)) := by
      rw [List.set_append_right _ _ (by rw [fflat_len]; omega), fflat_len, Nat.sub_self]
      simp [fflat, Ft.cells]
    rw [List.setIfInBounds_toArray, e]
theorem DelSt.cell {w wr : World} {g j : Nat} {f : Ft} {L K : List Ft} {tail : List Value} (h : DelSt w wr g f L tail j K) : ∃ u, wr.cell? ⟨g, K.length, none⟩ = some u ∧ wr.frozen? ⟨g, K.length, none⟩ = false := by
  obtain ⟨ys, hy, hr⟩ := h.row
  have hl := h.less
  match ys, hy with
  | [], hy => simp at hy; omega
  | z :: ys, hy =>
    refine ⟨z, getrow hr ?_, frozen_of_row _ _ _ _ _ hr⟩
    rw [List.getElem?_append_right (by rw [fflat_len]; omega), fflat_len, Nat.sub_self]
    rfl
/-- What DeleteFunc tells: those that f does not cover, in the row's own memory. -/
def DelPost (B : Nat) (v : Value) (f : Ft) (L : List Ft) (w : World) (e : Ending) (w' : World) : Prop :=
  ∃ v', e = .returned v' ∧ OwnF B w' v' (L.filter (Fi.stays f)) ∧ (∀ i, v'.ownBlock = some i → v.ownBlock = some i) ∧ Kept (fun i => v.ownBlock = some i) w w'
theorem DelSt.ends {B : Nat} {w wr : World} {g c : Nat} {f : Ft} {L K : List Ft} {tail : List Value} (h : DelSt w wr g f L tail L.length K) (hB : B ≤ g) (hc : L.length ≤ c) (hm : c ≤ maxLen) (ht : tail.length = c - L.length) :
    ∃ cur : List Value, wr.heap[g]? = some (.cells cur.toArray 31 (0, 0)) ∧ K.length + (L.length - K.length) ≤ cur.length ∧ 0 < L.length - K.length ∧
    DelPost B (.slice (some ⟨g, 0, none⟩) L.length c) f L w (.returned (.slice (some ⟨g, 0, none⟩) K.length c)) (wr.setRow g (part cur K.length (List.replicate (L.length - K.length) (.slice none 0 0))).toArray) := by
  obtain ⟨ys, hy, hr⟩ := h.row
  have hl := h.less
  have hk := h.keeps
  rw [List.take_length] at hk
  have hd : fflat (L.drop L.length) = [] := by rw [List.drop_length]; rfl
  rw [hd, List.nil_append] at hr
  refine ⟨_, hr, by rw [List.length_append, List.length_append, fflat_len, hy]; omega, by omega, _, rfl, ?_, fun i hi => hi, (h.kept.then (Kept.setRow _ _ _)).mono (fun i _ e => by rw [e]; rfl)⟩
  have hset := setRow_heap wr g _ (part (fflat K ++ (ys ++ tail)) K.length (List.replicate (L.length - K.length) (.slice none 0 0))).toArray _ _ hr
  have hpart : part (fflat K ++ (ys ++ tail)) K.length (List.replicate (L.length - K.length) (.slice none 0 0)) = fflat K ++ (List.replicate (L.length - K.length) (.slice none 0 0) ++ tail) := by
    unfold part
    rw [List.take_append_of_le_length (by rw [fflat_len]; omega), List.take_of_length_le (by rw [fflat_len]; omega), List.drop_append, fflat_len, List.drop_eq_nil_of_le (by rw [fflat_len]; simp), List.length_replicate, show K.length + (L.length - K.length) - K.length = ys.length by omega, List.nil_append, List.drop_append, List.drop_length]
    simp
  rw [hpart] at hset ⊢
  have hwg : g < wr.heap.size := (Array.getElem?_eq_some_iff.1 hr).1
  rw [hk]
  refine ⟨⟨by rw [fflat_len, Nat.mul_one], .inr ⟨g, c, _, rfl, hB, hset, by omega, hm, ?_, ?_⟩⟩, by simp; omega⟩
  · rw [List.size_toArray, List.length_append, List.length_append, List.length_replicate, fflat_len, ht]; omega
  · rw [Nat.mul_one]
    show List.take K.length (fflat K ++ _) = fflat K
    rw [List.take_append_of_le_length (by rw [fflat_len]; omega), List.take_of_length_le (by rw [fflat_len]; omega)]

end Go.Proofs.YtgenmebmdpnjhaaGreat

namespace Go.Proofs.YtgenmebmdpnjhaaGreat
open Go.RowKit
set_option linter.unusedVariables false

abbrev vzero : Value := vl 0 0 0 ⟨#[]⟩ false
abbrev freshv (w : World) (n : Nat) : World := w.alloc (.cells (madeCells vzero.cells (n * 5)) 64)
theorem make_vals (w : World) (n : Nat) (hn : n ≤ 2932031007317) : (Instr.makeSlice 96 (.int .i64 (n : Int)) (.int .i64 (n : Int))).run Tryz.prog w = .ok (.slice (some ⟨w.heap.size, 0, none⟩) n n) (freshv w n) := by
  obtain ⟨i, hi, hz, h1, h2⟩ := info_at val_info
  have := run_make (P := Tryz.prog) w 96 64 i _ Tryz.underlying96 hi hz .i64 .i64 n n (by omega) (Int.le_refl _) (by rw [h2]; omega) (by omega)
  rw [h1] at this
  exact this
theorem copy_vals {A : Option Addr} {n c : Nat} {l : List Val} (w : World) (h : Vs w A n l) (ty : TypeId) : (Builtin.copy_ #[96, 96] ty #[.slice (some ⟨w.heap.size, 0, none⟩) n n, .slice A n c]).run Tryz.prog (freshv w n) = .ok (goInt n) ((freshv w n).setRow w.heap.size (vflat l).toArray) := by
  have hm : madeCells vzero.cells (n * 5) = (madeCells vzero.cells (n * 5)).toList.toArray := by simp
  refine run_copyw (freshv w n) _ _ ty 64 n n c w.heap.size A (madeCells vzero.cells (n * 5)).toList (vflat l) Tryz.underlying96 (by kernel_rfl) ?_ ?_ (h.row.later (one_new _ _)) (vflat_one l)
  · rw [← hm]; exact heap_alloc_new _ _
  · simp [madeCells]
/-- A Set in memory that the call made. -/
def SetPost (w : World) (l : List Val) (e : Ending) (w' : World) : Prop :=
  ∃ (A : Option Addr) (c : Nat), e = .returned (.slice A l.length c) ∧ OwnV w.heap.size w' (.slice A l.length c) l ∧ Below w.heap.size w w'

abbrev pzero : Value := pv ⟨⟨#[]⟩, 0, ⟨0, 0, 0, ⟨#[]⟩, false⟩, ⟨0, 0, 0, ⟨#[]⟩, false⟩, []⟩ none 0 0
abbrev freshp (w : World) (n : Nat) : World := w.alloc (.cells (madeCells pzero.cells (n * 13)) 98)
theorem make_prds (w : World) (n : Nat) (hn : n ≤ 1000000) : (Instr.makeSlice 31 (.int .i64 (n : Int)) (.int .i64 (n : Int))).run Tryz.prog w = .ok (.slice (some ⟨w.heap.size, 0, none⟩) n n) (freshp w n) := by
  obtain ⟨i, hi, hz, h1, h2⟩ := info_at prd_info
  have := run_make (P := Tryz.prog) w 31 98 i _ Tryz.underlying31 hi hz .i64 .i64 n n (by omega) (Int.le_refl _) (by rw [h2]; omega) (by omega)
  rw [h1] at this
  exact this
/-- A copy that is under way: the first of the row g are laid, the others are room. -/
structure Mid (w wr : World) (g n : Nat) (m : List Pt) (ps : List Prd) : Prop where
  map : m.map (·.p) = ps
  row : ∃ rest : List Value, rest.length = (n - m.length) * 13 ∧ wr.heap[g]? = some (.cells (pflat m ++ rest).toArray 98 (0, 0))
  few : m.length ≤ n
  sets : ∀ x, x ∈ m → OwnS w.heap.size wr x
  below : Below w.heap.size w wr
  hg : w.heap.size ≤ g
theorem Mid.later {w wr wx : World} {g n : Nat} {m : List Pt} {ps : List Prd} (h : Mid w wr g n m ps) (k : Below wr.heap.size wr wx) : Mid w wx g n m ps := by
  obtain ⟨rest, hl, hr⟩ := h.row
  exact ⟨h.map, ⟨rest, hl, below_row k hr⟩, h.few, fun x hx => (h.sets x hx).later k, below_then h.below k, h.hg⟩
theorem Mid.turn {w wr wx : World} {g n q : Nat} {m : List Pt} {ps : List Prd} {cs : Array Value} {fr : Nat × Nat} (h : Mid w wr g n m ps) (k : Kept (· = q) wr wx) (hq : wr.heap[q]? = some (.cells cs 98 fr)) (hw : w.heap.size ≤ q) (ne : g ≠ q) : Mid w wx g n m ps := by
  obtain ⟨rest, hl, hr⟩ := h.row
  exact ⟨h.map, ⟨rest, hl, k.row hr ne⟩, h.few, fun x hx => (h.sets x hx).kept k (ownw_not (h.sets x hx) hq val_pred), h.below.trans (k.below h.below.size (by intro i hi e; omega)), h.hg⟩
theorem part_mid {m : List Pt} {rest : List Value} {x : Pt} (h : 13 ≤ rest.length) : part (pflat m ++ rest) (m.length * 13) x.cells = pflat (m ++ [x]) ++ rest.drop 13 := by
  have hl : (pflat m).length = m.length * 13 := flat_len _ Pt.cells_len m
  unfold part
  rw [List.take_append_of_le_length (by omega), List.take_of_length_le (by omega), List.drop_append, List.drop_eq_nil_of_le (by omega), Pt.cells_len]
  rw [show m.length * 13 + 13 - (pflat m).length = 13 by omega]
  unfold pflat
  rw [List.flatMap_append]
  simp
/-- The next one is laid. -/
theorem Mid.put {w wr : World} {g n : Nat} {m : List Pt} {ps : List Prd} {x : Pt} {rest : List Value} (h : Mid w wr g n m ps) (hs : OwnS w.heap.size wr x) (hl : rest.length = (n - m.length) * 13) (hr : wr.heap[g]? = some (.cells (pflat m ++ rest).toArray 98 (0, 0))) (hn : m.length < n) :
    Mid w (wr.setRow g (part (pflat m ++ rest) (m.length * 13) x.cells).toArray) g n (m ++ [x]) (ps ++ [x.p]) := by
  have k := Kept.setRow wr g (part (pflat m ++ rest) (m.length * 13) x.cells).toArray
  have h13 : 13 ≤ rest.length := by
    rw [hl]
    have : 1 * 13 ≤ (n - m.length) * 13 := Nat.mul_le_mul_right 13 (by omega)
    omega
  refine ⟨by rw [List.map_append, h.map]; rfl, ⟨rest.drop 13, ?_, ?_⟩, by simp; omega, ?_, h.below.trans (k.below h.below.size (by intro i hi e; have := h.hg; omega)), h.hg⟩
  · rw [List.length_drop, hl, List.length_append, List.length_singleton]; omega
  · have := setRow_heap wr g _ (part (pflat m ++ rest) (m.length * 13) x.cells).toArray _ _ hr
    rw [part_mid h13] at this
    rw [part_mid h13]
    exact this
  · intro y hy
    have hy' : OwnS w.heap.size wr y := by
      rcases List.mem_append.1 hy with hy | hy
      · exact h.sets y hy
      · rw [List.mem_singleton.1 hy]; exact hs
    exact hy'.kept k (ownw_not hy' hr val_pred)
theorem Mid.cop {w wr : World} {g n : Nat} {m : List Pt} {ps : List Prd} (h : Mid w wr g n m ps) (hn : m.length = n) (hm : n ≤ 1000) : Cop w wr (.slice (some ⟨g, 0, none⟩) n n) m ps := by
  obtain ⟨rest, hl, hr⟩ := h.row
  have h0 : rest = [] := List.eq_nil_of_length_eq_zero (by rw [hl]; omega)
  subst hn
  subst h0
  rw [List.append_nil] at hr
  exact ⟨h.map, OwnW.of_row h.hg hr (flat_len _ Pt.cells_len m) (by unfold maxLen; omega), h.sets, h.below⟩

end Go.Proofs.YtgenmebmdpnjhaaGreat

namespace Go.Proofs.YtgenmebmdpnjhaaGreat
open Go.RowKit
set_option linter.unusedVariables false

namespace Fi
/-- One more filter. -/
def step (row : List Ft) (f : Ft) : List Ft := if covered f row then row else row.filter (stays f) ++ [f]
def reduce (L : List Ft) : List Ft := L.foldl step []
theorem step_mem {row : List Ft} {f g : Ft} (h : g ∈ step row f) : g ∈ row ∨ g = f := by
  unfold step at h
  split at h
  · exact .inl h
  · rcases List.mem_append.1 h with h | h
    · exact .inl (List.mem_filter.1 h).1
    · exact .inr (List.mem_singleton.1 h)
theorem step_len (row : List Ft) (f : Ft) : (step row f).length ≤ row.length + 1 := by
  unfold step
  split
  · omega
  · rw [List.length_append, List.length_singleton]; have := List.length_filter_le (stays f) row; omega
theorem fold_mem : ∀ (L row : List Ft) {g : Ft}, g ∈ L.foldl step row → g ∈ row ∨ g ∈ L
  | [], row, g, h => .inl h
  | f :: L, row, g, h => by
    rcases fold_mem L (step row f) h with h | h
    · rcases step_mem h with h | rfl
      · exact .inl h
      · exact .inr (by simp)
    · exact .inr (by simp [h])
theorem fold_len : ∀ (L row : List Ft), (L.foldl step row).length ≤ row.length + L.length
  | [], row => by simp
  | f :: L, row => by
    have h1 := fold_len L (step row f)
    have h2 := step_len row f
    simp only [List.foldl_cons, List.length_cons]
    omega
theorem reduce_mem {L : List Ft} {g : Ft} (h : g ∈ reduce L) : g ∈ L := by
  rcases fold_mem L [] h with h | h
  · simp at h
  · exact h
theorem reduce_len (L : List Ft) : (reduce L).length ≤ L.length := by have := fold_len L []; simpa [reduce] using this
theorem reduce_next {L : List Ft} {k : Nat} {f : Ft} (h : L[k]? = some f) : reduce (L.take (k + 1)) = step (reduce (L.take k)) f := by
  unfold reduce
  rw [List.take_add_one, h, List.foldl_append]
  rfl
/-- The tests of a filter, where they lie apart. -/
def tests (f : Ft) : List Prd := f.l.map (·.p)
end Fi
/-- A filter all of which the call made. -/
structure Owned (B : Nat) (w : World) (f : Ft) : Prop where
  row : OwnP B w f.v f.l
  sets : ∀ x, x ∈ f.l → OwnS B w x
theorem Owned.later {B : Nat} {w w' : World} {f : Ft} (h : Owned B w f) (k : Below w.heap.size w w') : Owned B w' f := ⟨h.row.later k, fun x hx => (h.sets x hx).later k⟩
theorem Owned.sub {B C : Nat} {w : World} {f : Ft} (h : Owned B w f) (hc : C ≤ B) : Owned C w f := ⟨ownw_sub h.row hc, fun x hx => ownw_sub (h.sets x hx) hc⟩
theorem fil_types : (64 : TypeId) ≠ 31 ∧ (98 : TypeId) ≠ 31 := by decide
theorem Owned.turn {B g : Nat} {w w' : World} {f : Ft} {cs : Array Value} {fr : Nat × Nat} (h : Owned B w f) (k : Kept (· = g) w w') (hg : w.heap[g]? = some (.cells cs 31 fr)) : Owned B w' f :=
  ⟨h.row.kept k (ownw_not h.row hg fil_types.2), fun x hx => (h.sets x hx).kept k (ownw_not (h.sets x hx) hg fil_types.1)⟩
theorem Owned.is {B : Nat} {w : World} {f : Ft} (h : Owned B w f) (hf : ∀ p, p ∈ Fi.tests f → Pd.Fits p) : IsFt w f := by
  obtain ⟨A, c, e, hc, hm, hr, -, -, h0⟩ := h.row.reads
  unfold Ft.v at e
  cases e
  exact ⟨⟨hr, fun x hx => (h.sets x hx).is (hf _ (List.mem_map_of_mem hx)), by unfold maxLen at hm; omega⟩, h0⟩
theorem FilterPost.own {w w' : World} {e : Ending} {ps : List Prd} (h : FilterPost ps w e w') : ∃ f : Ft, e = .returned f.v ∧ Fi.tests f = ps ∧ Owned w.heap.size w' f ∧ Below w.heap.size w w' := by
  obtain ⟨v, m, rfl, hc⟩ := h
  obtain ⟨A, c, rfl, -⟩ := hc.own.reads
  exact ⟨⟨A, c, m⟩, rfl, hc.map, ⟨hc.own, hc.sets⟩, hc.below⟩
abbrev freshf (w : World) (n : Nat) : World := w.alloc (.cells (madeCells (Value.slice none 0 0).cells (n * 1)) 31)
theorem make_fils (w : World) (n : Nat) (hn : n ≤ 1000000) : (Instr.makeSlice 100 (.int .i64 (n : Int)) (.int .i64 (n : Int))).run Tryz.prog w = .ok (.slice (some ⟨w.heap.size, 0, none⟩) n n) (freshf w n) := by
  obtain ⟨i, hi, hz, h1, h2⟩ := info_at fil_info
  have := run_make (P := Tryz.prog) w 100 31 i _ Tryz.underlying100 hi hz .i64 .i64 n n (by omega) (Int.le_refl _) (by rw [h2]; omega) (by omega)
  rw [h1] at this
  exact this
/-- A row of copies that is under way. -/
structure MidF (w wr : World) (g n : Nat) (M : List Ft) (ts : List (List Prd)) : Prop where
  map : M.map Fi.tests = ts
  row : ∃ rest : List Value, rest.length = n - M.length ∧ wr.heap[g]? = some (.cells (fflat M ++ rest).toArray 31 (0, 0))
  few : M.length ≤ n
  each : ∀ f, f ∈ M → Owned w.heap.size wr f
  below : Below w.heap.size w wr
  hg : w.heap.size ≤ g
theorem MidF.later {w wr wx : World} {g n : Nat} {M : List Ft} {ts : List (List Prd)} (h : MidF w wr g n M ts) (k : Below wr.heap.size wr wx) : MidF w wx g n M ts := by
  obtain ⟨rest, hl, hr⟩ := h.row
  exact ⟨h.map, ⟨rest, hl, below_row k hr⟩, h.few, fun f hf => (h.each f hf).later k, below_then h.below k, h.hg⟩
theorem MidF.cell {w wr : World} {g n : Nat} {M : List Ft} {ts : List (List Prd)} (h : MidF w wr g n M ts) (hn : M.length < n) : ∃ u, wr.cell? ⟨g, M.length, none⟩ = some u ∧ wr.frozen? ⟨g, M.length, none⟩ = false := by
  obtain ⟨rest, hl, hr⟩ := h.row
  match rest, hl with
  | [], hl => simp at hl; omega
  | u :: rest, hl =>
    refine ⟨u, getrow hr ?_, frozen_of_row _ _ _ _ _ hr⟩
    rw [List.getElem?_append_right (by rw [fflat_len]; omega), fflat_len, Nat.sub_self]
    rfl
theorem MidF.put {w wr : World} {g n : Nat} {M : List Ft} {ts : List (List Prd)} {f : Ft} (h : MidF w wr g n M ts) (hf : Owned w.heap.size wr f) (hn : M.length < n) : MidF w (wr.setCell ⟨g, M.length, none⟩ f.v) g n (M ++ [f]) (ts ++ [Fi.tests f]) := by
  obtain ⟨rest, hl, hr⟩ := h.row
  have k : Kept (· = g) wr (wr.setCell ⟨g, M.length, none⟩ f.v) := Kept.setCell (S := (· = g)) _ _ rfl _
  refine ⟨by rw [List.map_append, h.map]; rfl, ⟨rest.drop 1, by simp; omega, ?_⟩, by simp; omega, ?_, h.below.trans (k.below h.below.size (by intro i hi e; have := h.hg; omega)), h.hg⟩
  · have := heap_setCell_same wr g M.length _ _ f.v hr
    rw [this]
    match rest, hl with
    | [], hl => simp at hl; omega
    | u :: rest, hl =>
      have e : (fflat M ++ (u :: rest)).set M.length f.v = fflat (M ++ [f]) ++ (u :: rest).drop 1 := by
        rw [List.set_append_right _ _ (by rw [fflat_len]; omega), fflat_len, Nat.sub_self, fflat_add]
        simp [fflat, Ft.cells]
      rw [List.setIfInBounds_toArray, e]
  · intro y hy
    have hy' : Owned w.heap.size wr y := by
      rcases List.mem_append.1 hy with hy | hy
      · exact h.each y hy
      · rw [List.mem_singleton.1 hy]; exact hf
    exact hy'.turn k hr
/-- How Reduce and copyAll end: such filters, all in memory that the call made. -/
def RowPost (ts : List (List Prd)) (w : World) (e : Ending) (w' : World) : Prop :=
  ∃ (v : Value) (M : List Ft), e = .returned v ∧ M.map Fi.tests = ts ∧ OwnF w.heap.size w' v M ∧ (∀ f, f ∈ M → Owned w.heap.size w' f) ∧ Below w.heap.size w w'

theorem new_ft (w : World) (f : Ft) : Rs 1 (w.alloc (.cells #[.slice f.A f.l.length f.c] 31)) (some ⟨w.heap.size, 0, none⟩) 1 (fflat [f]) := by
  refine ⟨rfl, .inr ⟨w.heap.size, 0, rfl, fun j u hj => ?_⟩⟩
  rw [World.cell?_alloc_new, Nat.zero_add]
  simpa [fflat, Ft.cells, Ft.v] using hj
theorem ownf_add {B : Nat} {w : World} {v : Value} {L : List Ft} {f : Ft} (h : OwnW 1 B 31 w v (L.length + 1) (fflat L ++ fflat [f])) : OwnF B w v (L ++ [f]) := by
  unfold OwnF
  rw [List.length_append, List.length_singleton, fflat_add]
  exact h

end Go.Proofs.YtgenmebmdpnjhaaGreat
