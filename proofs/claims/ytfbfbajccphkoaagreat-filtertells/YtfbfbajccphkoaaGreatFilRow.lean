
/- Rows of filters; the contracts of filter.Takes, Any, covered, Right. -/
import Derived.Test.YtfbfbajccphkoaaGreatFilLoop
import Derived.Test.YtfbfbajccphkoaaGreatAtt
import Derived.Test.YtfbfbajccphkoaaGreatAttRight
namespace Go.Proofs.YtfbfbajccphkoaaGreat
open Go.RowKit
set_option linter.unusedVariables false

/-- A filter and where it lies. -/
structure Ft where
  A : Option Addr
  c : Nat
  l : List Pt
def Ft.v (f : Ft) : Value := .slice f.A f.l.length f.c
def Ft.cells (f : Ft) : List Value := [f.v]
theorem Ft.cells_len (f : Ft) : f.cells.length = 1 := rfl
abbrev fflat (L : List Ft) : List Value := L.flatMap Ft.cells
theorem fflat_one (L : List Ft) : ∀ u ∈ fflat L, u.oneCell' = true := by
  intro u hu
  obtain ⟨a, -, ha⟩ := List.mem_flatMap.1 hu
  rw [List.mem_singleton.1 ha]
  rfl
theorem fflat_get {L : List Ft} {i : Nat} {f : Ft} (h : L[i]? = some f) : (fflat L)[i]? = some f.v := by
  have := flat_get Ft.cells Ft.cells_len L i 0 f h (by omega)
  rw [Nat.mul_one, Nat.add_zero] at this
  exact this
theorem fil_info : (Tryz.prog.info? 22).map (fun i => (i.zero, i.size, i.bytes)) = some (some (.slice none 0 0), 1, 24) := by kernel_rfl
/-- What is right of a filter as memory holds it. -/
structure IsFt (w : World) (f : Ft) : Prop where
  ps : Ps w f.A f.l.length f.l
  none_ : f.A = none → f.l.length = 0 ∧ f.c = 0
theorem IsFt.later {w w' : World} {f : Ft} (h : IsFt w f) (k : Below w.heap.size w w') : IsFt w' f := ⟨h.ps.later k, h.none_⟩
/-- A slice reads as a row of filters. -/
structure Fs (w : World) (A : Option Addr) (n : Nat) (L : List Ft) : Prop where
  row : Rs 1 w A n (fflat L)
  each : ∀ f, f ∈ L → IsFt w f
  few : n ≤ 9223372036854775807
theorem Fs.len {w : World} {A : Option Addr} {n : Nat} {L : List Ft} (h : Fs w A n L) : L.length = n := by
  have := h.row.1
  rw [flat_len _ Ft.cells_len] at this
  omega
theorem Fs.later {w w' : World} {A : Option Addr} {n : Nat} {L : List Ft} (h : Fs w A n L) (k : Below w.heap.size w w') : Fs w' A n L := ⟨h.row.later k, fun f hf => (h.each f hf).later k, h.few⟩
theorem Fs.cells {w wr : World} {A : Option Addr} {n : Nat} {L : List Ft} (h : Fs w A n L) (hb : Below w.heap.size w wr) {k : Nat} (hk : k < L.length) :
    ∃ g o f, A = some ⟨g, o, none⟩ ∧ L[k]? = some f ∧ IsFt wr f ∧ wr.cell? ⟨g, o + k, none⟩ = some (.slice f.A f.l.length f.c) := by
  obtain ⟨f, hf⟩ : ∃ f, L[k]? = some f := ⟨_, List.getElem?_eq_getElem hk⟩
  have hg := fflat_get hf
  rcases h.row.2 with h1 | ⟨g, o, rfl, hc⟩
  · rw [h1] at hg; simp at hg
  · have hc := hc k _ hg
    exact ⟨g, o, f, rfl, hf, (h.each f (List.mem_of_getElem? hf)).later hb, (hb.cell (cell_lt hc)).trans hc⟩
abbrev OwnF (B : Nat) (w : World) (v : Value) (L : List Ft) : Prop := OwnW 1 B 22 w v L.length (fflat L)

namespace Fi
/-- Is p's attribute there, and taken? -/
def takes1 (a : List Att) (p : Prd) : Bool := At.has a p.name && (Pd.right p && Pd.takes p (At.got a p.name))
def takes (f : List Pt) (a : List Att) : Bool := f.all fun p => takes1 a p.p
def any (L : List Ft) (a : List Att) : Bool := L.any fun f => takes f.l a
def covered (f : Ft) (L : List Ft) : Bool := L.any fun g => covers g.l f.l
/-- Is the one at k right, and its Name not below that of the one ahead? -/
def rightAt (f : List Pt) (k : Nat) : Bool := match f[k]? with
  | none => false
  | some x => Pd.right x.p && (match k with
    | 0 => true
    | j + 1 => match f[j]? with
      | none => false
      | some y => !Op.bytesLess x.p.name.toList y.p.name.toList)
def right (f : List Pt) : Bool := decide (f.length ≤ 3) && (List.range f.length).all (rightAt f)
end Fi
theorem got_fit {l : List Att} (h : ∀ a, a ∈ l → Fit a.v) (s : ByteArray) : Fit (At.got l s) := by
  unfold At.got
  split
  · rename_i a ha
    exact h a (List.mem_of_find?_eq_some ha)
  · exact ⟨by decide, by decide, by decide⟩

set_option maxRecDepth 100000 in
set_option maxHeartbeats 8000000 in
theorem ftakes_any {A B : Option Addr} {n c n' c' : Nat} {l : List Pt} {a : List Att} {w : World} (h : Ps w A n l) (h' : Ats w B n' a) (hfit : ∀ x, x ∈ a → Fit x.v) :
    Calls Tryz.prog 11 #[.slice A n c, .slice B n' c'] w fun e w' => e = .returned (.bool (Fi.takes l a)) ∧ Below w.heap.size w w' := by
  obtain rfl := h.len.symm
  have hn := h.few
  have HA := Lib.hid h
  have HM := Lib.hid h'
  have HF := Lib.hid hfit
  have hst := store_float
  clear h h' hfit
  go_enter Tryz.func11, Tryz.ntmps11
  go_wp2_with fail
  go_loopw [11] (fun ii wr => ∃ k : Nat, k ≤ l.length ∧ ii = .int .i64 (k : Int) ∧ Fi.takes l a = (l.drop k).all (fun p => Fi.takes1 a p.p) ∧ Below w.heap.size w wr) (fun ii _ => l.length - (intOf ii).toNat)
  case atStart => exact ⟨0, by omega, rfl, rfl, Below.refl _ _⟩
  case round =>
    obtain ⟨k, hk, rfl, hl, hB⟩ := hrel
    have HL := Lib.hid hl
    have HB := Lib.hid hB
    clear hl hB
    by_cases hlt : k < l.length
    · obtain ⟨g, o, y, rfl, hy, hi, hc, -⟩ := HA.out.cells HB.out hlt
      have HG := Lib.hid hc
      have HY := Lib.hid hy
      have HI := Lib.hid hi
      clear hy hi hc
      go_upto_region 4 with (first | (refine wpList_load_at rfl 48 _ rfl g (o + k * 13) y.cells _ rfl HG.out Tryz.underlying48 rfl prd_size ?_; dsimp only [Pt.cells]))
      have hn1 := one_new wr y.box
      have HB1 := Lib.hid (below_then HB.out hn1)
      have HI1 := Lib.hid (HI.out.later hn1)
      have HM1 := Lib.hid (HM.out.later (below_then HB.out hn1))
      have HN := Lib.hid (heap_alloc_new wr y.box)
      clear hn1 HB HI HG
      dsimp only [Pt.box, Pt.cells] at HB1 HI1 HM1 HN
      generalize wr.heap.size = gp at HN ⊢
      generalize wr.alloc _ = w1 at HB1 HI1 HM1 HN ⊢
      have hgp : gp < w1.heap.size := row_lt HN.out
      have c0 : w1.cell? ⟨gp, 0, none⟩ = some (.string y.p.name) := cell_of_row _ _ 0 _ _ _ HN.out
      go_wp2_with fail
      refine (get_any (s := y.p.name) HM1.out).mono ?_
      rintro e w2 ⟨rfl, hb⟩
      have HB2 := Lib.hid (below_then HB1.out hb)
      have HN2 := Lib.hid (below_row hb HN.out)
      have HI2 := Lib.hid (HI1.out.later hb)
      have hgp2 : gp < w2.heap.size := row_lt HN2.out
      clear hb HB1 HN HI1 HM1 c0
      unfold gotv
      have hft := got_fit HF.out y.p.name
      have ht : Fi.takes1 a y.p = (At.has a y.p.name && (Pd.right y.p && Pd.takes y.p (At.got a y.p.name))) := rfl
      generalize At.got a y.p.name = v at hft ht ⊢
      generalize At.has a y.p.name = b at ht ⊢
      have HFV := Lib.hid hft
      clear hft
      obtain ⟨vk, vn, vx, vs, vb⟩ := v
      go_upto_region 5 with fail
      have hn1 := one_new w2 (vbox ⟨vk, vn, vx, vs, vb⟩)
      have HB3 := Lib.hid (below_then HB2.out hn1)
      have HI3 := Lib.hid (HI2.out.later hn1)
      have HN3 := Lib.hid (below_row hn1 HN2.out)
      have HV := Lib.hid (heap_alloc_new w2 (vbox ⟨vk, vn, vx, vs, vb⟩))
      clear hn1 HB2 HI2 HN2 hgp2
      dsimp only [vbox] at HB3 HI3 HN3 HV
      generalize w2.heap.size = gv at HV ⊢
      generalize w2.alloc _ = w3 at HB3 HI3 HN3 HV ⊢
      have HV : Hid (w3.heap[gv]? = some (vbox ⟨vk, vn, vx, vs, vb⟩)) := HV
      cases b
      · have HM2 := Lib.hid (Fi.all_bad (f := fun p : Pt => Fi.takes1 a p.p) HY.out ht)
        go_wp2_with fail
        go_ret
        exact ⟨by rw [show Fi.takes l a = false from HM2.out]; rfl, HB3.out⟩
      · obtain ⟨c0, c1, c2, c3, c4, c5, c6, c7, c8, c9, c10, c11, c12, -⟩ := thirteen (p := y.p) HN3.out
        obtain ⟨a0, a1, a2, a3, a4, -⟩ := five HV.out
        go_wp2_with fail
        refine (ptakes_any (v := ⟨vk, vn, vx, vs, vb⟩) HI3.out.is HFV.out).mono ?_
        rintro e w4 ⟨rfl, hb⟩
        have HB4 := Lib.hid (below_then HB3.out hb)
        clear hb c0 c1 c2 c3 c4 c5 c6 c7 c8 c9 c10 c11 c12 a0 a1 a2 a3 a4
        cases hr : (Pd.right y.p && Pd.takes y.p ⟨vk, vn, vx, vs, vb⟩)
        · have HM2 := Lib.hid (Fi.all_bad (f := fun p : Pt => Fi.takes1 a p.p) HY.out (ht.trans (by rw [hr]; rfl)))
          go_wp2_with fail
          go_ret
          exact ⟨by rw [show Fi.takes l a = false from HM2.out]; rfl, HB4.out⟩
        · have HM2 := Lib.hid (Fi.all_good (f := fun p : Pt => Fi.takes1 a p.p) HY.out HL.out (ht.trans (by rw [hr]; rfl)))
          go_wp2_with fail
          exact ⟨⟨k + 1, by omega, rfl, HM2.out, HB4.out⟩, by simp [intOf]; omega⟩
    · have HM2 := Lib.hid (Fi.all_end hlt HL.out)
      go_wp2_with fail
      go_ret
      exact ⟨by rw [show Fi.takes l a = true from HM2.out]; rfl, HB.out⟩

set_option maxRecDepth 100000 in
set_option maxHeartbeats 8000000 in
theorem fany_any {A B : Option Addr} {n c n' c' : Nat} {L : List Ft} {a : List Att} {w : World} (h : Fs w A n L) (h' : Ats w B n' a) (hfit : ∀ x, x ∈ a → Fit x.v) :
    Calls Tryz.prog 19 #[.slice A n c, .slice B n' c'] w fun e w' => e = .returned (.bool (Fi.any L a)) ∧ Below w.heap.size w w' := by
  obtain rfl := h.len.symm
  have hn := h.few
  have HA := Lib.hid h
  have HM := Lib.hid h'
  have HF := Lib.hid hfit
  clear h h' hfit
  go_enter Tryz.func19, Tryz.ntmps19
  go_wp2_with fail
  go_loopw [9] (fun ii wr => ∃ k : Nat, k ≤ L.length ∧ ii = .int .i64 (k : Int) ∧ Fi.any L a = (L.drop k).any (fun f => Fi.takes f.l a) ∧ Below w.heap.size w wr) (fun ii _ => L.length - (intOf ii).toNat)
  case atStart => exact ⟨0, by omega, rfl, rfl, Below.refl _ _⟩
  case round =>
    obtain ⟨k, hk, rfl, hl, hB⟩ := hrel
    have HL := Lib.hid hl
    have HB := Lib.hid hB
    clear hl hB
    by_cases hlt : k < L.length
    · obtain ⟨g, o, f, rfl, hf, hi, hc⟩ := HA.out.cells HB.out hlt
      have HY := Lib.hid hf
      have HI := Lib.hid hi
      clear hf hi
      go_wp2_with fail
      refine (ftakes_any HI.out.ps (HM.out.later HB.out) HF.out).mono ?_
      rintro e w2 ⟨rfl, hb⟩
      have HB2 := Lib.hid (below_then HB.out hb)
      clear hb hc
      cases hr : Fi.takes f.l a
      · have HM2 := Lib.hid (Fi.any_bad (f := fun f : Ft => Fi.takes f.l a) HY.out HL.out hr)
        go_wp2_with fail
        exact ⟨⟨k + 1, by omega, rfl, HM2.out, HB2.out⟩, by simp [intOf]; omega⟩
      · have HM2 : Hid (Fi.any L a = true) := Fi.any_good (f := fun f : Ft => Fi.takes f.l a) HY.out hr
        go_wp2_with fail
        go_ret
        exact ⟨by rw [HM2.out]; rfl, HB2.out⟩
    · have HM2 := Lib.hid (Fi.any_end hlt HL.out)
      go_wp2_with fail
      go_ret
      exact ⟨by rw [show Fi.any L a = false from HM2.out]; rfl, HB.out⟩

set_option maxRecDepth 100000 in
set_option maxHeartbeats 8000000 in
theorem covered_any {A : Option Addr} {n c : Nat} {L : List Ft} {f : Ft} {w : World} (hf : IsFt w f) (h : Fs w A n L) :
    Calls Tryz.prog 44 #[.slice f.A f.l.length f.c, .slice A n c] w fun e w' => e = .returned (.bool (Fi.covered f L)) ∧ Below w.heap.size w w' := by
  obtain rfl := h.len.symm
  have hn := h.few
  have HA := Lib.hid h
  have HM := Lib.hid hf
  clear h hf
  go_enter Tryz.func44, Tryz.ntmps44
  go_wp2_with fail
  go_loopw [9] (fun ii wr => ∃ k : Nat, k ≤ L.length ∧ ii = .int .i64 (k : Int) ∧ Fi.covered f L = (L.drop k).any (fun g => Fi.covers g.l f.l) ∧ Below w.heap.size w wr) (fun ii _ => L.length - (intOf ii).toNat)
  case atStart => exact ⟨0, by omega, rfl, rfl, Below.refl _ _⟩
  case round =>
    obtain ⟨k, hk, rfl, hl, hB⟩ := hrel
    have HL := Lib.hid hl
    have HB := Lib.hid hB
    clear hl hB
    by_cases hlt : k < L.length
    · obtain ⟨g, o, y, rfl, hf, hi, hc⟩ := HA.out.cells HB.out hlt
      have HY := Lib.hid hf
      have HI := Lib.hid hi
      clear hf hi
      go_wp2_with fail
      refine (covers_any HI.out.ps (HM.out.later HB.out).ps).mono ?_
      rintro e w2 ⟨rfl, hb⟩
      have HB2 := Lib.hid (below_then HB.out hb)
      clear hb hc
      cases hr : Fi.covers y.l f.l
      · have HM2 := Lib.hid (Fi.any_bad (f := fun g : Ft => Fi.covers g.l f.l) HY.out HL.out hr)
        go_wp2_with fail
        exact ⟨⟨k + 1, by omega, rfl, HM2.out, HB2.out⟩, by simp [intOf]; omega⟩
      · have HM2 : Hid (Fi.covered f L = true) := Fi.any_good (f := fun g : Ft => Fi.covers g.l f.l) HY.out hr
        go_wp2_with fail
        go_ret
        exact ⟨by rw [HM2.out]; rfl, HB2.out⟩
    · have HM2 := Lib.hid (Fi.any_end hlt HL.out)
      go_wp2_with fail
      go_ret
      exact ⟨by rw [show Fi.covered f L = false from HM2.out]; rfl, HB.out⟩
end Go.Proofs.YtfbfbajccphkoaaGreat
