
/- Filters: words on rows of tests; the contracts of what package filter asks of them: implied, Covers, Same. -/
import Derived.Test.YtgenmebmdpnjhaaFil
import Derived.Test.YtgenmebmdpnjhaaPrd6
namespace Go.Proofs.Ytgenmebmdpnjhaa
open Go.RowKit
set_option linter.unusedVariables false

namespace Fi
theorem all_bad {α : Type} {l : List α} {f : α → Bool} {k : Nat} {a : α} (h : l[k]? = some a) (hf : f a = false) : l.all f = false := by
  rw [List.all_eq_false]; exact ⟨a, List.mem_of_getElem? h, by simp [hf]⟩
theorem all_good {α : Type} {l : List α} {f : α → Bool} {k : Nat} {a : α} (h : l[k]? = some a) (hp : l.all f = (l.drop k).all f) (hf : f a = true) : l.all f = (l.drop (k + 1)).all f := by
  rw [hp, drop_at h, List.all_cons, hf]; rfl
theorem all_end {α : Type} {l : List α} {f : α → Bool} {k : Nat} (h : ¬ k < l.length) (hp : l.all f = (l.drop k).all f) : l.all f = true := by
  rw [hp, List.drop_eq_nil_of_le (by omega)]; rfl
theorem any_good {α : Type} {l : List α} {f : α → Bool} {k : Nat} {a : α} (h : l[k]? = some a) (hf : f a = true) : l.any f = true := by
  rw [List.any_eq_true]; exact ⟨a, List.mem_of_getElem? h, hf⟩
theorem any_bad {α : Type} {l : List α} {f : α → Bool} {k : Nat} {a : α} (h : l[k]? = some a) (hp : l.any f = (l.drop k).any f) (hf : f a = false) : l.any f = (l.drop (k + 1)).any f := by
  rw [hp, drop_at h, List.any_cons, hf]; rfl
theorem any_end {α : Type} {l : List α} {f : α → Bool} {k : Nat} (h : ¬ k < l.length) (hp : l.any f = (l.drop k).any f) : l.any f = false := by
  rw [hp, List.drop_eq_nil_of_le (by omega)]; rfl
/-- Does one of g, by itself, imply p? -/
def implied (p : Prd) (g : List Pt) : Bool := g.any fun q => (q.p.name.toList == p.name.toList) && Pd.implies q.p p
def void (g : List Pt) : Bool := g.any fun q => Pd.right q.p && Pd.void q.p
def covers (f g : List Pt) : Bool := void g || f.all fun p => implied p.p g
def same : List Pt → List Pt → Bool
  | [], [] => true
  | a :: l, b :: m => Pd.same a.p b.p && same l m
  | _, _ => false
theorem same_len : ∀ {l m : List Pt}, same l m = true → l.length = m.length
  | [], [], _ => rfl
  | a :: l, b :: m, h => by simp only [same, Bool.and_eq_true] at h; simp [same_len h.2]
  | [], _ :: _, h => by simp [same] at h
  | _ :: _, [], h => by simp [same] at h
theorem other_len {l m : List Pt} (h : ¬ l.length = m.length) : same l m = false := by
  cases hs : same l m
  · rfl
  · exact absurd (same_len hs) h
theorem same_bad {l m : List Pt} {k : Nat} {a b : Pt} (h : l[k]? = some a) (g : m[k]? = some b) (hp : same l m = same (l.drop k) (m.drop k)) (hb : Pd.same a.p b.p = false) : same l m = false := by
  rw [hp, drop_at h, drop_at g, same, hb]; rfl
theorem same_good {l m : List Pt} {k : Nat} {a b : Pt} (h : l[k]? = some a) (g : m[k]? = some b) (hp : same l m = same (l.drop k) (m.drop k)) (hb : Pd.same a.p b.p = true) : same l m = same (l.drop (k + 1)) (m.drop (k + 1)) := by
  rw [hp, drop_at h, drop_at g, same, hb]; simp
theorem same_end {l m : List Pt} {k : Nat} (h : ¬ k < l.length) (he : m.length = l.length) (hp : same l m = same (l.drop k) (m.drop k)) : same l m = true := by
  rw [hp, List.drop_eq_nil_of_le (by omega), List.drop_eq_nil_of_le (by omega), same]
end Fi
/-- The cells of one of them, in a later world. -/
theorem Ps.cells {w wr : World} {A : Option Addr} {n : Nat} {l : List Pt} (h : Ps w A n l) (hb : Below w.heap.size w wr) {k : Nat} (hk : k < l.length) :
    ∃ g o x, A = some ⟨g, o, none⟩ ∧ l[k]? = some x ∧ IsPt wr x ∧ (∀ j u, x.cells[j]? = some u → wr.cell? ⟨g, o + k * 13 + j, none⟩ = some u) ∧ g < wr.heap.size := by
  obtain ⟨g, o, rfl, hg⟩ := h.at (by omega)
  obtain ⟨x, hx⟩ : ∃ x, l[k]? = some x := ⟨_, List.getElem?_eq_getElem hk⟩
  have hc := hg k x hx
  have hl := cell_lt (hc 0 _ rfl)
  exact ⟨g, o, x, rfl, hx, (h.each x (List.mem_of_getElem? hx)).later hb, fun j u hj => (hb.cell (cell_lt (hc j u hj))).trans (hc j u hj), Nat.lt_of_lt_of_le hl hb.size⟩

set_option maxRecDepth 100000 in
set_option maxHeartbeats 8000000 in
theorem equalp_any {A B : Option Addr} {n c n' c' : Nat} {l m : List Pt} {w : World} (h : Ps w A n l) (h' : Ps w B n' m) :
    Calls Try.prog 68 #[.slice A n c, .slice B n' c', .func (.func 69) #[] #[]] w fun e w' => e = .returned (.bool (Fi.same l m)) ∧ Below w.heap.size w w' := by
  obtain rfl := h.len.symm
  obtain rfl := h'.len.symm
  have hn := h.few
  have hn' := h'.few
  have HA := Lib.hid h
  have HA' := Lib.hid h'
  have hst := store_float
  clear h h'
  by_cases hlen : l.length = m.length
  case neg =>
    have HM := Lib.hid (Fi.other_len hlen)
    have hlen' : ¬ (l.length : Int) = (m.length : Int) := by omega
    go_enter Try.func68, Try.ntmps68
    go_wp2_with fail
    go_ret
    exact ⟨by rw [HM.out]; rfl, Below.refl _ _⟩
  have hme : m.length = l.length := hlen.symm
  rw [hme] at HA' hn' ⊢
  clear hlen
  go_enter Try.func68, Try.ntmps68
  go_wp2_with fail
  go_loopw [17] (fun ii wr => ∃ k : Nat, k ≤ l.length ∧ ii = .int .i64 (k : Int) ∧ Fi.same l m = Fi.same (l.drop k) (m.drop k) ∧ Below w.heap.size w wr) (fun ii _ => l.length - (intOf ii).toNat)
  case atStart => exact ⟨0, by omega, rfl, rfl, Below.refl _ _⟩
  case round =>
    obtain ⟨k, hk, rfl, hl, hB⟩ := hrel
    have HL := Lib.hid hl
    have HB := Lib.hid hB
    clear hl hB
    by_cases hlt : k < l.length
    · obtain ⟨g, o, y, rfl, hy, hi, hc, -⟩ := HA.out.cells HB.out hlt
      obtain ⟨g', o', y', rfl, hy', hi', hc', hg'⟩ := HA'.out.cells HB.out (hme.symm ▸ hlt)
      have HG := Lib.hid hc
      have HY := Lib.hid hy
      have HI := Lib.hid hi
      have HG' := Lib.hid hc'
      have HY' := Lib.hid hy'
      have HI' := Lib.hid hi'
      clear hy hi hc hy' hi' hc'
      go_upto_region 6 with (first | (refine wpList_load_at rfl 109 _ rfl g (o + k * 13) y.cells _ rfl HG.out Try.underlying109 rfl prd_size ?_; dsimp only [Pt.cells]))
      have hn1 := one_new wr y.box
      have HB1 := Lib.hid (below_then HB.out hn1)
      have HI1 := Lib.hid (HI.out.later hn1)
      have HI2 := Lib.hid (HI'.out.later hn1)
      have HN := Lib.hid (heap_alloc_new wr y.box)
      have HG2 : Hid (∀ j u, y'.cells[j]? = some u → (wr.alloc y.box).cell? ⟨g', o' + k * 13 + j, none⟩ = some u) := fun j u hj => (hn1.cell (cell_lt (HG'.out j u hj))).trans (HG'.out j u hj)
      clear hn1 HB HI HG HI' HG'
      dsimp only [Pt.box, Pt.cells] at HB1 HI1 HI2 HN HG2
      generalize wr.heap.size = gp at HN ⊢
      generalize wr.alloc _ = w1 at HB1 HI1 HI2 HN HG2 ⊢
      have HG2 : Hid (∀ j u, y'.cells[j]? = some u → w1.cell? ⟨g', o' + k * 13 + j, none⟩ = some u) := HG2
      go_upto_region 7 with (first | (refine wpList_load_at rfl 109 _ rfl g' (o' + k * 13) y'.cells _ rfl HG2.out Try.underlying109 rfl prd_size ?_; dsimp only [Pt.cells]))
      have hn1 := one_new w1 y'.box
      replace HB1 := Lib.hid (below_then HB1.out hn1)
      replace HI1 := Lib.hid (HI1.out.later hn1)
      replace HI2 := Lib.hid (HI2.out.later hn1)
      replace HN := Lib.hid (below_row hn1 HN.out)
      have HN' := Lib.hid (heap_alloc_new w1 y'.box)
      clear hn1 HG2
      dsimp only [Pt.box, Pt.cells] at HB1 HI1 HI2 HN HN'
      generalize w1.heap.size = gq at HN' ⊢
      generalize w1.alloc _ = w2 at HB1 HI1 HI2 HN HN' ⊢
      have HC := Lib.hid (cells_row (cs := y.cells) HN.out)
      have HC' := Lib.hid (cells_row (cs := y'.cells) HN'.out)
      go_wp2_with (first | (refine wpList_load_at rfl 109 _ rfl gp 0 y.cells _ rfl HC.out Try.underlying109 rfl prd_size ?_; dsimp only [Pt.cells]) | (refine wpList_load_at rfl 109 _ rfl gq 0 y'.cells _ rfl HC'.out Try.underlying109 rfl prd_size ?_; dsimp only [Pt.cells]) | fail)
      refine (psame_any HI1.out.is HI2.out.is).mono ?_
      rintro e w3 ⟨rfl, hb⟩
      have HB2 := Lib.hid (below_then HB1.out hb)
      clear hb
      cases hr : Pd.same y.p y'.p
      · have HM := Lib.hid (Fi.same_bad HY.out HY'.out HL.out hr)
        go_wp2_with fail
        go_ret
        exact ⟨by rw [HM.out]; rfl, HB2.out⟩
      · have HM := Lib.hid (Fi.same_good HY.out HY'.out HL.out hr)
        go_wp2_with fail
        exact ⟨⟨k + 1, by omega, rfl, HM.out, HB2.out⟩, by simp [intOf]; omega⟩
    · have HM := Lib.hid (Fi.same_end hlt hme HL.out)
      go_wp2_with fail
      go_ret
      exact ⟨by rw [HM.out]; rfl, HB.out⟩
theorem fsame_any {A B : Option Addr} {n c n' c' : Nat} {l m : List Pt} {w : World} (h : Ps w A n l) (h' : Ps w B n' m) :
    Calls Try.prog 48 #[.slice A n c, .slice B n' c'] w fun e w' => e = .returned (.bool (Fi.same l m)) ∧ Below w.heap.size w w' := by
  go_enter Try.func48, Try.ntmps48
  go_wp2_with fail
  refine (equalp_any h h').mono ?_
  rintro e w2 ⟨rfl, hb⟩
  have HB := Lib.hid hb
  clear hb
  go_wp2_with fail
  go_ret
  exact ⟨rfl, HB.out⟩
end Go.Proofs.Ytgenmebmdpnjhaa
