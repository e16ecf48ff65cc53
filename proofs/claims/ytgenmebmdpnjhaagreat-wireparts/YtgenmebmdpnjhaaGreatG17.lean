/- G17: Bent, BentLaws in one text. -/
import Derived.Test.YtgenmebmdpnjhaaGreatFeedFrame
import Derived.StillTailTactics
import Derived.Deep.CutBlock
namespace Go.Proofs.YtgenmebmdpnjhaaGreat
open Go.RowKit
set_option linter.unusedVariables false

theorem part_left {x r cs : List Value} {q : Nat} (h : q + cs.length ≤ x.length) : part (x ++ r) q cs = part x q cs ++ r := by
  unfold part
  rw [List.take_append_of_le_length (by omega), List.drop_append_of_le_length h, List.append_assoc, List.append_assoc, List.append_assoc]
theorem part_right {x r cs : List Value} {q : Nat} : part (x ++ r) (x.length + q) cs = x ++ part r q cs := by
  unfold part
  rw [List.take_append, List.drop_append, List.take_of_length_le (by omega), List.drop_eq_nil_of_le (by omega), Nat.add_sub_cancel_left, show x.length + q + cs.length - x.length = q + cs.length by omega]
  simp
/-- An element of a row is turned. -/
theorem flat_part {α : Type} (f : α → List Value) {k : Nat} (hf : ∀ a, (f a).length = k) {q : Nat} {cs : List Value} (hq : q + cs.length ≤ k) : ∀ (l : List α) (i : Nat) (a b : α), l[i]? = some a → part (f a) q cs = f b → part (l.flatMap f) (i * k + q) cs = (l.set i b).flatMap f
  | [], _, _, _, h, _ => by simp at h
  | c :: l, 0, a, b, h, hab => by
    simp at h; subst h
    rw [List.flatMap_cons, Nat.zero_mul, Nat.zero_add, part_left (by rw [hf]; exact hq), hab, List.set_cons_zero, List.flatMap_cons]
  | c :: l, i + 1, a, b, h, hab => by
    rw [List.flatMap_cons, show (i + 1) * k + q = (f c).length + (i * k + q) by rw [hf, Nat.add_mul]; omega, part_right, flat_part f hf hq l i a b (by simpa using h) hab, List.set_cons_succ, List.flatMap_cons]
/-- Cells of an own row are stored to. -/
theorem OwnW.storen {k B : Nat} {e : TypeId} {w : World} {g n c : Nat} {xs : List Value} (h : OwnW k B e w (.slice (some ⟨g, 0, none⟩) n c) n xs) (p : Nat) (cs : List Value) (hp : p + cs.length ≤ n * k) :
    ∃ old, w.heap[g]? = some (.cells old.toArray e (0, 0)) ∧ p + cs.length ≤ old.length ∧ OwnW k B e (w.setRow g (part old p cs).toArray) (.slice (some ⟨g, 0, none⟩) n c) n (part xs p cs) := by
  rcases h.1.2 with ⟨h0, -⟩ | ⟨g', cap, cur, hv, hb, hg, hc, hm, hs, ht⟩
  · cases h0
  · cases hv
    have hlen : n * k ≤ cur.toList.length := by
      have := Nat.mul_le_mul_right k hc
      simp only [Array.length_toList]; omega
    have hx : xs.length = n * k := h.1.1
    have hpl : ∀ (y : List Value), p + cs.length ≤ y.length → (part y p cs).length = y.length := by
      intro y hy
      unfold part
      rw [List.length_append, List.length_append, List.length_take, List.length_drop]; omega
    refine ⟨cur.toList, by rw [Array.toArray_toList]; exact hg, by omega, ⟨by rw [hpl xs (by omega)]; exact hx, .inr ⟨g, c, _, rfl, hb, setRow_heap w g _ _ _ _ hg, hc, hm, ?_, ?_⟩⟩, Nat.le_trans h.2 (by simp)⟩
    · rw [List.size_toArray, hpl _ (by omega)]; simpa using hs
    · have hcur : cur.toList = xs ++ cur.toList.drop (n * k) := by rw [← List.take_append_drop (n * k) cur.toList, ht]; simp [hx]
      rw [List.toList_toArray, hcur, part_left (by omega)]
      exact List.take_left' (by rw [hpl _ (by omega)]; exact hx)

/-- The parts of what Bent has built so far: rows of its own, Filters as they came in. -/
structure Bsp (w wr : World) (y : Fr) : Prop where
  e : OwnA (w.heap.size + 2) wr (.slice y.e.A y.e.l.length y.e.ca) y.e.l
  t : OwnT (w.heap.size + 2) wr (.slice y.e.B y.e.t.length y.e.cb) y.e.t
  l : OwnSb (w.heap.size + 2) wr (.slice y.A y.l.length y.c) y.l
  each : ∀ s, s ∈ y.l → IsFt w s.f
  s : IsFt w y.s.f
  fit : ∀ a, a ∈ y.e.l → Fit a.v ∧ a.name.size ≤ 9223372036854775807
  nok : Cd.Fnok y
  few : y.e.l.length ≤ 1000 ∧ y.e.t.length ≤ 1000 ∧ y.l.length ≤ 1000
  below : Below w.heap.size w wr
structure Bst (w wr : World) (y : Fr) : Prop where
  row : wr.heap[w.heap.size]? = some (frbox y)
  res : wr.heap[w.heap.size + 1]? = some (frbox fr00)
  parts : Bsp w wr y
theorem Bsp.isfr {w wr : World} {y : Fr} (h : Bsp w wr y) : IsFr wr y := by
  obtain ⟨A, c, e, -, -, hr, -, -, hn⟩ := OwnW.reads h.e
  cases e
  obtain ⟨A, c, e, -, -, hr2, -, -, hn2⟩ := OwnW.reads h.t
  cases e
  obtain ⟨A, c, e, -, -, hr3, -, -, hn3⟩ := OwnW.reads h.l
  cases e
  have hf := h.few
  exact ⟨⟨⟨hr, fun a ha => (h.fit a ha).2, by omega⟩, fun a ha => (h.fit a ha).1, ⟨hr2, by omega⟩, hn, hn2⟩, h.s.later h.below, ⟨hr3, fun s hs => (h.each s hs).later h.below, by omega⟩, hn3⟩
theorem below_kept {w wr wx : World} {S : Nat → Prop} (h : Below w.heap.size w wr) (k : Kept S wr wx) (hs : ∀ i, i < w.heap.size → ¬ S i) : Below w.heap.size w wx :=
  h.trans (k.below h.size hs)
theorem Bsp.frame {w wr wx : World} {y : Fr} {g : Nat} {cs : Array Value} {fr : Nat × Nat} (h : Bsp w wr y) (k : Kept (· = g) wr wx) (hg : wr.heap[g]? = some (.cells cs 38 fr)) (hw : w.heap.size ≤ g) : Bsp w wx y :=
  ⟨OwnW.kept h.e k (ownw_not h.e hg (by decide)), OwnW.kept h.t k (ownw_not h.t hg (by decide)), OwnW.kept h.l k (ownw_not h.l hg (by decide)), h.each, h.s, h.fit, h.nok, h.few, below_kept h.below k (fun i hi e => by omega)⟩
/-- The lists of a frame, and where they lie. -/
abbrev Fr.lists (y : Fr) := (y.e.A, y.e.ca, y.e.l, y.e.B, y.e.cb, y.e.t, y.A, y.c, y.l, y.s.f)
theorem Bsp.other {w wr : World} {y y' : Fr} (h : Bsp w wr y) (hq : y'.lists = y.lists) : Bsp w wr y' := by
  simp only [Fr.lists, Prod.mk.injEq] at hq
  obtain ⟨q1, q2, q3, q4, q5, q6, q7, q8, q9, q10⟩ := hq
  exact ⟨by rw [q1, q2, q3]; exact h.e, by rw [q4, q5, q6]; exact h.t, by rw [q7, q8, q9]; exact h.l, by rw [q9]; exact h.each, by rw [q10]; exact h.s, by rw [q3]; exact h.fit, ⟨by rw [q3]; exact h.nok.atts, by rw [q10]; exact h.nok.sub, by rw [q9]; exact h.nok.subs⟩, by rw [q3, q6, q9]; exact h.few, h.below⟩
/-- A number is stored to. -/
theorem Bst.set {w wr : World} {y y' : Fr} {p : Nat} {cs : List Value} (h : Bst w wr y) (hp : part y.cells p cs = y'.cells) (hq : y'.lists = y.lists) : Bst w (wr.setRow w.heap.size (part y.cells p cs).toArray) y' := by
  obtain ⟨h1, h2⟩ := ffset_frame hp h.row
  exact ⟨h1, h2.row h.res (by show ¬ w.heap.size + 1 = w.heap.size; omega), (h.parts.frame h2 h.row (Nat.le_refl _)).other hq⟩
/-- A list, too. -/
theorem Bst.list {w wr : World} {y y' : Fr} {p : Nat} {cs : List Value} (h1' : wr.heap[w.heap.size]? = some (frbox y)) (h2' : wr.heap[w.heap.size + 1]? = some (frbox fr00)) (hp : part y.cells p cs = y'.cells) (hq : Bsp w wr y') : Bst w (wr.setRow w.heap.size (part y.cells p cs).toArray) y' := by
  obtain ⟨h1, h2⟩ := ffset_frame hp h1'
  exact ⟨h1, h2.row h2' (by show ¬ w.heap.size + 1 = w.heap.size; omega), hq.frame h2 h1' (Nat.le_refl _)⟩
/-- How it ends. -/
theorem Bst.ends {w wr : World} {y : Fr} (h : Bst w wr y) : (wr.setRow (w.heap.size + 1) (part fr00.cells 0 y.cells).toArray).heap[w.heap.size + 1]? = some (frbox y) ∧ IsFr (wr.setRow (w.heap.size + 1) (part fr00.cells 0 y.cells).toArray) y ∧ Cd.Fnok y ∧ Below w.heap.size w (wr.setRow (w.heap.size + 1) (part fr00.cells 0 y.cells).toArray) := by
  obtain ⟨h1, h2⟩ := ffset_frame (p := 0) (x := fr00) (x' := y) (cs := y.cells) rfl h.res
  have h3 := h.parts.frame h2 h.res (by omega)
  exact ⟨h1, h3.isfr, h3.nok, h3.below⟩
theorem Bst.later {w wr wx : World} {y : Fr} (h : Bst w wr y) (k : Below wr.heap.size wr wx) : Bst w wx y :=
  ⟨below_row k h.row, below_row k h.res, ⟨OwnW.later h.parts.e k, OwnW.later h.parts.t k, OwnW.later h.parts.l k, h.parts.each, h.parts.s, h.parts.fit, h.parts.nok, h.parts.few, h.parts.below.trans (below_sub k h.parts.below.size)⟩⟩
theorem Bst.drawn {w wr : World} {y : Fr} (h : Bst w wr y) : Bst w { wr with drawn := wr.drawn + 1 } y := h.later ⟨rfl, rfl, rfl, Nat.le_refl _, fun _ _ => rfl⟩
/-- Where an own row lies that is not empty. -/
theorem OwnW.at0 {k B : Nat} {e : TypeId} {w : World} {A : Option Addr} {n c : Nat} {xs : List Value} (h : OwnW k B e w (.slice A n c) n xs) (hn : 0 < n) : ∃ g, A = some ⟨g, 0, none⟩ := by
  rcases h.1.2 with ⟨e, h0⟩ | ⟨g, cap, cur, e, -⟩
  · omega
  · exact ⟨g, (Value.slice.inj e).1⟩
theorem Bst.c18 {w wr : World} {y : Fr} {g : Nat} (h : Bst w wr y) (hA : y.A = some ⟨g, 0, none⟩) : wr.cell? ⟨w.heap.size, 18, none⟩ = some (.slice (some ⟨g, 0, none⟩) y.l.length y.c) := by
  rw [← hA]
  exact cell_of_row wr w.heap.size 18 _ _ _ h.row
theorem Bst.c12 {w wr : World} {y : Fr} (h : Bst w wr y) : wr.cell? ⟨w.heap.size, 12, none⟩ = some (.slice y.e.B y.e.t.length y.e.cb) := cell_of_row wr w.heap.size 12 _ _ _ h.row
/-- One more stamp. -/
theorem Bst.grow {w wr wx : World} {y : Fr} {A : Option Addr} {d : Nat} {st : St} (h : Bst w wr y) (hf : y.e.t.length ≤ 900) (hv : OwnW 2 (w.heap.size + 2) 68 wx (.slice A (y.e.t.length + 1) d) (y.e.t.length + 1) (stflat y.e.t ++ st.cells)) (hk : Kept (fun i => (Value.slice y.e.B y.e.t.length y.e.cb).ownBlock = some i) wr wx) :
    wx.heap[w.heap.size]? = some (frbox y) ∧ wx.heap[w.heap.size + 1]? = some (frbox fr00) ∧ Bsp w wx { y with e := { y.e with B := A, cb := d, t := y.e.t ++ [st] } } := by
  have hb : ∀ i, (Value.slice y.e.B y.e.t.length y.e.cb).ownBlock = some i → w.heap.size + 2 ≤ i := by
    intro i hi
    obtain ⟨A', c', e, -, -, -, hA, ho, -⟩ := OwnW.reads h.parts.t
    rw [ho] at hi
    obtain ⟨x, hx, rfl⟩ := Option.map_eq_some_iff.1 hi
    exact (hA x hx).1
  have hl : (y.e.t ++ [st]).length = y.e.t.length + 1 := by simp
  have hfl : stflat (y.e.t ++ [st]) = stflat y.e.t ++ st.cells := by simp [stflat]
  have hfew := h.parts.few
  refine ⟨hk.row h.row (fun e => by have := hb _ e; omega), hk.row h.res (fun e => by have := hb _ e; omega), OwnW.kept h.parts.e hk (ownw_types h.parts.e h.parts.t (by decide)), ?_, OwnW.kept h.parts.l hk (ownw_types h.parts.l h.parts.t (by decide)), h.parts.each, h.parts.s, h.parts.fit, ⟨h.parts.nok.atts, h.parts.nok.sub, h.parts.nok.subs⟩, ⟨hfew.1, by dsimp only; omega, hfew.2.2⟩, below_kept h.parts.below hk (fun i hi e => by have := hb _ e; omega)⟩
  dsimp only
  unfold OwnT
  rw [hl, hfl]
  exact hv
theorem mem_set {α : Type} {l : List α} {k : Nat} {a x : α} (h : x ∈ l.set k a) : x = a ∨ x ∈ l := by
  rcases List.mem_or_eq_of_mem_set h with h | h
  · exact .inr h
  · exact .inl h
/-- A part of an attribute, of a stamp, of a Sub is stored to. -/
theorem Bst.attr {w wr : World} {y : Fr} {g k q : Nat} {a a' : Att} {cs : List Value} (h : Bst w wr y) (hA : y.e.A = some ⟨g, 0, none⟩) (ha : y.e.l[k]? = some a) (hab : part a.cells q cs = a'.cells) (hq : q + cs.length ≤ 6) (hv : a'.v = a.v) (hn : a'.name.size ≤ 100) :
    ∃ old, wr.heap[g]? = some (.cells old.toArray 66 (0, 0)) ∧ k * 6 + q + cs.length ≤ old.length ∧ Bst w (wr.setRow g (part old (k * 6 + q) cs).toArray) { y with e := { y.e with l := y.e.l.set k a' } } := by
  have hk := (List.getElem?_eq_some_iff.1 ha).1
  have he := h.parts.e
  rw [hA] at he
  obtain ⟨old, h1, h2, h3⟩ := OwnW.storen he (k * 6 + q) cs (by omega)
  rw [flat_part Att.cells Att.cells_len hq _ _ _ _ ha hab] at h3
  have hK := Kept.setRow wr g (part old (k * 6 + q) cs).toArray
  have hb := (OwnW.reads he)
  obtain ⟨A, c, e, -, -, -, hb, -, -⟩ := hb
  cases e
  have hbg := (hb _ rfl).1
  dsimp only at hbg
  have hr := hK.row h.row (by show ¬ w.heap.size = g; omega)
  refine ⟨old, h1, h2, ?_, hK.row h.res (by show ¬ w.heap.size + 1 = g; omega), ?_, OwnW.kept h.parts.t hK (ownw_not h.parts.t h1 (by decide)), OwnW.kept h.parts.l hK (ownw_not h.parts.l h1 (by decide)), h.parts.each, h.parts.s, ?_, ?_, ?_, below_kept h.parts.below hK (fun i hi e => by omega)⟩
  · rw [hr]; simp [List.length_set]
  · dsimp only; rw [hA]; unfold OwnA; rw [List.length_set]; exact h3
  · intro x hx
    rcases mem_set hx with rfl | hx
    · rw [hv]; exact ⟨(h.parts.fit a (List.mem_of_getElem? ha)).1, by omega⟩
    · exact h.parts.fit x hx
  · refine ⟨fun x hx => ?_, h.parts.nok.sub, h.parts.nok.subs⟩
    rcases mem_set hx with rfl | hx
    · rw [hv]; exact h.parts.nok.atts a (List.mem_of_getElem? ha)
    · exact h.parts.nok.atts x hx
  · dsimp only; rw [List.length_set]; exact h.parts.few
theorem Bst.stamp {w wr : World} {y : Fr} {g k q : Nat} {a a' : St} {cs : List Value} (h : Bst w wr y) (hA : y.e.B = some ⟨g, 0, none⟩) (ha : y.e.t[k]? = some a) (hab : part a.cells q cs = a'.cells) (hq : q + cs.length ≤ 2) :
    ∃ old, wr.heap[g]? = some (.cells old.toArray 68 (0, 0)) ∧ k * 2 + q + cs.length ≤ old.length ∧ Bst w (wr.setRow g (part old (k * 2 + q) cs).toArray) { y with e := { y.e with t := y.e.t.set k a' } } := by
  have hk := (List.getElem?_eq_some_iff.1 ha).1
  have he := h.parts.t
  rw [hA] at he
  obtain ⟨old, h1, h2, h3⟩ := OwnW.storen he (k * 2 + q) cs (by omega)
  rw [flat_part St.cells St.cells_len hq _ _ _ _ ha hab] at h3
  have hK := Kept.setRow wr g (part old (k * 2 + q) cs).toArray
  have hb := (OwnW.reads he)
  obtain ⟨A, c, e, -, -, -, hb, -, -⟩ := hb
  cases e
  have hbg := (hb _ rfl).1
  dsimp only at hbg
  have hr := hK.row h.row (by show ¬ w.heap.size = g; omega)
  refine ⟨old, h1, h2, ?_, hK.row h.res (by show ¬ w.heap.size + 1 = g; omega), OwnW.kept h.parts.e hK (ownw_not h.parts.e h1 (by decide)), ?_, OwnW.kept h.parts.l hK (ownw_not h.parts.l h1 (by decide)), h.parts.each, h.parts.s, h.parts.fit, ⟨h.parts.nok.atts, h.parts.nok.sub, h.parts.nok.subs⟩, ?_, below_kept h.parts.below hK (fun i hi e => by omega)⟩
  · rw [hr]; simp [List.length_set]
  · dsimp only; rw [hA]; unfold OwnT; rw [List.length_set]; exact h3
  · dsimp only; rw [List.length_set]; exact h.parts.few
theorem Bst.sub {w wr : World} {y : Fr} {g k q : Nat} {a a' : Sb} {cs : List Value} (h : Bst w wr y) (hA : y.A = some ⟨g, 0, none⟩) (ha : y.l[k]? = some a) (hab : part a.cells q cs = a'.cells) (hq : q + cs.length ≤ 4) (hf : IsFt w a'.f) (hn : ∀ x, x ∈ a'.f.l → Cd.Nok x.p.v ∧ Cd.Nok x.p.w ∧ ∀ v, v ∈ x.p.set → Cd.Nok v) :
    ∃ old, wr.heap[g]? = some (.cells old.toArray 33 (0, 0)) ∧ k * 4 + q + cs.length ≤ old.length ∧ Bst w (wr.setRow g (part old (k * 4 + q) cs).toArray) { y with l := y.l.set k a' } := by
  have hk := (List.getElem?_eq_some_iff.1 ha).1
  have he := h.parts.l
  rw [hA] at he
  obtain ⟨old, h1, h2, h3⟩ := OwnW.storen he (k * 4 + q) cs (by omega)
  rw [flat_part Sb.cells Sb.cells_len hq _ _ _ _ ha hab] at h3
  have hK := Kept.setRow wr g (part old (k * 4 + q) cs).toArray
  have hb := (OwnW.reads he)
  obtain ⟨A, c, e, -, -, -, hb, -, -⟩ := hb
  cases e
  have hbg := (hb _ rfl).1
  dsimp only at hbg
  have hr := hK.row h.row (by show ¬ w.heap.size = g; omega)
  refine ⟨old, h1, h2, ?_, hK.row h.res (by show ¬ w.heap.size + 1 = g; omega), OwnW.kept h.parts.e hK (ownw_not h.parts.e h1 (by decide)), OwnW.kept h.parts.t hK (ownw_not h.parts.t h1 (by decide)), ?_, ?_, h.parts.s, h.parts.fit, ⟨h.parts.nok.atts, h.parts.nok.sub, ?_⟩, ?_, below_kept h.parts.below hK (fun i hi e => by omega)⟩
  · rw [hr]; simp [List.length_set]
  · dsimp only; rw [hA]; unfold OwnSb; rw [List.length_set]; exact h3
  · intro s hs
    rcases mem_set hs with rfl | hs
    · exact hf
    · exact h.parts.each s hs
  · intro s hs
    rcases mem_set hs with rfl | hs
    · exact hn
    · exact h.parts.nok.subs s hs
  · dsimp only; rw [List.length_set]; exact h.parts.few
end Go.Proofs.YtgenmebmdpnjhaaGreat

namespace Go.Proofs.YtgenmebmdpnjhaaGreat
open Go.RowKit
set_option linter.unusedVariables false

def BentPost (w : World) (e : Ending) (w' : World) : Prop := ∃ y : Fr, e = .returned (frv y) ∧ IsFr w' y ∧ Cd.Fnok y ∧ Below w.heap.size w w'
theorem bsb_info : (Tryz.prog.info? 33).map (fun i => (i.zero, i.size, i.bytes)) = some (some (sbv ⟨0, 0, 0, ⟨none, 0, []⟩⟩), 4, 48) := by kernel_rfl
theorem bst_info : (Tryz.prog.info? 68).map (fun i => (i.zero, i.size, i.bytes)) = some (some (.agg #[.int .i64 0, .int .i64 0]), 2, 16) := by kernel_rfl
theorem bat_info : (Tryz.prog.info? 66).map (fun i => (i.zero, i.size, i.bytes)) = some (some (av ⟨⟨#[]⟩, At.z0⟩), 6, 64) := by kernel_rfl
theorem bool_size1 : (Tryz.prog.info? 4).map (·.size) = some 1 := by kernel_rfl
theorem str_size1 : (Tryz.prog.info? 9).map (·.size) = some 1 := by kernel_rfl
theorem bats_size1 : (Tryz.prog.info? 27).map (·.size) = some 1 := by kernel_rfl
theorem bsts_size1 : (Tryz.prog.info? 28).map (·.size) = some 1 := by kernel_rfl
theorem sbflat_ones (l : List Sb) : ∀ u ∈ sbflat l, u.oneCell' = true := by
  intro u hu
  obtain ⟨a, _, hu⟩ := List.mem_flatMap.1 hu
  exact Sb.one a u hu
theorem stflat_ones (l : List St) : ∀ u ∈ stflat l, u.oneCell' = true := by
  intro u hu
  obtain ⟨a, _, hu⟩ := List.mem_flatMap.1 hu
  exact st_one a u hu
theorem wpList_idx {w : World} {ops : Array Oper} {rest : List Oper} {o : Oper} {a : Act} {Q : Exit → Act → World → Prop} (hgd : o.guard = none) (ty : TypeId) (x i : Operand) (ho : o.op = .index ty x i) {u j v : Value} (hx : a.eval x = u) (hi : a.eval i = j) (hv : (Instr.index ty u j).run Tryz.prog w = .ok v w) (h : wpList Tryz.prog ops Q rest (a.put o.dst v) w) : wpList Tryz.prog ops Q (o :: rest) a w :=
  wpList_plain hgd fun _ hK => by
    unfold Oper.wp execOp
    simp only [ho, hx, hi, Sem.run_bind, Sem.run_pure, Result.andThen_ok, hv]
    exact hK _ _ h
theorem bpick {n m v : Int} (hm : 1 ≤ m) (hm2 : m ≤ 4611686018427387904) (hv : n % m = v) (w : World) : Calls Tryz.prog 17 #[.int .i64 n, .int .i64 m] w fun e w' => e = .returned (.int .i64 v) ∧ w = w' := hv ▸ pick_any n m hm hm2 w
theorem idx6 (a b c d e f : Int) (w : World) (k : Int) (h : 0 ≤ k ∧ k < 6) : ∃ v : Int, (Instr.index 60 (.agg #[.int .i64 a, .int .i64 b, .int .i64 c, .int .i64 d, .int .i64 e, .int .i64 f]) (.int .i64 k)).run Tryz.prog w = .ok (.int .i64 v) w := by
  rcases (by omega : k = 0 ∨ k = 1 ∨ k = 2 ∨ k = 3 ∨ k = 4 ∨ k = 5) with rfl | rfl | rfl | rfl | rfl | rfl
  · exact ⟨a, by kernel_rfl⟩
  · exact ⟨b, by kernel_rfl⟩
  · exact ⟨c, by kernel_rfl⟩
  · exact ⟨d, by kernel_rfl⟩
  · exact ⟨e, by kernel_rfl⟩
  · exact ⟨f, by kernel_rfl⟩
theorem sixteen' : ∀ k : Nat, k < 16 → k = 0 ∨ k = 1 ∨ k = 2 ∨ k = 3 ∨ k = 4 ∨ k = 5 ∨ k = 6 ∨ k = 7 ∨ k = 8 ∨ k = 9 ∨ k = 10 ∨ k = 11 ∨ k = 12 ∨ k = 13 ∨ k = 14 ∨ k = 15 := by decide
theorem sixteen {j : Int} (h : 0 ≤ j ∧ j < 16) : j = 0 ∨ j = 1 ∨ j = 2 ∨ j = 3 ∨ j = 4 ∨ j = 5 ∨ j = 6 ∨ j = 7 ∨ j = 8 ∨ j = 9 ∨ j = 10 ∨ j = 11 ∨ j = 12 ∨ j = 13 ∨ j = 14 ∨ j = 15 := by
  obtain ⟨k, rfl⟩ : ∃ k : Nat, j = (k : Int) := ⟨j.toNat, by omega⟩
  rcases sixteen' k (by omega) with rfl | rfl | rfl | rfl | rfl | rfl | rfl | rfl | rfl | rfl | rfl | rfl | rfl | rfl | rfl | rfl <;> simp
theorem still_idx {w : World} {o : Oper} {a : Act} {K : Act → Prop} (ty : TypeId) (x i : Operand) (ho : o.op = .index ty x i) {u j v : Value} (hx : a.eval x = u) (hi : a.eval i = j) (hv : (Instr.index ty u j).run Tryz.prog w = .ok v w) (h : K (a.put o.dst v)) : o.still Tryz.prog a w K := by
  unfold Oper.still execOp
  simp only [ho, hx, hi, Sem.run_bind, Sem.run_pure, Result.andThen_ok, hv]
  exact ⟨rfl, h⟩
theorem ownsb_cells {B : Nat} {w : World} {g c n : Nat} {l : List Sb} (h : OwnW 4 B 33 w (.slice (some ⟨g, 0, none⟩) n c) n (sbflat l)) {k : Nat} {a : Sb} (ha : l[k]? = some a) : ∀ j u, a.cells[j]? = some u → w.cell? ⟨g, k * 4 + j, none⟩ = some u := by
  intro j u hj
  have hlt : j < 4 := (List.getElem?_eq_some_iff.1 hj).1
  have := h.1.cells (g := g) rfl (k * 4 + j) u (by rw [flat_get _ Sb.cells_len l k j a ha hlt]; exact hj)
  rw [show (⟨g, 0, none⟩ : Addr).add (k * 4 + j) = ⟨g, k * 4 + j, none⟩ by unfold Addr.add; split <;> simp_all] at this
  exact this
/-- A struct is loaded. -/
theorem still_load {w : World} {a : Act} {o : Oper} {K : Act → Prop} (ty : TypeId) (x : Operand) (ho : o.op = .load ty x) (g p : Nat) (cs : List Value) (d : TypeDesc) (hx : a.eval x = .pointer (some ⟨g, p, none⟩)) (hc : ∀ j v, cs[j]? = some v → w.cell? ⟨g, p + j, none⟩ = some v)
    (hu : Tryz.prog.underlying ty = some d) (hd : (match d with | .struct _ | .array _ _ => true | _ => false) = true) (hi : (Tryz.prog.info? ty).map (·.size) = some cs.length) (h : K (a.put o.dst (.agg cs.toArray))) : o.still Tryz.prog a w K := by
  unfold Oper.still
  rw [load_run ho hx hc hu hd hi rfl]
  exact ⟨rfl, h⟩
theorem still_pick {n m v : Int} (hm : 1 ≤ m) (hm2 : m ≤ 4611686018427387904) (hv : n % m = v) (w : World) : Calls Tryz.prog 17 #[.int .i64 n, .int .i64 m] w fun e w' => e = .returned (.int .i64 v) ∧ w' = w := (bpick hm hm2 hv w).mono fun _ _ h => ⟨h.1, h.2.symm⟩
theorem idxs3 (a b c : ByteArray) (w : World) (k : Int) (h : 0 ≤ k ∧ k < 3) : ∃ v : ByteArray, (v = a ∨ v = b ∨ v = c) ∧ (Instr.index 61 (.agg #[.string a, .string b, .string c]) (.int .i64 k)).run Tryz.prog w = .ok (.string v) w := by
  rcases (by omega : k = 0 ∨ k = 1 ∨ k = 2) with rfl | rfl | rfl
  · exact ⟨a, .inl rfl, by kernel_rfl⟩
  · exact ⟨b, .inr (.inl rfl), by kernel_rfl⟩
  · exact ⟨c, .inr (.inr rfl), by kernel_rfl⟩
theorem kept_none {w w' : World} (k : Kept (fun i => (Value.slice none 0 0).ownBlock = some i) w w') : Below w.heap.size w w' := k.below (Nat.le_refl _) (fun i _ e => by cases e)
end Go.Proofs.YtgenmebmdpnjhaaGreat
