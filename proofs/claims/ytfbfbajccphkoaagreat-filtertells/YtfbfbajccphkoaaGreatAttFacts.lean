
/- Attributes: what holds of right ones: each name finds its own, no other; without one of them they are right still. Nothing of the program. -/
import Derived.Test.YtfbfbajccphkoaaGreatFeedAttrs
namespace Go.Proofs.YtfbfbajccphkoaaGreat
open Go.RowKit

namespace At
/-- Words as names, right values, rising, at most five. -/
structure Good (l : List Att) : Prop where
  len : l.length ≤ 5
  each : ∀ a, a ∈ l → word a.name = true ∧ Vl.right a.v = true
  rise : l.Pairwise less
theorem Good.sub {l m : List Att} (h : Good l) (s : m.Sublist l) : Good m :=
  ⟨Nat.le_trans s.length_le h.len, fun a ha => h.each a (s.subset ha), h.rise.sublist s⟩
theorem ok_of : ∀ (l : List Att) (p : Option ByteArray), (∀ a, a ∈ l → word a.name = true ∧ Vl.right a.v = true) → l.Pairwise less → (∀ a, a ∈ l → above p a.name = true) → okFrom p l = true
  | [], _, _, _, _ => rfl
  | a :: l, p, he, hr, hp => by
    rw [okFrom, (he a (by simp)).1, (he a (by simp)).2, hp a (by simp)]
    simp only [Bool.true_and, Bool.and_self]
    rw [List.pairwise_cons] at hr
    exact ok_of l _ (fun x hx => he x (by simp [hx])) hr.2 (fun x hx => hr.1 x hx)
theorem Good.right {l : List Att} (h : Good l) : At.right l = true := by
  unfold At.right
  rw [decide_eq_true h.len, ok_of l none h.each h.rise (fun _ _ => rfl)]
  rfl
theorem nm_word : ∀ s, s ∈ nm → word s = true := by
  intro s hs
  simp only [nm, List.mem_cons, List.not_mem_nil, or_false] at hs
  rcases hs with rfl | rfl | rfl | rfl | rfl <;> decide +kernel
theorem Fed.mem {k : Nat} {l : List Att} (h : Fed k l) {a : Att} (ha : a ∈ l) : a.name ∈ nm := by
  obtain ⟨i, _, e⟩ := h.names a ha
  exact List.mem_of_getElem? e
theorem Fed.good {l : List Att} (h : Fed 5 l) : Good l := ⟨h.len, fun a ha => ⟨nm_word _ (h.mem ha), h.right a ha⟩, h.rise⟩
theorem less_ne {a b : Att} (h : less a b) : (a.name.toList == b.name.toList) = false := by
  rw [beq_eq_false_iff_ne]
  intro e
  unfold less at h
  rw [e, Vl.less_irrefl] at h
  cases h
theorem find_own : ∀ (l : List Att) (i : Nat) (a : Att), l.Pairwise less → l[i]? = some a → find l a.name = some a
  | [], _, _, _, h => by simp at h
  | b :: l, 0, a, _, h => by
    simp at h; subst h
    simp [find]
  | b :: l, i + 1, a, hr, h => by
    rw [List.pairwise_cons] at hr
    have hm : l[i]? = some a := by simpa using h
    rw [find, List.find?_cons, less_ne (hr.1 a (List.mem_of_getElem? hm))]
    exact find_own l i a hr.2 hm
theorem find_no {l : List Att} {s : ByteArray} (h : ∀ a, a ∈ l → (a.name.toList == s.toList) = false) : find l s = none := by
  rw [find, List.find?_eq_none]
  intro a ha
  rw [h a ha]
  simp
theorem Fed.nobody {k : Nat} {l : List Att} (h : Fed k l) : find l ⟨#[110, 111, 98, 111, 100, 121]⟩ = none := by
  refine find_no fun a ha => ?_
  have := h.mem ha
  simp only [nm, List.mem_cons, List.not_mem_nil, or_false] at this
  rcases this with e | e | e | e | e <;> rw [e] <;> decide +kernel
/-- All but the one at k. -/
def but (l : List Att) (k : Nat) : List Att := l.take k ++ l.drop (k + 1)
theorem but_sub (l : List Att) (k : Nat) : (but l k).Sublist l := by
  have := (List.Sublist.refl (l.take k)).append (List.drop_sublist 1 (l.drop k))
  rw [List.take_append_drop, List.drop_drop] at this
  exact this
theorem but_len {l : List Att} {k : Nat} (h : k < l.length) : (but l k).length + 1 = l.length := by
  unfold but
  rw [List.length_append, List.length_take, List.length_drop]
  omega
theorem but_gone {l : List Att} {k : Nat} {a : Att} (hr : l.Pairwise less) (h : l[k]? = some a) : find (but l k) a.name = none := by
  have e : l = l.take k ++ a :: l.drop (k + 1) := by rw [← drop_at h, List.take_append_drop]
  rw [e, List.pairwise_append, List.pairwise_cons] at hr
  refine find_no fun b hb => ?_
  rcases List.mem_append.1 hb with hb | hb
  · exact less_ne (hr.2.2 b hb a (by simp))
  · have := less_ne (hr.2.1.1 b hb)
    rw [beq_eq_false_iff_ne] at this ⊢
    exact fun e => this e.symm
theorem same_refl : ∀ l : List Att, same l l = true
  | [] => rfl
  | a :: l => by rw [same, one, same_refl l, Vl.same_self]; simp
end At

/-- A beginning of a row. -/
theorem Rs.take {A : Option Addr} {n k : Nat} {w : World} {l : List Att} (h : Rs 6 w A n (flat l)) (hk : k ≤ l.length) : Rs 6 w A k (flat (l.take k)) := by
  refine ⟨by rw [flat_len _ Att.cells_len, List.length_take, Nat.min_eq_left hk], ?_⟩
  rcases h.2 with h0 | ⟨g, o, rfl, hc⟩
  · left
    have hl : (flat l).length = 0 := by rw [h0]; rfl
    rw [flat_len _ Att.cells_len] at hl
    rw [List.eq_nil_of_length_eq_zero (l := l) (by omega)]
    simp
  · refine .inr ⟨g, o, rfl, fun j u hj => hc j u ?_⟩
    have e := flat_take Att.cells Att.cells_len l k
    unfold flat at hj ⊢
    rw [← e, List.getElem?_take] at hj
    split at hj
    · exact hj
    · cases hj
/-- What is behind. -/
theorem Rs.drop {g o : Nat} {n k : Nat} {w : World} {l : List Att} (h : Rs 6 w (some ⟨g, o, none⟩) n (flat l)) (hk : k ≤ l.length) : Rs 6 w (some ⟨g, o + k * 6, none⟩) (l.length - k) (flat (l.drop k)) := by
  refine ⟨by rw [flat_len _ Att.cells_len, List.length_drop], ?_⟩
  rcases h.2 with h0 | ⟨g', o', e, hc⟩
  · left
    have hl : (flat l).length = 0 := by rw [h0]; rfl
    rw [flat_len _ Att.cells_len] at hl
    rw [List.eq_nil_of_length_eq_zero (l := l) (by omega)]
    simp
  · cases e
    refine .inr ⟨g, o + k * 6, rfl, fun j u hj => ?_⟩
    have hs : flat l = flat (l.take k) ++ flat (l.drop k) := by unfold flat; rw [← List.flatMap_append, List.take_append_drop]
    have hl : (flat (l.take k)).length = k * 6 := by rw [flat_len _ Att.cells_len, List.length_take, Nat.min_eq_left hk]
    have := hc (k * 6 + j) u (by rw [hs, List.getElem?_append_right (by omega), hl, Nat.add_sub_cancel_left]; exact hj)
    rw [← Nat.add_assoc] at this
    exact this
/-- What is behind, as the model cuts it: where no room is left the address stays. -/
theorem Rs.drop' {g o : Nat} {n k c : Nat} {w : World} {l : List Att} (h : Rs 6 w (some ⟨g, o, none⟩) n (flat l)) (hk : k ≤ l.length) (hc : l.length ≤ c) : Rs 6 w (if c = k then some ⟨g, o, none⟩ else some ⟨g, o + k * 6, none⟩) (l.length - k) (flat (l.drop k)) := by
  split
  · rw [List.drop_eq_nil_of_le (by omega), show l.length - k = 0 by omega]
    exact Rs.nil _ _ _
  · exact h.drop hk
theorem OwnW.ats {B n : Nat} {w : World} {A : Option Addr} {c : Nat} {l : List Att} (h : OwnW 6 B 54 w (.slice A n c) n (flat l)) (hz : ∀ a, a ∈ l → a.name.size ≤ 9223372036854775807) : Ats w A n l := by
  obtain ⟨A', c', e, h1, h2, h3, -⟩ := h.reads
  cases e
  exact ⟨h3, hz, by unfold maxLen at h2; omega⟩
theorem At.Fed.small {k : Nat} {l : List Att} (h : At.Fed k l) : ∀ a, a ∈ l → a.name.size ≤ 9223372036854775807 := by
  intro a ha
  have := h.mem ha
  simp only [At.nm, List.mem_cons, List.not_mem_nil, or_false] at this
  rcases this with e | e | e | e | e <;> rw [e] <;> decide
end Go.Proofs.YtfbfbajccphkoaaGreat
