
/- Tests: what is implied is taken; what is one another is taken alike. Plain mathematics; nothing of the program. -/
import Derived.Test.YtfbfbajccphkoaaGreatPrd4
namespace Go.Proofs.YtfbfbajccphkoaaGreat
open Go.RowKit
set_option linter.unusedVariables false
namespace Pd
open Vl (Key key cmp_key)

def kpre : Key → List UInt8 → Bool
  | .txt l, m => decide (m.length ≤ l.length) && (l.take m.length == m)
  | _, _ => false
theorem pre_key (v : Val) (p : ByteArray) : (decide (v.k = 3) && pre v.s p) = kpre (key v) p.toList := by
  obtain ⟨k, n, x, s, b⟩ := v
  by_cases h1 : k = 1
  · subst h1; simp [key, kpre]
  by_cases h2 : k = 2
  · subst h2; simp only [key, kpre]; cases Fl.nan x <;> simp
  by_cases h3 : k = 3
  · subst h3; simp [key, kpre, pre, At.toList_len]
  by_cases h4 : k = 4
  · subst h4; simp [key, kpre]
  · simp [key, kpre, h1, h2, h3, h4]
theorem is_kok {a b : Val} (h : Vl.is a b = true) : key a = key b ∧ Vl.ok a b = true ∧ Vl.cmp a b = 0 := by
  have h' := h
  unfold Vl.is at h
  rw [Bool.and_eq_true, decide_eq_true_eq] at h
  refine ⟨?_, h.1, h.2⟩
  rw [(cmp_key a b).1, (cmp_key a b).2] at h
  exact Vl.kzero h.1 h.2
theorem is_of {a b : Val} (h : Vl.ok a b = true) (h' : Vl.cmp a b = 0) : Vl.is a b = true := by simp [Vl.is, h, h']
theorem is_congr {a b c : Val} (h : key a = key b) : Vl.is a c = Vl.is b c := by
  unfold Vl.is; rw [(cmp_key a c).1, (cmp_key a c).2, (cmp_key b c).1, (cmp_key b c).2, h]
theorem is_congr' {a b c : Val} (h : key a = key b) : Vl.is c a = Vl.is c b := by
  unfold Vl.is; rw [(cmp_key c a).1, (cmp_key c a).2, (cmp_key c b).1, (cmp_key c b).2, h]
/-- What is another one is taken alike. -/
theorem takes_key {a b : Val} (h : key a = key b) (p : Prd) : takes p a = takes p b := by
  unfold takes most
  rw [pre_key, pre_key, (cmp_key a p.v).1, (cmp_key a p.v).2, (cmp_key b p.v).1, (cmp_key b p.v).2, (cmp_key a p.w).1, (cmp_key a p.w).2, (cmp_key b p.w).1, (cmp_key b p.w).2, h]
  have e : p.set.any (Vl.is a) = p.set.any (Vl.is b) := by
    congr 1; funext c; exact is_congr h
  rw [e]
theorem takes_is {a b : Val} (h : Vl.is a b = true) (p : Prd) : takes p a = takes p b := takes_key (is_kok h).1 p
theorem nan_ok {x : Val} (h : nan x = true) (v : Val) : Vl.ok v x = false := by
  rw [(cmp_key v x).2]
  have : key x = .none := by
    unfold nan at h
    rw [Bool.and_eq_true, decide_eq_true_eq] at h
    obtain ⟨k, n, y, s, b⟩ := x
    obtain ⟨rfl, h2⟩ := h
    simp only at h2
    simp [key, h2]
  rw [this]
  cases key v <;> rfl
theorem nan_is {x : Val} (h : nan x = true) (v : Val) : Vl.is v x = false := by unfold Vl.is; rw [nan_ok h]; rfl
theorem most_of {a v b : Val} (h1 : Vl.ok v a = true) (h2 : 0 ≤ Vl.cmp v a) (h3 : Vl.ok v b = true) (h4 : Vl.cmp v b ≤ 0) : most a b = true := by
  have t := Vl.turn v a
  have h := Vl.three (a := a) (b := v) (c := b) (by rw [t.2]; exact h1) h3
  have h5 := h.2.1 (by rw [t.1]; omega) h4
  unfold most
  rw [h.1, h5, Bool.true_and, decide_eq_true_eq]
  have := t.1
  omega
/-- A void test takes nothing. -/
theorem void_none {q : Prd} (h : void q = true) (v : Val) : takes q v = false := by
  obtain ⟨nm, t, a, u, l⟩ := q
  have ht := tests t
  rcases ht with rfl | rfl | rfl | rfl | rfl | rfl | rfl | rfl | rfl | rfl | ⟨g1, g2, g3, g4, g5, g6, g7, g8, g9, g10⟩
  · simp [void] at h
  · simp [void] at h; simp [takes, nan_ok h]
  · simp [void] at h
  · simp [void] at h; simp [takes, nan_ok h]
  · simp [void] at h; simp [takes, nan_ok h]
  · simp [void] at h; simp [takes, nan_ok h]
  · simp [void] at h; simp [takes, nan_ok h]
  · simp [void] at h
    cases e : takes ⟨nm, 8, a, u, l⟩ v
    · rfl
    · simp [takes, most] at e
      obtain ⟨⟨e1, e2⟩, e3, e4⟩ := e
      rw [most_of e1 e2 e3 e4] at h
      cases h
  · simp [void] at h
  · simp [void] at h
    simp only [takes]
    simp
    intro x hx
    exact nan_is (h x hx) v
  · simp [takes, g1, g2, g3, g4, g5, g6, g7, g8, g9, g10]
theorem same_key_l : ∀ {l m : List Val}, sames l m = true → ∀ v, l.any (Vl.is v) = m.any (Vl.is v)
  | [], [], _, _ => rfl
  | [], _ :: _, h, _ => by simp [sames] at h
  | _ :: _, [], h, _ => by simp [sames] at h
  | a :: l, b :: m, h, v => by
    simp only [sames, Bool.and_eq_true] at h
    rw [List.any_cons, List.any_cons, same_key_l h.2 v, is_congr' (Vl.same_key h.1)]
theorem sameT_takes {q p : Prd} (h : sameT q p = true) (v : Val) : takes q v = takes p v := by
  obtain ⟨qn, t, qa, qu, ql⟩ := q
  obtain ⟨pn, t', pa, pu, pl⟩ := p
  simp only [sameT, Bool.and_eq_true, decide_eq_true_eq] at h
  obtain ⟨⟨⟨rfl, ha⟩, hu⟩, hl⟩ := h
  have hs : qa.s.toList = pa.s.toList := by
    simp only [Vl.same, Bool.and_eq_true, beq_iff_eq] at ha
    exact ha.1.2
  unfold takes most
  simp only
  rw [pre_key, pre_key, same_key_l hl v, hs, (cmp_key v qa).1, (cmp_key v qa).2, (cmp_key v pa).1, (cmp_key v pa).2, (cmp_key v qu).1, (cmp_key v qu).2, (cmp_key v pu).1, (cmp_key v pu).2, Vl.same_key ha, Vl.same_key hu]
/-- v is on the inner side of a lower, an upper end. -/
def Lo (v : Val) (e : En) : Prop := Vl.ok v e.at_ = true ∧ (0 < Vl.cmp v e.at_ ∨ Vl.cmp v e.at_ = 0 ∧ e.op = false)
def Up (v : Val) (e : En) : Prop := Vl.ok v e.at_ = true ∧ (Vl.cmp v e.at_ < 0 ∨ Vl.cmp v e.at_ = 0 ∧ e.op = false)
theorem ends_takes {p : Prd} (h : hasEnds p = true) (v : Val) : takes p v = true ↔ ((lower p).th = true → Lo v (lower p)) ∧ ((upper p).th = true → Up v (upper p)) := by
  obtain ⟨nm, t, a, u, l⟩ := p
  have ht := tests t
  rcases ht with rfl | rfl | rfl | rfl | rfl | rfl | rfl | rfl | rfl | rfl | ⟨g1, g2, g3, g4, g5, g6, g7, g8, g9, g10⟩
  · simp [hasEnds, lower, upper] at h
  · simp [hasEnds, lower, upper] at h
  · simp [hasEnds, lower, upper] at h
  · simp [takes, lower, upper, Up]
  · simp [takes, lower, upper, Up]; intro; omega
  · simp [takes, lower, upper, Lo]
  · simp [takes, lower, upper, Lo]; intro; omega
  · simp [takes, lower, upper, Lo, Up, most]; constructor
    · rintro ⟨⟨h1, h2⟩, h3, h4⟩; exact ⟨⟨h1, by omega⟩, h3, by omega⟩
    · rintro ⟨⟨h1, h2⟩, h3, h4⟩; exact ⟨⟨h1, by omega⟩, h3, by omega⟩
  · simp [hasEnds, lower, upper] at h
  · simp [hasEnds, lower, upper] at h
  · simp [hasEnds, lower, upper, g4, g5, g6, g7, g8] at h
theorem within_lo {q p : En} (h : within q p 1 = true) {v : Val} (hq : q.th = true → Lo v q) (hp : p.th = true) : Lo v p := by
  simp only [within, hp, Bool.not_true, Bool.false_or, Bool.and_eq_true, Bool.or_eq_true, decide_eq_true_eq] at h
  obtain ⟨h1, h2, h3⟩ := h
  obtain ⟨g1, g2⟩ := hq h1
  have t := Vl.three (a := v) (b := q.at_) (c := p.at_) g1 h2
  refine ⟨t.1, ?_⟩
  have e := t.2.2 (by omega) (by omega)
  rcases h3 with h3 | ⟨h3, h4⟩
  · left; omega
  · rcases g2 with g2 | ⟨g2, g3⟩
    · left; omega
    · right
      refine ⟨by omega, ?_⟩
      rcases h4 with h4 | h4
      · rw [g3] at h4; cases h4
      · simpa using h4
theorem within_up {q p : En} (h : within q p (-1) = true) {v : Val} (hq : q.th = true → Up v q) (hp : p.th = true) : Up v p := by
  simp only [within, hp, Bool.not_true, Bool.false_or, Bool.and_eq_true, Bool.or_eq_true, decide_eq_true_eq] at h
  obtain ⟨h1, h2, h3⟩ := h
  obtain ⟨g1, g2⟩ := hq h1
  have t := Vl.three (a := v) (b := q.at_) (c := p.at_) g1 h2
  refine ⟨t.1, ?_⟩
  have e := t.2.1 (by omega) (by omega)
  rcases h3 with h3 | ⟨h3, h4⟩
  · left; omega
  · rcases g2 with g2 | ⟨g2, g3⟩
    · left; omega
    · right
      refine ⟨by omega, ?_⟩
      rcases h4 with h4 | h4
      · rw [g3] at h4; cases h4
      · simpa using h4
theorem not_less_pre : ∀ (l m : List UInt8), l.take m.length = m → Op.bytesLess l m = false
  | _, [], _ => by cases ‹List UInt8› <;> rfl
  | [], _ :: _, h => by simp at h
  | a :: l, b :: m, h => by
    simp only [List.length_cons, List.take_succ_cons, List.cons.injEq] at h
    obtain ⟨rfl, h⟩ := h
    simp [Op.bytesLess, not_less_pre l m h]
theorem tx_pre {l m : List UInt8} (h : l.take m.length = m) : 0 ≤ Vl.tx l m := by
  unfold Vl.tx
  rw [not_less_pre l m h]
  simp
  split <;> omega
theorem pre_ge {v q : Val} (hv : v.k = 3) (hq : q.k = 3) (h : pre v.s q.s = true) : Vl.ok v q = true ∧ 0 ≤ Vl.cmp v q := by
  rw [(cmp_key v q).1, (cmp_key v q).2]
  have e1 : key v = .txt v.s.toList := by simp [key, hv]
  have e2 : key q = .txt q.s.toList := by simp [key, hq]
  rw [e1, e2]
  refine ⟨rfl, tx_pre ?_⟩
  simp only [pre, Bool.and_eq_true, beq_iff_eq] at h
  rw [At.toList_len]
  exact h.2
theorem pre_trans {a b c : ByteArray} (h : pre a b = true) (g : pre b c = true) : pre a c = true := by
  simp only [pre, Bool.and_eq_true, beq_iff_eq, decide_eq_true_eq] at h g ⊢
  refine ⟨by omega, ?_⟩
  rw [← g.2, ← h.2, List.take_take]
  congr 1
  omega
theorem preI_takes {q : Val} (hq : q.k = 3) {p : Prd} (h : preI q p = true) {v : Val} (hv : v.k = 3) (hp : pre v.s q.s = true) : takes p v = true := by
  obtain ⟨g1, g2⟩ := pre_ge hv hq hp
  obtain ⟨nm, t, a, u, l⟩ := p
  have ht : t = 9 ∨ t = 7 ∨ t = 6 ∨ (¬ t = 9 ∧ ¬ t = 7 ∧ ¬ t = 6) := by omega
  rcases ht with rfl | rfl | rfl | ⟨e1, e2, e3⟩
  · simp [preI, takes, hq] at h
    simp [takes, hv]
    exact pre_trans hp h
  · simp [preI, takes] at h
    have t3 := Vl.three g1 h.1
    have := t3.2.2 g2 h.2
    simp [takes, t3.1]
    omega
  · simp [preI, takes] at h
    have t3 := Vl.three g1 h.1
    have := t3.2.2 g2 (by omega)
    simp [takes, t3.1]
    omega
  · simp [preI, e1, e2, e3] at h
theorem right_text {q : Prd} (h : right q = true) (ht : q.t = 9) : q.v.k = 3 := by
  obtain ⟨nm, t, a, u, l⟩ := q
  simp only at ht
  subst ht
  simp [right] at h
  exact h.2.1.1.2
/-- What a test takes is taken by each test that it implies. -/
theorem sound {q p : Prd} (h : implies q p = true) {v : Val} (hv : takes q v = true) : takes p v = true := by
  unfold implies at h
  split at h
  · cases h
  rename_i hr
  have hrq : right q = true := by cases e : right q <;> simp_all
  split at h
  · rename_i h1
    rcases Bool.or_eq_true_iff.1 h1 with h1 | h1
    · rw [void_none h1] at hv; cases hv
    · simp [takes, of_decide_eq_true h1]
  split at h
  · rename_i h2
    rw [← sameT_takes h2]; exact hv
  split at h
  · rename_i h3
    cases e : takes p v
    · simp only [takes, h3] at e
      simp at e
      rw [takes_is (is_of e.1 e.2) q] at hv
      rw [hv] at h
      cases h
    · rfl
  split at h
  · rename_i h4
    simp only [takes, h4] at hv
    simp at hv
    rw [takes_is (is_of hv.1 hv.2) p]; exact h
  split at h
  · rename_i h5
    simp only [takes, h5] at hv
    simp at hv
    obtain ⟨x, hx, hi⟩ := hv
    rw [takes_is hi p]
    have := List.all_eq_true.1 h x hx
    rcases Bool.or_eq_true_iff.1 this with h6 | h6
    · rw [nan_is h6] at hi; cases hi
    · exact h6
  split at h
  · rename_i h6
    rw [Bool.and_eq_true] at h h6
    have e := (ends_takes h6.1 v).1 hv
    exact (ends_takes h6.2 v).2 ⟨within_lo h.1 e.1, within_up h.2 e.2⟩
  split at h
  · rename_i h7
    simp only [takes, h7] at hv
    simp at hv
    exact preI_takes (right_text hrq h7) h hv.1 hv.2
  · cases h

/-- How a value stands to another one, and what the seven tests say of it. -/
inductive Stand (v u : Val) : Prop
  | none (h : Vl.ok v u = false)
  | below (h : Vl.ok v u = true) (c : Vl.cmp v u = -1)
  | at_ (h : Vl.ok v u = true) (c : Vl.cmp v u = 0)
  | above (h : Vl.ok v u = true) (c : Vl.cmp v u = 1)
theorem stand (v u : Val) : Stand v u := by
  cases h : Vl.ok v u
  · exact .none h
  · have r := Vl.range v u
    have : Vl.cmp v u = -1 ∨ Vl.cmp v u = 0 ∨ Vl.cmp v u = 1 := by omega
    rcases this with e | e | e
    · exact .below h e
    · exact .at_ h e
    · exact .above h e
end Pd
end Go.Proofs.YtfbfbajccphkoaaGreat
