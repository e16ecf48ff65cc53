
/- A reduced row takes what the filters take; no one of it covers another. Plain mathematics; nothing of the program. -/
import Derived.Test.YtfbfbajccphkoaaFilReduce
import Derived.Test.YtfbfbajccphkoaaPrdFacts
namespace Go.Proofs.Ytfbfbajccphkoaa
open Go.RowKit
set_option linter.unusedVariables false
namespace Fi
theorem implies_right {q p : Prd} (h : Pd.implies q p = true) : Pd.right p = true := by
  unfold Pd.implies at h
  split at h
  · cases h
  rename_i hr
  cases hp : Pd.right p
  · simp [hp] at hr
  · rfl
theorem got_name {a : List Att} {s t : ByteArray} (h : (s.toList == t.toList) = true) : At.got a s = At.got a t ∧ At.has a s = At.has a t := by
  have e : s.toList = t.toList := by simpa using h
  unfold At.got At.has At.find
  rw [e]
  exact ⟨rfl, rfl⟩
theorem takes1_of {a : List Att} {q p : Prd} (h : ((q.name.toList == p.name.toList) && Pd.implies q p) = true) (hq : takes1 a q = true) : takes1 a p = true := by
  simp only [Bool.and_eq_true] at h
  have hn := got_name (a := a) h.1
  unfold takes1 at hq ⊢
  simp only [Bool.and_eq_true] at hq ⊢
  rw [hn.1, hn.2] at hq
  exact ⟨hq.1, implies_right h.2, Pd.sound h.2 hq.2.2⟩
theorem takes_of {f g : List Pt} {a : List Att} (h : covers f g = true) (hg : takes g a = true) : takes f a = true := by
  unfold takes at hg ⊢
  rw [List.all_eq_true] at hg ⊢
  unfold covers at h
  rw [Bool.or_eq_true] at h
  rcases h with h | h
  · unfold void at h
    obtain ⟨q, hq, h1⟩ := List.any_eq_true.1 h
    have h2 := hg q hq
    simp only [Bool.and_eq_true] at h1
    unfold takes1 at h2
    rw [Pd.void_none h1.2] at h2
    simp at h2
  · intro p hp
    have h1 := List.all_eq_true.1 h p hp
    unfold implied at h1
    obtain ⟨q, hq, h2⟩ := List.any_eq_true.1 h1
    exact takes1_of h2 (hg q hq)
theorem any_step (row : List Ft) (f : Ft) (a : List Att) : any (step row f) a = (any row a || takes f.l a) := by
  rw [Bool.eq_iff_iff]
  unfold step any
  split
  · rename_i hc
    unfold covered at hc
    obtain ⟨r, hr, h1⟩ := List.any_eq_true.1 hc
    rw [Bool.or_eq_true]
    constructor
    · exact .inl
    · rintro (h | h)
      · exact h
      · exact List.any_eq_true.2 ⟨r, hr, takes_of h1 h⟩
  · rw [List.any_append, Bool.or_eq_true, Bool.or_eq_true]
    constructor
    · rintro (h | h)
      · obtain ⟨g, hg, h1⟩ := List.any_eq_true.1 h
        exact .inl (List.any_eq_true.2 ⟨g, (List.mem_filter.1 hg).1, h1⟩)
      · exact .inr (by simpa using h)
    · rintro (h | h)
      · obtain ⟨g, hg, h1⟩ := List.any_eq_true.1 h
        cases hs : stays f g
        · right
          have h2 : covers f.l g.l = true := by unfold stays at hs; simpa using hs
          simpa using takes_of h2 h1
        · exact .inl (List.any_eq_true.2 ⟨g, List.mem_filter.2 ⟨hg, hs⟩, h1⟩)
      · exact .inr (by simpa using h)
theorem any_fold (a : List Att) : ∀ (L row : List Ft), any (L.foldl step row) a = (any row a || any L a)
  | [], row => by simp [any]
  | f :: L, row => by
    rw [List.foldl_cons, any_fold a L, any_step]
    show _ = (any row a || any (f :: L) a)
    unfold any
    rw [List.any_cons, Bool.or_assoc]
theorem any_reduce (L : List Ft) (a : List Att) : any (reduce L) a = any L a := by
  unfold reduce
  rw [any_fold]
  simp [any]
/-- No one covers another. -/
def Apart (row : List Ft) : Prop := row.Pairwise fun g h => covers g.l h.l = false ∧ covers h.l g.l = false
theorem apart_step {row : List Ft} (h : Apart row) (f : Ft) : Apart (step row f) := by
  unfold step
  split
  · exact h
  · rename_i hc
    unfold Apart at h ⊢
    rw [List.pairwise_append]
    refine ⟨h.filter _, List.pairwise_singleton _ _, fun g hg k hk => ?_⟩
    rw [List.mem_singleton.1 hk]
    obtain ⟨h1, h2⟩ := List.mem_filter.1 hg
    refine ⟨?_, by unfold stays at h2; simpa using h2⟩
    cases hq : covers g.l f.l
    · rfl
    · exact absurd (List.any_eq_true.2 ⟨g, h1, hq⟩) hc
theorem apart_fold : ∀ (L row : List Ft), Apart row → Apart (L.foldl step row)
  | [], row, h => h
  | f :: L, row, h => apart_fold L (step row f) (apart_step h f)
theorem apart_reduce (L : List Ft) : Apart (reduce L) := apart_fold L [] List.Pairwise.nil
theorem apart_at {L : List Ft} (h : Apart L) {i k : Nat} {f g : Ft} (hi : L[i]? = some f) (hk : L[k]? = some g) (hn : i ≠ k) : covers f.l g.l = false := by
  unfold Apart at h
  rw [List.pairwise_iff_getElem] at h
  obtain ⟨h1, rfl⟩ := List.getElem?_eq_some_iff.1 hi
  obtain ⟨h2, rfl⟩ := List.getElem?_eq_some_iff.1 hk
  rcases Nat.lt_or_gt_of_ne hn with h3 | h3
  · exact (h i k h1 h2 h3).1
  · exact (h k i h2 h1 h3).2
theorem step_some (row : List Ft) (f : Ft) : 0 < (step row f).length := by
  unfold step
  split
  · rename_i hc
    obtain ⟨r, hr, -⟩ := List.any_eq_true.1 hc
    exact List.length_pos_of_mem hr
  · simp
theorem fold_some : ∀ (L row : List Ft), 0 < row.length → 0 < (L.foldl step row).length
  | [], row, h => h
  | f :: L, row, h => fold_some L (step row f) (step_some row f)
theorem reduce_some {L : List Ft} (h : 0 < L.length) : 0 < (reduce L).length := by
  cases L with
  | nil => simp at h
  | cons f L => exact fold_some L _ (step_some [] f)
end Fi
end Go.Proofs.Ytfbfbajccphkoaa
