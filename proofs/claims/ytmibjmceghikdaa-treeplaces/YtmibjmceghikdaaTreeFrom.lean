
/- The same contracts, of a row that an older world has; a row that came in; known. -/
import Derived.Test.YtmibjmceghikdaaTreeKnown
namespace Go.Proofs.Ytmibjmceghikdaa
open Go.RowKit
set_option linter.unusedVariables false

theorem IsRow.ri {w : World} {a : Option Addr} {len cap : Nat} {zs : List Int} (h : IsRow .i64 w a len cap zs) :
    ∃ l, Ri w a len l ∧ len ≤ cap ∧ cap ≤ 9223372036854775807 ∧ ∀ ad, a = some ad → len ≠ 0 → ad.block < w.heap.size := by
  rcases h with ⟨rfl, rfl, rfl, rfl⟩ | ⟨x, rfl, hl, hm, hz, hc, hw⟩
  · exact ⟨[], Ri.empty _ _, Nat.le_refl _, by omega, fun _ e => by cases e⟩
  · have hm' : cap ≤ 9223372036854775807 := by unfold maxLen at hm; omega
    by_cases h0 : len = 0
    · subst h0
      exact ⟨[], ⟨rfl, .inl rfl⟩, hl, hm', fun _ _ h => absurd rfl h⟩
    · obtain ⟨b, off, rfl, hc'⟩ := ints_at hc (by omega)
      refine ⟨zs.take len, ⟨by simp; omega, .inr ⟨b, off, rfl, fun j u hj => ?_⟩⟩, hl, hm', fun ad e _ => by cases e; exact cell_lt (hc' 0 (by omega))⟩
      have hj' := (List.getElem?_eq_some_iff.1 hj).1
      rw [List.length_take] at hj'
      rw [List.getElem?_take, if_pos (by omega)] at hj
      have hj2 : j < zs.length := by omega
      rw [hc' j hj2]
      rw [List.getD_eq_getElem?_getD, hj]; rfl
theorem known_any (w : World) : Calls Try.prog 16 #[] w fun e w' => e = .returned (.bool true) ∧ Below w.heap.size w w' := by
  go_enter Try.func16, Try.ntmps16
  go_wp2_with fail
  refine (tknown_any w).mono ?_
  rintro e w' ⟨rfl, hk⟩
  go_wp2_with fail
  go_ret
  exact ⟨rfl, hk⟩
theorem nears_len (l : List Int) (b : Int) : (Tr.nears l b).length ≤ 9 := by
  unfold Tr.nears
  split
  · rename_i h
    have h7 := Tr.right_len (Tr.has_right h)
    have := Tr.kids_few l b.toNat l.length
    rw [Tr.ints_len]; unfold Tr.nearN; rw [List.length_append]
    have : (if 0 < b.toNat then [Tr.par l b.toNat] else []).length ≤ 1 := by split <;> simp
    omega
  · simp
theorem kids_len (l : List Int) (b : Int) : (Tr.kids l b).length ≤ 9 := by
  unfold Tr.kids
  split
  · rename_i h
    have h7 := Tr.right_len (Tr.has_right h)
    have := Tr.kids_few l b.toNat l.length
    rw [Tr.ints_len]; omega
  · simp
theorem side_len (l : List Int) (b t : Int) : (Tr.side l b t).length ≤ 9 := by
  unfold Tr.side
  split
  · rename_i h
    have h7 := Tr.right_len (Tr.has_right h)
    have : (Tr.sideN l b.toNat t.toNat (l.length + 1)).length ≤ l.length + 1 := Tr.chosen_few _ _
    rw [Tr.ints_len]; omega
  · simp
/-- A row of its own, and what was there stands. -/
def RowFrom (W w : World) (L : List Int) (e : Ending) (w' : World) : Prop :=
  ∃ A c, e = .returned (.slice A L.length c) ∧ Ri w' A L.length L ∧ Below w.heap.size w w' ∧ Below W.heap.size W w' ∧ OwnI w.heap.size w' (.slice A L.length c) L
theorem RowPost.from_ {W w w' : World} {L : List Int} {e : Ending} (hB : Below W.heap.size W w) (h : RowPost w L e w') : RowFrom W w L e w' := by
  obtain ⟨v, rfl, hv, hk⟩ := h
  obtain ⟨A, c, rfl, -, hr, -⟩ := hv.reads
  exact ⟨A, c, rfl, hr, hk, then_below hB hk, hv⟩
section
variable {W w : World} {A : Option Addr} {n c : Nat} {l : List Int}
theorem near_from (h : Ri W A n l) (hB : Below W.heap.size W w) (hn : n ≤ 1000) (b : Int) : Calls Try.prog 8 #[.slice A n c, .int .i64 b] w (RowFrom W w (Tr.nears l b)) :=
  (near_any (h.later hB) hn b).mono fun _ _ k => k.from_ hB
theorem rnear_from (h : Ri W A n l) (hB : Below W.heap.size W w) (hn : n ≤ 1000) (b : Int) : Calls Try.prog 20 #[.slice A n c, .int .i64 b] w (RowFrom W w (Tr.nears l b)) :=
  (rnear_any (h.later hB) hn b).mono fun _ _ k => k.from_ hB
theorem kids_from (h : Ri W A n l) (hB : Below W.heap.size W w) (hn : n ≤ 1000) (b : Int) : Calls Try.prog 9 #[.slice A n c, .int .i64 b] w (RowFrom W w (Tr.kids l b)) :=
  (kids_any (h.later hB) hn b).mono fun _ _ k => k.from_ hB
theorem rkids_from (h : Ri W A n l) (hB : Below W.heap.size W w) (hn : n ≤ 1000) (b : Int) : Calls Try.prog 21 #[.slice A n c, .int .i64 b] w (RowFrom W w (Tr.kids l b)) :=
  (rkids_any (h.later hB) hn b).mono fun _ _ k => k.from_ hB
theorem side_from (h : Ri W A n l) (hB : Below W.heap.size W w) (hn : n ≤ 1000) (b t : Int) : Calls Try.prog 10 #[.slice A n c, .int .i64 b, .int .i64 t] w (RowFrom W w (Tr.side l b t)) :=
  (side_any (h.later hB) hn b t).mono fun _ _ k => k.from_ hB
theorem rside_from (h : Ri W A n l) (hB : Below W.heap.size W w) (hn : n ≤ 1000) (b t : Int) : Calls Try.prog 24 #[.slice A n c, .int .i64 b, .int .i64 t] w (RowFrom W w (Tr.side l b t)) :=
  (rside_any (h.later hB) hn b t).mono fun _ _ k => k.from_ hB
theorem rnext_from (h : Ri W A n l) (hB : Below W.heap.size W w) (hn : n ≤ 1000) (a b : Int) :
    Calls Try.prog 22 #[.slice A n c, .int .i64 a, .int .i64 b] w fun e w' => e = .returned (.int .i64 (Tr.next l a b)) ∧ Below W.heap.size W w' :=
  (rnext_any (h.later hB) hn a b).mono fun _ _ ⟨e, k⟩ => ⟨e, then_below hB k⟩
theorem rdist_from (h : Ri W A n l) (hB : Below W.heap.size W w) (hn : n ≤ 1000) (a b : Int) :
    Calls Try.prog 23 #[.slice A n c, .int .i64 a, .int .i64 b] w fun e w' => e = .returned (.int .i64 (Tr.dists l a b)) ∧ Below W.heap.size W w' :=
  (rdist_any (h.later hB) hn a b).mono fun _ _ ⟨e, k⟩ => ⟨e, then_below hB k⟩
theorem rplace_from {B : Option Addr} {m d : Nat} {q : List Int} (h : Ri W A n l) (hB : Below W.heap.size W w) (hq : Ri w B m q) (hn : n ≤ 1000) (hm : m ≤ 1000) :
    Calls Try.prog 26 #[.slice A n c, .slice B m d] w fun e w' => e = .returned (.int .i64 (Tr.place l q)) ∧ Below W.heap.size W w' :=
  (rplace_any (h.later hB) hq hn hm).mono fun _ _ ⟨e, k⟩ => ⟨e, then_below hB k⟩
theorem same_from {B : Option Addr} {d : Nat} (h : Ri w A l.length l) (hB : Below W.heap.size W w) (hq : Ri w B l.length l) (hn : l.length ≤ 9) :
    Calls Try.prog 19 #[.slice A l.length c, .slice B l.length d] w fun e w' => e = .returned (.bool true) ∧ Below W.heap.size W w' :=
  (same_any h hq (by omega) (by omega)).mono fun _ _ ⟨e, k⟩ => ⟨by rw [e, decide_eq_true rfl], then_below hB k⟩
end
end Go.Proofs.Ytmibjmceghikdaa
