
/- The statements' attrs: raw ones, or right ones of which one is another one. -/
import Derived.Test.YtbmjpajcoeaacaaAttFacts
namespace Go.Proofs.Ytbmjpajcoeaacaa
open Go.RowKit

theorem flat_set : ∀ (l : List Att) (k j : Nat) (a a' : Att) (u : Value), l[k]? = some a → j < 6 → a.cells.set j u = a'.cells → (flat l).set (k * 6 + j) u = flat (l.set k a')
  | [], _, _, _, _, _, h, _, _ => by simp at h
  | b :: l, 0, j, a, a', u, h, hj, hc => by
    simp at h; subst h
    rw [flat, List.flatMap_cons, Nat.zero_mul, Nat.zero_add, List.set_append_left _ _ (by rw [Att.cells_len]; omega), hc]
    rfl
  | b :: l, k + 1, j, a, a', u, h, hj, hc => by
    rw [flat, List.flatMap_cons, List.set_append_right _ _ (by rw [Att.cells_len]; omega), Att.cells_len, show (k + 1) * 6 + j - 6 = k * 6 + j by omega, List.set_cons_succ]
    have := flat_set l k j a a' u (by simpa using h) hj hc
    unfold flat at this ⊢
    rw [this, List.flatMap_cons]
/-- What the statements' attrs tells: a row of attributes that is not the Feed's; the Feed is one still. -/
def AttsPost (B b a : Nat) (w : World) (e : Ending) (w' : World) : Prop :=
  ∃ (A : Option Addr) (n c : Nat) (l : List Att), e = .returned (.slice A n c) ∧ n ≤ 8 ∧ n ≤ c ∧ (A = none → n = 0 ∧ c = 0) ∧ Ats w' A n l ∧ (∀ x, A = some x → x.block ≠ b ∧ x.block < w'.heap.size) ∧ IsFeed B w' b (a + 20) ∧ Kept (· = b) w w'
theorem atts_own {B b a : Nat} {w w' : World} {v : Value} {l : List Att} (h : OwnA w.heap.size w' v l) (hb : b < w.heap.size) (hl : l.length ≤ 8) (hz : ∀ a, a ∈ l → a.name.size ≤ 9223372036854775807) (hF : IsFeed B w' b (a + 20)) (hK : Kept (· = b) w w') : AttsPost B b a w (.returned v) w' := by
  obtain ⟨A, c, rfl, h1, h2, h3, h4, -, h5⟩ := h.reads
  exact ⟨A, _, c, l, rfl, hl, h1, h5, ⟨h3, hz, by omega⟩, fun x e => by have := h4 x e; omega, hF, hK⟩
theorem mem_set {l : List Att} {k : Nat} {a' : Att} (hz : ∀ a, a ∈ l → a.name.size ≤ 9223372036854775807) (h : a'.name.size ≤ 9223372036854775807) : ∀ a, a ∈ l.set k a' → a.name.size ≤ 9223372036854775807 := by
  intro a ha
  rcases List.mem_or_eq_of_mem_set ha with h1 | rfl
  · exact hz a h1
  · exact h
/-- A cell of the one at k is stored to. -/
theorem atts_set {B b a g k j c : Nat} {w w' : World} {l : List Att} {x y : Att} {u : Value} (hO : OwnA w.heap.size w' (.slice (some ⟨g, 0, none⟩) l.length c) l) (hb : b < w.heap.size) (hg : w.heap.size ≤ g) (hl : l.length ≤ 8) (hz : ∀ a, a ∈ l → a.name.size ≤ 9223372036854775807) (hF : IsFeed B w' b (a + 20)) (hK : Kept (· = b) w w')
    (hk : l[k]? = some x) (hj : j < 6) (hc : x.cells.set j u = y.cells) (hy : y.name.size ≤ 9223372036854775807) : AttsPost B b a w (.returned (.slice (some ⟨g, 0, none⟩) l.length c)) (w'.setCell ⟨g, k * 6 + j, none⟩ u) := by
  have hkl : k < l.length := (List.getElem?_eq_some_iff.1 hk).1
  have h1 := hO.store (k * 6 + j) u (by omega)
  rw [flat_set l k j x y u hk hj hc] at h1
  have h2 : OwnA w.heap.size (w'.setCell ⟨g, k * 6 + j, none⟩ u) (.slice (some ⟨g, 0, none⟩) l.length c) (l.set k y) := by
    unfold OwnA
    rw [List.length_set]
    exact h1
  have hB := hF.1
  refine atts_own h2 hb (by rw [List.length_set]; exact hl) (mem_set hz hy) (hF.kept (Kept.setCell (S := (· = g)) w' ⟨g, k * 6 + j, none⟩ rfl u) (by show ¬ b = g; omega) (by intro i hi e; omega)) ?_
  exact hK.trans (Kept.setCell (S := (· = g)) w' ⟨g, k * 6 + j, none⟩ rfl u) (fun i hi e => by omega)

set_option maxRecDepth 100000 in
set_option maxHeartbeats 8000000 in
theorem atts_any {B b a : Nat} (w : World) (ha : a < 4611686018427385000) (hf : IsFeed B w b a) {A : Option Addr} {n c : Nat} {l : List Att} (hA : Ats w A n l) (hn : n ≤ c) (h0 : A = none → n = 0 ∧ c = 0) (hx : ∀ x, A = some x → x.spot = none ∧ x.block ≠ b ∧ x.block < w.heap.size) {s : ByteArray} (hs : s.size ≤ 9223372036854775807) :
    Calls Try.prog 14 #[.slice A n c, .pointer (some ⟨b, 0, none⟩), .string s] w (AttsPost B b a w) := by
  have hlt := hf.lt
  have HF := Lib.hid hf
  have HA := Lib.hid hA
  have HX := Lib.hid hx
  have HN := Lib.hid h0
  have hnf := hA.few
  clear hf hA hx h0
  go_enter Try.func14, Try.ntmps14
  go_wp2_with fail
  refine (next_any (a := a) 3 (by omega) (by omega) _ (by omega) HF.out).mono ?_
  rintro e w1 ⟨k, hk, rfl, hF1, hK1, hs1⟩
  have HF1 := Lib.hid hF1
  have HK1 := Lib.hid hK1
  clear hF1 hK1 HF
  by_cases hk0 : (k : Int) = 0
  · have HA1 := Lib.hid (HA.out.kept HK1.out (fun x e => (HX.out x e).2.1))
    have HX1 : Hid (∀ x, A = some x → x.spot = none ∧ x.block ≠ b ∧ x.block < w1.heap.size) := fun x e => by rw [hs1]; exact HX.out x e
    clear HX HA hs1
    have hmin : (n : Int) ≤ 8 ∨ (8 < (n : Int)) := by omega
    cases A with
    | none =>
      obtain ⟨rfl, rfl⟩ := HN.out rfl
      go_wp2_with fail
      go_ret
      exact ⟨none, 0, 0, l, rfl, by omega, by omega, fun _ => ⟨rfl, rfl⟩, HA1.out, (fun x e => by cases e), HF1.out.more (by omega), HK1.out⟩
    | some x =>
      obtain ⟨g, o, sp⟩ := x
      obtain rfl : sp = none := (HX1.out _ rfl).1
      by_cases hm : (n : Int) ≤ 8
      · go_wp2_with fail
        go_ret
        exact ⟨_, n, c, l, rfl, by omega, hn, (fun h => by cases h), HA1.out, fun x e => (HX1.out x e).2, HF1.out.more (by omega), HK1.out⟩
      · have hc8 : 8 ≤ c := by omega
        go_wp2_with fail
        go_ret
        have hl := HA1.out.len
        exact ⟨_, 8, c, l.take 8, rfl, by omega, hc8, (fun h => by cases h), ⟨HA1.out.row.take (by omega), fun x hx => HA1.out.names x (List.mem_of_mem_take hx), by omega⟩, fun x e => (HX1.out x e).2, HF1.out.more (by omega), HK1.out⟩
  · clear HA HX HN
    go_wp2_with fail
    refine (feedattrs_any _ (by omega) HF1.out).mono ?_
    rintro e w2 ⟨v, m, rfl, hfed, hO, hF2, hK2⟩
    have HF2 := Lib.hid hF2
    have HK2 := Lib.hid (HK1.out.then hK2)
    rw [hs1] at hO
    have HFed := Lib.hid hfed
    have HO := Lib.hid hO
    have hm5 := hfed.len
    have HZ := Lib.hid hfed.small
    obtain ⟨A2, c2, rfl, hc2, hm2, -, hA2, -, hn2⟩ := hO.reads
    have hs2 : w.heap.size ≤ w2.heap.size := HK2.out.size
    clear hfed hO hF2 hK2 HF1 HK1 hs1
    by_cases hm0 : (m.length : Int) > 0
    case neg =>
      go_wp2_with fail
      go_ret
      exact atts_own HO.out hlt (by omega) HZ.out (HF2.out.more (by omega)) HK2.out
    obtain ⟨g, o, rfl, -⟩ := (HO.out.ats HZ.out).at (by omega)
    obtain rfl : o = 0 := by
      rcases HO.out.1.2 with ⟨h, -⟩ | ⟨g', _, _, h, -⟩
      · cases h
      · cases h; rfl
    have hg := (hA2 _ rfl).1
    clear hA2 hn2
    go_wp2_with fail
    refine (next_any (a := a + 1 + 15) 3 (by omega) (by omega) _ (by omega) HF2.out).mono ?_
    rintro e w3 ⟨k3, hk3, rfl, hF3, hK3, hs3⟩
    have HF3 := Lib.hid hF3
    have HK3 := Lib.hid (HK2.out.then hK3)
    have HO3 := Lib.hid (HO.out.kept hK3 (own_apart HO.out hlt))
    clear hF3 hK3 HF2 HK2 HO hs3
    by_cases hk3 : (k3 : Int) = 0
    case neg =>
      go_wp2_with fail
      go_ret
      exact atts_own HO3.out hlt (by omega) HZ.out (HF3.out.more (by omega)) HK3.out
    go_wp2_with fail
    refine (next_any (a := a + 1 + 15 + 1) m.length (by omega) (by omega) _ (by omega) HF3.out).mono ?_
    rintro e w4 ⟨q, hq, rfl, hF4, hK4, hs4⟩
    have HF4 := Lib.hid hF4
    have HK4 := Lib.hid (HK3.out.then hK4)
    have HO4 := Lib.hid (HO3.out.kept hK4 (own_apart HO3.out hlt))
    clear hF4 hK4 HF3 HK3 HO3 hs4
    go_wp2_with fail
    refine (next_any (a := a + 1 + 15 + 1 + 1) 4 (by omega) (by omega) _ (by omega) HF4.out).mono ?_
    rintro e w5 ⟨k5, hk5, rfl, hF5, hK5, hs5⟩
    have HF5 := Lib.hid hF5
    have HK5 := Lib.hid (HK4.out.then hK5)
    have HO5 := Lib.hid (HO4.out.kept hK5 (own_apart HO4.out hlt))
    clear hF5 hK5 HF4 HK4 HO4 hs5
    obtain ⟨x, hx⟩ : ∃ x, m[q]? = some x := ⟨_, List.getElem?_eq_getElem (by omega)⟩
    obtain ⟨g', o', e', hsix⟩ := (HO5.out.ats HZ.out).at (by omega)
    cases e'
    have hS := hsix q x hx
    rw [Nat.zero_add] at hS
    have HS := Lib.hid hS
    have HX := Lib.hid hx
    have hxz := HZ.out x (List.mem_of_getElem? hx)
    have HXZ := Lib.hid hxz
    obtain ⟨xn, xk, xm, xx, xs, xb⟩ := x
    clear hsix hS hx hxz
    have f0 := HO5.out.thaw (q * 6)
    have f1 := HO5.out.thaw (q * 6 + 1)
    have f5 := HO5.out.thaw (q * 6 + 1 + 4)
    have d0 := HS.out.h0
    have d1 := HS.out.h1
    have d2 := HS.out.h2
    have d3 := HS.out.h3
    have d4 := HS.out.h4
    have d5 := HS.out.h5
    have hk5' : k5 = 0 ∨ k5 = 1 ∨ k5 = 2 ∨ k5 = 3 := by omega
    clear hk5
    rcases hk5' with rfl | rfl | rfl | rfl
    · go_wp2_with fail
      go_ret
      exact atts_set HO5.out hlt hg (by omega) HZ.out (HF5.out.more (by omega)) HK5.out HX.out (j := 0) (y := ⟨s, ⟨xk, xm, xx, xs, xb⟩⟩) (by omega) rfl hs
    · go_wp2_with fail
      go_ret
      exact atts_set HO5.out hlt hg (by omega) HZ.out (HF5.out.more (by omega)) HK5.out HX.out (j := 5) (y := ⟨xn, ⟨xk, xm, xx, xs, !xb⟩⟩) (by omega) rfl HXZ.out
    · go_wp2_with (first | (at_builtin; refine wpList_ownw (k := 6) rfl _ _ 28 rfl Try.underlying28 att_info rfl (by decide) w.heap.size _ _ _ rfl (HO5.out.later (one_new _ _)) _ 1 1 rfl (fun h => by cases h) (flat [⟨xn, ⟨xk, xm, xx, xs, xb⟩⟩]) (new_att w5 ⟨xn, ⟨xk, xm, xx, xs, xb⟩⟩) (flat_one _) (by omega) (by decide) ?_; intro v7 w7 hO7 hK7; have HO7 := Lib.hid hO7; have HK7 := Lib.hid hK7; clear hO7 hK7))
      go_ret
      have hB := HF5.out.1
      refine atts_own (own_add HO7.out) hlt (by simp; omega) ?_ (((HF5.out.below (one_new _ _)).kept HK7.out (by intro e; have := Option.some.inj (show some g = some b from e); omega) (by intro i hi e; have := Option.some.inj (show some g = some i from e); omega)).more (by omega)) ((HK5.out.then (Kept.alloc _ _ _)).trans HK7.out (fun i hi e => by have := Option.some.inj (show some g = some i from e); omega))
      intro y hy
      rcases List.mem_append.1 hy with h | h
      · exact HZ.out y h
      · rw [List.mem_singleton.1 h]; exact HXZ.out
    · go_wp2_with fail
      refine (next_any (a := a + 1 + 15 + 1 + 1 + 1) 6 (by omega) (by omega) _ (by omega) HF5.out).mono ?_
      rintro e w6 ⟨k6, hk6, rfl, hF6, hK6, hs6⟩
      have HF6 := Lib.hid hF6
      have HK6 := Lib.hid (HK5.out.then hK6)
      have HO6 := Lib.hid (HO5.out.kept hK6 (own_apart HO5.out hlt))
      have hS := HS.out.kept hK6 (by show ¬ g = b; omega)
      have e1 := hS.h1
      have t1 := HO6.out.thaw (q * 6 + 1)
      clear hF6 hK6 hs6 hS f0 f1 f5 d0 d1 d2 d3 d4 d5 HF5 HK5 HO5 HS
      go_wp2_with fail
      go_ret
      exact atts_set HO6.out hlt hg (by omega) HZ.out (HF6.out.more (by omega)) HK6.out HX.out (j := 1) (y := ⟨xn, ⟨k6, xm, xx, xs, xb⟩⟩) (by omega) rfl HXZ.out
end Go.Proofs.Ytbmjpajcoeaacaa
