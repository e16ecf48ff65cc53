
/- TreeSides: the sides of all that are Near hold each other broker, just once; kids are Near, and lie one further from the root. -/
import Derived.Test.YtmibjmceghikdaaTreeWays
import Derived.OwnWalk
namespace Go.Proofs.Ytmibjmceghikdaa
open Go.RowKit
set_option linter.unusedVariables false
namespace Tr
/-- Counts of the first m brokers. -/
def counts (m : Nat) (f : Nat → Nat) : List Int := ints ((List.range m).map f)
theorem counts_len (m : Nat) (f : Nat → Nat) : (counts m f).length = m := by unfold counts; rw [ints_len, List.length_map, List.length_range]
theorem counts_get {m : Nat} {f : Nat → Nat} {x : Nat} (h : x < m) : (counts m f)[x]? = some (f x : Int) := by
  unfold counts; rw [ints_get, List.getElem?_map, List.getElem?_range h]; rfl
theorem counts_set {m : Nat} {f g : Nat → Nat} {y : Nat} (hy : y < m) (h : ∀ x, x < m → g x = if x = y then f x + 1 else f x) : (counts m f).set y ((f y : Int) + 1) = counts m g := by
  refine List.ext_getElem? fun x => ?_
  by_cases hx : x < m
  · rw [counts_get hx, h x hx]
    by_cases e : x = y
    · subst e
      rw [List.getElem?_set_self (by rw [counts_len]; exact hx), if_pos rfl]; simp
    · rw [List.getElem?_set_ne (fun h => e h.symm), counts_get hx, if_neg e]
  · rw [List.getElem?_eq_none (by rw [List.length_set, counts_len]; omega), List.getElem?_eq_none (by rw [counts_len]; omega)]
theorem counts_congr {m : Nat} {f g : Nat → Nat} (h : ∀ x, x < m → f x = g x) : counts m f = counts m g := by
  unfold counts; congr 1; exact List.map_congr_left fun x hx => h x (List.mem_range.1 hx)
theorem count_rising : ∀ {L : List Nat}, L.Pairwise (· < ·) → ∀ {x : Nat}, x ∈ L → L.count x = 1
  | [], _, _, h => by cases h
  | a :: L, hp, x, h => by
    obtain ⟨h1, h2⟩ := List.pairwise_cons.1 hp
    rw [List.count_cons]
    rcases List.mem_cons.1 h with rfl | h
    · rw [List.count_eq_zero_of_not_mem (fun hm => by have := h1 _ hm; omega)]; simp
    · have := h1 _ h
      rw [count_rising h2 h, if_neg (by simp; omega)]
/-- How often x was seen: of the first i that are Near all of their sides, of the next one's the first k. -/
def seen (l : List Int) (b : Nat) (i k : Nat) (x : Nat) : Nat :=
  ((nearN l b).take i).countP (fun t => (x != b) && (step l b x == t)) + ((sideN l b ((nearN l b).getD i 0) (l.length + 1)).take k).count x
theorem seen_zero (l : List Int) (b x : Nat) : seen l b 0 0 x = 0 := by simp [seen]
theorem seen_next {l : List Int} {b i k y : Nat} (hy : (sideN l b ((nearN l b).getD i 0) (l.length + 1))[k]? = some y) (x : Nat) : seen l b i (k + 1) x = if x = y then seen l b i k x + 1 else seen l b i k x := by
  unfold seen
  rw [List.take_add_one, hy, List.count_append]
  simp only [Option.toList_some, List.count_singleton, beq_iff_eq]
  by_cases e : x = y
  · rw [if_pos e, if_pos e.symm]; omega
  · rw [if_neg e, if_neg (fun h => e h.symm)]; omega
theorem mem_side {l : List Int} {b t k x : Nat} : x ∈ sideN l b t k ↔ x < k ∧ ((x != b) && (step l b x == t)) = true := mem_chosen
theorem seen_full {l : List Int} {b i t : Nat} (hi : (nearN l b)[i]? = some t) {x : Nat} (hx : x < l.length + 1) : seen l b i (sideN l b t (l.length + 1)).length x = seen l b (i + 1) 0 x := by
  have e1 : (sideN l b t (l.length + 1)).count x = if ((x != b) && (step l b x == t)) = true then 1 else 0 := by
    by_cases h : ((x != b) && (step l b x == t)) = true
    · rw [if_pos h]
      exact count_rising (chosen_rising _ _) (mem_side.2 ⟨hx, h⟩)
    · rw [if_neg h]
      exact List.count_eq_zero_of_not_mem fun hm => h (mem_side.1 hm).2
  unfold seen
  rw [List.getD_eq_getElem?_getD, hi, Option.getD_some, List.take_length, List.take_zero, List.count_nil, Nat.add_zero, List.take_add_one, hi, List.countP_append, e1]
  simp only [Option.toList_some, List.countP_singleton]
  rw [Nat.add_zero]
theorem seen_end {l : List Int} {b : Nat} (hb : b ≤ l.length) {x : Nat} (hx : x < l.length + 1) : seen l b (nearN l b).length 0 x = if x = b then 0 else 1 := by
  unfold seen
  rw [List.take_length, List.take_zero, List.count_nil, Nat.add_zero]
  by_cases e : x = b
  · rw [if_pos e, List.countP_eq_zero.2]
    intro t _
    simp [e]
  · rw [if_neg e]
    have hs := step_near l (a := b) (b := x) (fun h => e h.symm)
    have : (nearN l b).countP (fun t => (x != b) && (step l b x == t)) = (nearN l b).count (step l b x) := by
      unfold List.count
      refine List.countP_congr fun t _ => ?_
      simp only [Bool.and_eq_true, bne_iff_ne, ne_eq, beq_iff_eq]
      exact ⟨fun h => h.2.symm, fun h => ⟨e, h.symm⟩⟩
    rw [this]
    exact count_rising (near_rising l b) ((mem_near hb).2 ⟨by have := hs.2.2; omega, hs.1⟩)
theorem seen_few (l : List Int) (b i k x : Nat) : seen l b i k x ≤ (nearN l b).length + (l.length + 1) := by
  unfold seen
  have h1 := List.countP_le_length (p := fun t => (x != b) && (step l b x == t)) (l := (nearN l b).take i)
  have h2 := List.count_le_length (a := x) (l := (sideN l b ((nearN l b).getD i 0) (l.length + 1)).take k)
  have h3 : (sideN l b ((nearN l b).getD i 0) (l.length + 1)).length ≤ l.length + 1 := chosen_few _ _
  rw [List.length_take] at h1 h2
  omega
end Tr
theorem made_ints (m : Nat) : (madeCells (Value.int .i64 0).cells m).toList = (Tr.counts m fun _ => 0).map icell := by
  refine List.ext_getElem? fun j => ?_
  rw [List.getElem?_map]
  by_cases h : j < m
  · rw [Tr.counts_get h]
    simp [madeCells, h, Value.cells, Nat.mod_one]
  · rw [List.getElem?_eq_none (l := (madeCells (Value.int .i64 0).cells m).toList) (by rw [Array.length_toList, size_madeCells]; omega), List.getElem?_eq_none (l := Tr.counts m fun _ => 0) (by rw [Tr.counts_len]; omega)]
    rfl
theorem owni_store {B g n c y : Nat} {w : World} {l : List Int} (h : OwnI B w (.slice (some ⟨g, 0, none⟩) n c) l) (hl : l.length = n) (hy : y < n) (nq : Nat) (z : Int) :
    OwnI B ((w.drewN nq).setCell ⟨g, y, none⟩ (.int .i64 z)) (.slice (some ⟨g, 0, none⟩) n c) (l.set y z) := by
  subst hl
  have := OwnW.store (OwnW.kept h (Kept.drewN (fun _ => False) w nq) (fun _ _ => id)) y (icell z) (by omega)
  rw [← List.map_set] at this
  rw [OwnI, List.length_set]
  exact this
theorem side_at {l : List Int} {x t : Nat} (h : Tr.right l = true) (hx : x ≤ l.length) (ht : t ≤ l.length) : Tr.side l (x : Int) (t : Int) = Tr.ints (Tr.sideN l x t (l.length + 1)) := by
  unfold Tr.side; rw [if_pos (Tr.has_both h hx ht), Int.toNat_natCast, Int.toNat_natCast]
theorem kids_at {l : List Int} {x : Nat} (h : Tr.right l = true) (hx : x ≤ l.length) : Tr.kids l (x : Int) = Tr.ints (Tr.kidsN l x l.length) := by
  unfold Tr.kids; rw [if_pos (Tr.has_self h hx), Int.toNat_natCast]

set_option maxRecDepth 100000 in
set_option maxHeartbeats 16000000 in
theorem tsides_walk (w : World) (A0 : Option Addr) (n0 c0 : Nat) (z0 : List Int) (h0 : IsRow .i64 w A0 n0 c0 z0) (b : Int) (hb : (Lit.int .i64 b).wf = true) :
    Calls Try.prog 6 #[.slice A0 n0 c0, .int .i64 b] w fun e w' => e = .returned (.bool true) ∧ Below w.heap.size w w' := by
  have HFN := Lib.hid (fun t => fed_any (c := c0) h0.draws t)
  clear h0 hb
  obtain ⟨ti, hti, htz, ht1, ht2⟩ := int_info
  go_enter Try.func6, Try.ntmps6
  go_wp2_with fail
  refine (HFN.out _).mono ?_
  rintro e W ⟨Ap, cp, p, rfl, hp, hr, h7, hB, -⟩
  have HP := Lib.hid hp
  have HR := Lib.hid hr
  have HBW := Lib.hid hB
  clear hp hr hB HFN
  obtain ⟨x, hx, hxl⟩ := pick_at b (l := p)
  have HX := Lib.hid hx
  clear hx
  go_wp2_with (first | (go_at_call 25; refine (pick_any _ ((p.length : Int) + 1) (by omega) (by omega) _).mono ?_; rintro e w' ⟨rfl, rfl⟩; rw [HX.out]) | (at_make; refine wpList_make_full _ rfl _ _ 22 rfl W.heap.size 3 ti (.int .i64 0) 1 Try.underlying22 hti htz ht1 .i64 .i64 _ _ (p.length + 1) rfl rfl (by simp) (by simp) (by rw [ht2]; omega) (by unfold maxLen; omega) (Nat.le_refl _) ?_; intro w1 ho hg; have HO := Lib.hid ho; have HG := Lib.hid hg; clear ho hg))
  have hlw := HG.out.size
  have hBw : Below W.heap.size W w1 := ⟨HG.out.os, HG.out.tape, HG.out.output, HG.out.size, fun k hk => HG.out.block k hk (by simp)⟩
  have hS0 : OwnI W.heap.size w1 (.slice (some ⟨W.heap.size, 0, none⟩) (p.length + 1) (p.length + 1)) (Tr.counts (p.length + 1) (Tr.seen p x 0 0)) := by
    rw [Tr.counts_congr (fun y _ => Tr.seen_zero p x y)]
    have := HO.out
    rw [Nat.mul_one, made_ints] at this
    refine ⟨?_, hlw⟩
    rw [Tr.counts_len]
    exact this
  have HS0 := Lib.hid hS0
  have HB1 := Lib.hid hBw
  clear hS0 hBw HO HG
  refine (near_any (HP.out.later HB1.out) (by omega) (x : Int)).mono ?_
  rintro e w2 ⟨v1, rfl, hv1, hk1⟩
  obtain ⟨A1, c1, rfl, -, hr1, hA1⟩ := hv1.reads
  have hnl := nears_len p (x : Int)
  rw [nears_at HR.out hxl] at hr1 hA1 hnl ⊢
  rw [Tr.ints_len] at hr1 hA1 hnl ⊢
  have hA1' : ∀ ad, A1 = some ad → ad.block ≠ W.heap.size := fun ad e => by
    rcases hA1 with ⟨e2, -⟩ | ⟨g, e2, h1, h2⟩
    · rw [e2] at e; cases e
    · rw [e2] at e; cases e
      have : W.heap.size < w1.heap.size := by
        have := (HS0.out.base (i := W.heap.size) rfl).2; omega
      dsimp only; omega
  have HA1 := Lib.hid hA1'
  have HS2 := Lib.hid (HS0.out.later hk1)
  have HR2 := Lib.hid hr1
  have HB2 := Lib.hid (then_below HB1.out hk1)
  clear hv1 hk1 hr1 hA1 hA1' HS0 HB1
  have HNN := Lib.hid (fun (i t : Nat) (h : (Tr.nearN p x)[i]? = some t) => (Tr.mem_near hxl).1 (List.mem_of_getElem? h))
  have HSE := Lib.hid (fun (y : Nat) (hy : y < p.length + 1) => Tr.seen_end hxl hy)
  obtain ⟨m, hm⟩ : ∃ m, (Tr.nearN p x).length = m := ⟨_, rfl⟩
  rw [hm] at HR2 hnl HSE ⊢
  have HM := Lib.hid hm
  clear hm
  generalize hg0 : W.heap.size = g0 at HA1 HS2 HB2 ⊢
  have HG0 := Lib.hid hg0
  clear hg0
  go_wp2_with fail
  go_loopw [9] (fun ii wr => ∃ i : Nat, i ≤ m ∧ ii = .int .i64 (i : Int) ∧ OwnI g0 wr (.slice (some ⟨g0, 0, none⟩) (p.length + 1) (p.length + 1)) (Tr.counts (p.length + 1) (Tr.seen p x i 0)) ∧ Ri wr A1 m (Tr.ints (Tr.nearN p x)) ∧ Below g0 W wr) (fun ii _ => m - (intOf ii).toNat)
  case atStart => exact ⟨0, by omega, rfl, HS2.out, HR2.out, HB2.out⟩
  case round =>
    clear HS2 HR2 HB2
    obtain ⟨i, hi, rfl, hs, hr, hB⟩ := hrel
    have HS := Lib.hid hs
    have HRN := Lib.hid hr
    have HB := Lib.hid hB
    clear hB
    by_cases hlt : i < m
    · obtain ⟨rb, ro, u, rfl, hu, hc⟩ := hr.at_ hlt
      obtain ⟨t, ht, rfl⟩ : ∃ t, (Tr.nearN p x)[i]? = some t ∧ u = (t : Int) := by
        rw [Tr.ints_get] at hu
        obtain ⟨t, h1, h2⟩ := Option.map_eq_some_iff.1 hu
        exact ⟨t, h1, h2.symm⟩
      have htl := (HNN.out i t ht).1
      have HT := Lib.hid ht
      have HSA := Lib.hid (side_at HR.out hxl htl)
      clear hs hr hu ht
      go_wp2_with fail
      refine (side_any (HP.out.later (HG0.out ▸ HB.out)) (by omega) (x : Int) (t : Int)).mono ?_
      rintro e w3 ⟨v3, rfl, hv3, hk3⟩
      rw [HSA.out] at hv3
      obtain ⟨A2, c2, rfl, -, hr2, hA2⟩ := hv3.reads
      rw [Tr.ints_len] at hr2 hA2 ⊢
      have hA2' : ∀ ad, A2 = some ad → ad.block ≠ g0 := fun ad e => by
        rcases hA2 with ⟨e2, -⟩ | ⟨g, e2, h1, h2⟩
        · rw [e2] at e; cases e
        · rw [e2] at e; cases e
          have := (HS.out.base (i := g0) rfl).2
          dsimp only; omega
      have HA2 := Lib.hid hA2'
      have HS3 := Lib.hid (HS.out.later hk3)
      have HRN3 := Lib.hid (HRN.out.later hk3)
      have HR3 := Lib.hid hr2
      have HB3 := Lib.hid (HB.out.trans ⟨hk3.os, hk3.tape, hk3.output, hk3.size, fun k hk => hk3.block k (by have := (HS.out.base (i := g0) rfl).2; omega)⟩)
      have hfew : (Tr.sideN p x t (p.length + 1)).length ≤ p.length + 1 := Tr.chosen_few _ _
      have HRI := Lib.hid (show (Tr.sideN p x t (p.length + 1)).Pairwise (· < ·) from Tr.chosen_rising _ _)
      have HFU := Lib.hid (fun (y : Nat) (hy : y < p.length + 1) => Tr.seen_full HT.out hy)
      have HNX := Lib.hid (fun (k y : Nat) (h : (Tr.sideN p x t (p.length + 1))[k]? = some y) => Tr.seen_next (l := p) (b := x) (i := i) (k := k) (y := y) (by rw [List.getD_eq_getElem?_getD, HT.out]; exact h))
      have HME := Lib.hid (fun (k y : Nat) (h : (Tr.sideN p x t (p.length + 1))[k]? = some y) => (Tr.mem_side.1 (List.mem_of_getElem? h)).1)
      clear hv3 hk3 hr2 hA2 hA2' HS HRN HB
      obtain ⟨s, hs⟩ : ∃ s, (Tr.sideN p x t (p.length + 1)).length = s := ⟨_, rfl⟩
      rw [hs] at HR3 HFU hfew ⊢
      have HSL := Lib.hid hs
      clear hs
      generalize Tr.sideN p x t (p.length + 1) = S at HR3 HRI HNX HME HSL
      go_wp2_with fail
      go_loopw [11] (fun jj wr => ∃ k : Nat, k ≤ s ∧ jj = .int .i64 (k : Int) ∧ OwnI g0 wr (.slice (some ⟨g0, 0, none⟩) (p.length + 1) (p.length + 1)) (Tr.counts (p.length + 1) (Tr.seen p x i k)) ∧ Ri wr (some ⟨rb, ro, none⟩) m (Tr.ints (Tr.nearN p x)) ∧ Ri wr A2 s (Tr.ints S) ∧ Below g0 W wr) (fun jj _ => s - (intOf jj).toNat)
      case atStart => exact ⟨0, by omega, rfl, HS3.out, HRN3.out, HR3.out, HB3.out⟩
      case round =>
        clear HS3 HRN3 HR3 HB3 hc
        obtain ⟨k, hk, rfl, hs, hrn, hr3, hB⟩ := hrel
        have HS := Lib.hid hs
        have HRN := Lib.hid hrn
        have HR3 := Lib.hid hr3
        have HB := Lib.hid hB
        clear hrn hB
        by_cases hlt2 : k < s
        · obtain ⟨sb, so, u, rfl, hu, hc⟩ := hr3.at_ hlt2
          obtain ⟨y, hy, rfl⟩ : ∃ y, S[k]? = some y ∧ u = (y : Int) := by
            rw [Tr.ints_get] at hu
            obtain ⟨t, h1, h2⟩ := Option.map_eq_some_iff.1 hu
            exact ⟨t, h1, h2.symm⟩
          have hyl := HME.out k y hy
          have HY := Lib.hid hy
          obtain ⟨A5, c5, e5, -, hr5, -⟩ := hs.reads
          rw [Tr.counts_len] at hr5 e5
          cases e5
          obtain ⟨rb5, ro5, u5, e6, hu5, hc5⟩ := hr5.at_ (j := y) hyl
          cases e6
          rw [Tr.counts_get hyl] at hu5
          cases hu5
          rw [Nat.zero_add] at hc5
          have hfr : wr.frozen? ⟨g0, y, none⟩ = false := OwnW.thaw (n := p.length + 1) (xs := (Tr.counts (p.length + 1) (Tr.seen p x i k)).map icell) (by have := hs; rw [OwnI, Tr.counts_len] at this; exact this) y
          have hsf := Tr.seen_few p x i k y
          have hml := HM.out
          have hy0 : decide ((y : Int) < 0) = false := decide_eq_false (by omega)
          have hy1 : decide ((p.length : Int) < (y : Int)) = false := decide_eq_false (by omega)
          have hy3 : decide (p.length < y) = false := decide_eq_false (by omega)
          have hwk : IntKind.i64.wrap ((Tr.seen p x i k y : Int) + 1) = (Tr.seen p x i k y : Int) + 1 := IntWalk.i64_in _ (by omega)
          have HCS := Lib.hid (Tr.counts_set (f := Tr.seen p x i k) (g := Tr.seen p x i (k + 1)) hyl (fun z _ => HNX.out k y HY.out z))
          clear hs hr3 hu hr5 hy
          by_cases h0 : 0 < k
          · obtain ⟨j, hj0⟩ : ∃ j, k = j + 1 := ⟨k - 1, by omega⟩
            obtain ⟨sb', so', u2, e2, hu2, hc2⟩ := HR3.out.at_ (j := j) (by omega)
            cases e2
            obtain ⟨z, hz, rfl⟩ : ∃ z, S[j]? = some z ∧ u2 = (z : Int) := by
              rw [Tr.ints_get] at hu2
              obtain ⟨t, h1, h2⟩ := Option.map_eq_some_iff.1 hu2
              exact ⟨t, h1, h2.symm⟩
            have hzy : z < y := by
              obtain ⟨l1, e1⟩ := List.getElem?_eq_some_iff.1 hz
              obtain ⟨l2, e2⟩ := List.getElem?_eq_some_iff.1 HY.out
              have := List.pairwise_iff_getElem.1 HRI.out j k l1 l2 (by omega)
              omega
            have hy2 : decide ((y : Int) ≤ (z : Int)) = false := decide_eq_false (by omega)
            have hy4 : decide (y ≤ z) = false := decide_eq_false (by omega)
            have hj1 : decide ((0 : Int) < (k : Int)) = true := decide_eq_true (by omega)
            have hj2 : decide (0 < k) = true := decide_eq_true h0
            have hw : IntKind.i64.wrap ((k : Int) - 1) = (j : Int) := by rw [IntWalk.i64_in _ (by omega)]; omega
            have hjs : j < s := by omega
            clear hsf hml hu2 hz hzy hj0
            generalize Tr.seen p x i k y = f at hc5 hwk HCS
            go_wp2_with fail
            go_quiet (fail)
            clear hc2
            go_wp2_with fail
            have HK := Lib.hid ((Kept.drewN (· = g0) wr nq).then (Kept.setCell (S := (· = g0)) (wr.drewN nq) ⟨g0, y, none⟩ rfl (.int .i64 ((f : Int) + 1))))
            refine ⟨⟨k + 1, by omega, by simp, ?_, HRN.out.keep HK.out fun ad e _ => HA1.out ad e, HR3.out.keep HK.out fun ad e _ => HA2.out ad e, HB.out.trans (HK.out.below HS.out.2 fun k hk e => by omega)⟩, by simp [intOf]; omega⟩
            rw [← HCS.out]
            exact owni_store HS.out (Tr.counts_len _ _) hyl nq _
          · have hk0 : decide ((0 : Int) < (k : Int)) = false := decide_eq_false (by omega)
            have hk1 : decide (0 < k) = false := decide_eq_false h0
            clear hsf hml
            generalize Tr.seen p x i k y = f at hc5 hwk HCS
            go_wp2_with fail
            go_quiet (fail)
            go_wp2_with fail
            have HK := Lib.hid ((Kept.drewN (· = g0) wr nq).then (Kept.setCell (S := (· = g0)) (wr.drewN nq) ⟨g0, y, none⟩ rfl (.int .i64 ((f : Int) + 1))))
            refine ⟨⟨k + 1, by omega, by simp, ?_, HRN.out.keep HK.out fun ad e _ => HA1.out ad e, HR3.out.keep HK.out fun ad e _ => HA2.out ad e, HB.out.trans (HK.out.below HS.out.2 fun k hk e => by omega)⟩, by simp [intOf]; omega⟩
            rw [← HCS.out]
            exact owni_store HS.out (Tr.counts_len _ _) hyl nq _
        · have hks : k = s := by omega
          clear hs hr3 hlt2
          go_wp2_with fail
          refine ⟨⟨i + 1, by omega, by simp, ?_, HRN.out, HB.out⟩, by simp [intOf]; omega⟩
          have := HS.out
          rw [hks, Tr.counts_congr HFU.out] at this
          exact this
    · have him : i = m := by omega
      have hse : Tr.counts (p.length + 1) (Tr.seen p x i 0) = Tr.counts (p.length + 1) fun y => if y = x then 0 else 1 := Tr.counts_congr fun y hy => by rw [him]; exact HSE.out y hy
      rw [hse] at hs
      obtain ⟨A5, c5, e5, -, hr5, -⟩ := hs.reads
      rw [Tr.counts_len] at hr5 e5
      cases e5
      have HR5 := Lib.hid hr5
      have hn := HA1.out
      clear hs hr hr5 hse HS HSE HNN hn
      go_wp2_with fail
      go_loopw [12] (fun ii wy => ∃ k : Nat, k ≤ p.length + 1 ∧ ii = .int .i64 (k : Int) ∧ wr = wy) (fun ii _ => p.length + 1 - (intOf ii).toNat)
      case atStart => exact ⟨0, by omega, rfl, rfl⟩
      case round =>
        obtain ⟨k, hk, rfl, rfl⟩ := hrel
        by_cases hlt3 : k < p.length + 1
        · obtain ⟨rb5, ro5, u5, e6, hu5, hc5⟩ := HR5.out.at_ (j := k) hlt3
          cases e6
          rw [Tr.counts_get hlt3] at hu5
          cases hu5
          rw [Nat.zero_add] at hc5
          have hkl : k ≤ p.length := by omega
          by_cases e : k = x
          · rw [if_pos e] at hc5
            have e1 : ((k : Int) != (x : Int)) = false := by rw [bne_eq_false_iff_eq]; omega
            have e2 : ((k : Int) == (x : Int)) = true := by rw [beq_iff_eq]; omega
            clear e
            go_wp2_with fail
            exact ⟨⟨k + 1, by omega, by simp, trivial⟩, by simp [intOf]; omega⟩
          · rw [if_neg e] at hc5
            have e1 : ((k : Int) != (x : Int)) = true := by simp; omega
            have e2 : ((k : Int) == (x : Int)) = false := by rw [beq_eq_false_iff_ne]; omega
            clear e
            go_wp2_with fail
            exact ⟨⟨k + 1, by omega, by simp, trivial⟩, by simp [intOf]; omega⟩
        · have h1 : ¬ k ≤ p.length := by omega
          have HB2 := Lib.hid (HG0.out ▸ HB.out : Below W.heap.size W wr)
          clear hlt3 HR5 HRN HB
          go_wp2_with fail
          refine (kids_from HP.out HB2.out (by omega) (x : Int)).mono ?_
          rintro e w5 ⟨A7, c7, rfl, hr7, -, hl7, -⟩
          rw [kids_at HR.out hxl] at hr7 ⊢
          have hkl := Tr.kids_few p x p.length
          rw [Tr.ints_len] at hr7 ⊢
          have HR7 := Lib.hid hr7
          have HL7 := Lib.hid hl7
          have HMK := Lib.hid (fun (y : Nat) (h : y ∈ Tr.kidsN p x p.length) => Tr.mem_kids.1 h)
          have HLN := Lib.hid (show m = (Tr.kidsN p x p.length).length + (if 0 < x then 1 else 0) by
            rw [← HM.out]; unfold Tr.nearN; rw [List.length_append]; split <;> simp <;> omega)
          obtain ⟨r, hr⟩ : ∃ r, (Tr.kidsN p x p.length).length = r := ⟨_, rfl⟩
          rw [hr] at HR7 HLN hkl ⊢
          clear hr7 hl7 hr HB2
          generalize Tr.kidsN p x p.length = K at HR7 HMK
          go_wp2_with fail
          go_loopw [14] (fun ii wy => ∃ k : Nat, k ≤ r ∧ ii = .int .i64 (k : Int) ∧ Ri wy A7 r (Tr.ints K) ∧ Below W.heap.size W wy) (fun ii _ => r - (intOf ii).toNat)
          case atStart => exact ⟨0, by omega, rfl, HR7.out, HL7.out⟩
          case round =>
            clear HR7 HL7
            obtain ⟨q, hq, rfl, hr7, hl7⟩ := hrel
            have HL7 := Lib.hid hl7
            have HR7 := Lib.hid hr7
            clear hl7
            by_cases hlt4 : q < r
            · obtain ⟨rb7, ro7, u7, rfl, hu7, hc7⟩ := hr7.at_ (j := q) hlt4
              obtain ⟨y, hy, rfl⟩ : ∃ y, K[q]? = some y ∧ u7 = (y : Int) := by
                rw [Tr.ints_get] at hu7
                obtain ⟨t, h1, h2⟩ := Option.map_eq_some_iff.1 hu7
                exact ⟨t, h1, h2.symm⟩
              obtain ⟨y0, yl, yp⟩ := HMK.out y (List.mem_of_getElem? hy)
              have hd1 : Tr.dists p 0 (y : Int) = (Tr.dist p 0 y : Int) := dists_at HR.out (x := 0) (y := y) (by omega) yl
              have HD2 : Hid (Tr.dists p 0 (x : Int) = (Tr.dist p 0 x : Int)) := Lib.hid (dists_at HR.out (x := 0) (y := x) (by omega) hxl)
              have HN1 : Hid (Tr.next p (y : Int) 0 = (x : Int)) := Lib.hid ((next_at HR.out (x := y) (y := 0) yl (by omega) (by omega)).trans (by rw [Tr.step_le (by omega), yp]))
              have hdd : Tr.dist p 0 y = Tr.dist p 0 x + 1 := by rw [Tr.dist_lt y0, yp, Tr.dist_comm]
              have hd7 := Tr.dist_le p _ 0 x (Nat.le_refl _)
              have hd8 : Tr.dist p 0 x ≤ 7 := by omega
              have HC7 := Lib.hid hc7
              clear hu7 hy hr7 y0 yp hd7
              rw [hdd] at hd1
              have HD1 := Lib.hid hd1
              clear hd1 hdd
              generalize Tr.dist p 0 x = D at HD1 HD2 hd8
              go_wp2_with fail
              refine (dist_any (HP.out.later HL7.out) (by omega) 0 (y : Int)).mono ?_
              rintro e w8 ⟨rfl, hk8⟩
              rw [HD1.out]
              have HL8 := Lib.hid (then_below HL7.out hk8)
              have HR8 := Lib.hid (HR7.out.later hk8)
              have hc8 := load_later hk8 HC7.out
              have HC8 := Lib.hid hc8
              clear hk8 hc7 hc8
              go_wp2_with fail
              refine (dist_any (HP.out.later HL8.out) (by omega) 0 (x : Int)).mono ?_
              rintro e w9 ⟨rfl, hk9⟩
              rw [HD2.out]
              have HL9 := Lib.hid (then_below HL8.out hk9)
              have HR9 := Lib.hid (HR8.out.later hk9)
              have hc9 := load_later hk9 HC8.out
              clear hk9
              go_wp2_with (first | (go_at_call 11; refine (next_any' (HP.out.later HL9.out) (by omega) (y : Int) 0).mono ?_; rintro e w10 ⟨rfl, hk10⟩; rw [HN1.out]; have HL10 := Lib.hid (then_below HL9.out hk10); have HR10 := Lib.hid (HR9.out.later hk10); clear hk10))
              exact ⟨⟨q + 1, by omega, by simp, HR10.out, HL10.out⟩, by simp [intOf]; omega⟩
            · clear hr7
              by_cases hx0 : 0 < x
              · have hmr : m = r + 1 := by have := HLN.out; rw [if_pos hx0] at this; exact this
                have hmi : ((m : Int) == (r : Int) + 1) = true := by rw [beq_iff_eq]; omega
                clear him hmr
                go_wp2_with (first | (go_at_call 16; refine (known_any _).mono ?_; rintro e w11 ⟨rfl, hk11⟩; have HL11 := Lib.hid (then_below HL7.out hk11); clear hk11))
                go_ret
                exact ⟨by simp, then_below HBW.out HL11.out⟩
              · have hmr : m = r := by have := HLN.out; rw [if_neg hx0] at this; exact this
                have hmi : ((m : Int) == (r : Int)) = true := by rw [beq_iff_eq]; omega
                clear him hmr
                go_wp2_with (first | (go_at_call 16; refine (known_any _).mono ?_; rintro e w11 ⟨rfl, hk11⟩; have HL11 := Lib.hid (then_below HL7.out hk11); clear hk11))
                go_ret
                exact ⟨by simp, then_below HBW.out HL11.out⟩
end Go.Proofs.Ytmibjmceghikdaa
