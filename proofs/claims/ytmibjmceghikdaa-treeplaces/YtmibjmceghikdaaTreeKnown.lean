
/- Chapter 9's examples: TreeKnown answers true, from whatever world. -/
import Derived.Test.YtmibjmceghikdaaTreeHand
namespace Go.Proofs.Ytmibjmceghikdaa
open Go.RowKit
set_option linter.unusedVariables false

theorem ri_new (w : World) (q : List Int) : Ri (w.alloc (.cells (q.map icell).toArray 3)) (some ⟨w.heap.size, 0, none⟩) q.length q :=
  ⟨rfl, .inr ⟨_, _, rfl, fun j u hj => by
    rw [World.cell?_alloc_new, Nat.zero_add, List.getElem?_toArray, List.getElem?_map, hj]; rfl⟩⟩
theorem Ri.two {w : World} {A : Option Addr} {a b : Int} (h : Ri w A 2 [a, b]) : ∃ rb ro, A = some ⟨rb, ro, none⟩ ∧ w.cell? ⟨rb, ro, none⟩ = some (icell a) ∧ w.cell? ⟨rb, ro + 1, none⟩ = some (icell b) := by
  rcases h.2 with h0 | ⟨rb, ro, e, hc⟩
  · omega
  · exact ⟨rb, ro, e, hc 0 a rfl, hc 1 b rfl⟩
/-- The same contracts, of a row that an older world has. -/
theorem next_from {W w : World} {A : Option Addr} {n c : Nat} {l : List Int} (h : Ri W A n l) (hB : Below W.heap.size W w) (hn : n ≤ 1000) (a b : Int) :
    Calls Try.prog 11 #[.slice A n c, .int .i64 a, .int .i64 b] w fun e w' => e = .returned (.int .i64 (Tr.next l a b)) ∧ Below W.heap.size W w' :=
  (next_any' (h.later hB) hn a b).mono fun _ _ ⟨e, k⟩ => ⟨e, then_below hB k⟩
theorem dist_from {W w : World} {A : Option Addr} {n c : Nat} {l : List Int} (h : Ri W A n l) (hB : Below W.heap.size W w) (hn : n ≤ 1000) (a b : Int) :
    Calls Try.prog 13 #[.slice A n c, .int .i64 a, .int .i64 b] w fun e w' => e = .returned (.int .i64 (Tr.dists l a b)) ∧ Below W.heap.size W w' :=
  (dist_any (h.later hB) hn a b).mono fun _ _ ⟨e, k⟩ => ⟨e, then_below hB k⟩
theorem place_from {W w : World} {A B : Option Addr} {n c m d : Nat} {l q : List Int} (h : Ri W A n l) (hB : Below W.heap.size W w) (hq : Ri w B m q) (hn : n ≤ 1000) (hm : m ≤ 1000) :
    Calls Try.prog 12 #[.slice A n c, .slice B m d] w fun e w' => e = .returned (.int .i64 (Tr.place l q)) ∧ Below W.heap.size W w' :=
  (place_any (h.later hB) hq hn hm).mono fun _ _ ⟨e, k⟩ => ⟨e, k ▸ hB⟩
theorem right_from {W w : World} {B : Option Addr} {m d : Nat} {q : List Int} (hB : Below W.heap.size W w) (hq : Ri w B m q) (hm : m ≤ 1000) : Calls Try.prog 14 #[.slice B m d] w fun e w' => e = .returned (.bool (Tr.right q)) ∧ Below W.heap.size W w' :=
  (right_any hq hm).mono fun _ _ ⟨e, k⟩ => ⟨e, k ▸ hB⟩
theorem near_none {W w : World} (hB : Below W.heap.size W w) : Calls Try.prog 8 #[.slice none 0 0, .int .i64 0] w fun e w' => (∃ A c, e = .returned (.slice A (Tr.nears [] 0).length c)) ∧ Below W.heap.size W w' :=
  (near_any (Ri.empty _ _) (by omega) 0).mono fun _ _ ⟨v, e, h, k⟩ => by
    obtain ⟨A, c, rfl, -, -, -⟩ := h.reads
    exact ⟨⟨A, c, e⟩, then_below hB k⟩
set_option maxRecDepth 100000 in
set_option maxHeartbeats 8000000 in
theorem tknown_any (w : World) : Calls Try.prog 3 #[] w fun e w' => e = .returned (.bool true) ∧ Below w.heap.size w w' := by
  have hP := ri_new w [0, 0, 1]
  have hW := new_below w (.cells (([0, 0, 1] : List Int).map icell).toArray 3)
  have e1 : Hid (Tr.nears [0, 0, 1] 1 = [0, 3]) := Lib.hid (by decide +kernel)
  have e2 : Hid (Tr.kids [0, 0, 1] 0 = [1, 2]) := Lib.hid (by decide +kernel)
  have e3 : Hid (Tr.side [0, 0, 1] 0 1 = [1, 3]) := Lib.hid (by decide +kernel)
  have k1 : Hid (Tr.next [0, 0, 1] 3 2 = 1) := Lib.hid (by decide +kernel)
  have k2 : Hid (Tr.place [0, 0, 1] [3, 3, 2] = 3) := Lib.hid (by decide +kernel)
  have k3 : Hid (Tr.place [0, 0, 1] [3, 2] = 0) := Lib.hid (by decide +kernel)
  have k4 : Hid (Tr.dists [0, 0, 1] 3 2 = 3) := Lib.hid (by decide +kernel)
  have k5 : Hid (Tr.place [0, 0, 1] [] = -1) := Lib.hid (by decide +kernel)
  have k6 : Hid (Tr.next [0, 0, 1] 1 1 = -1) := Lib.hid (by decide +kernel)
  have k7 : Hid (Tr.dists [0, 0, 1] 0 4 = -1) := Lib.hid (by decide +kernel)
  have k8 : Hid (Tr.right [] = true) := Lib.hid (by decide +kernel)
  have k9 : Hid (Tr.right [1] = false) := Lib.hid (by decide +kernel)
  have k10 : Hid (Tr.nears [] 0 = []) := Lib.hid (by decide +kernel)
  have k11 : Hid (Tr.dists [] 0 0 = 0) := Lib.hid (by decide +kernel)
  have k12 : Hid (Tr.place [] [0] = 0) := Lib.hid (by decide +kernel)
  have r332 : Hid (∀ w : World, Ri (w.alloc (.cells #[.int .i64 3, .int .i64 3, .int .i64 2] 3)) (some ⟨w.heap.size, 0, none⟩) 3 [3, 3, 2]) := Lib.hid fun w => ri_new w [3, 3, 2]
  have r32 : Hid (∀ w : World, Ri (w.alloc (.cells #[.int .i64 3, .int .i64 2] 3)) (some ⟨w.heap.size, 0, none⟩) 2 [3, 2]) := Lib.hid fun w => ri_new w [3, 2]
  have r0 : Hid (∀ w : World, Ri (w.alloc (.cells #[.int .i64 0] 3)) (some ⟨w.heap.size, 0, none⟩) 1 [0]) := Lib.hid fun w => ri_new w [0]
  have r1 : Hid (∀ w : World, Ri (w.alloc (.cells #[.int .i64 1] 3)) (some ⟨w.heap.size, 0, none⟩) 1 [1]) := Lib.hid fun w => ri_new w [1]
  go_enter Try.func3, Try.ntmps3
  go_wp2_with fail
  change Ri (w.alloc (.cells #[.int .i64 0, .int .i64 0, .int .i64 1] 3)) (some ⟨w.heap.size, 0, none⟩) 3 [0, 0, 1] at hP
  change Below w.heap.size w (w.alloc (.cells #[.int .i64 0, .int .i64 0, .int .i64 1] 3)) at hW
  generalize w.alloc (.cells #[.int .i64 0, .int .i64 0, .int .i64 1] 3) = W at hP hW ⊢
  have HP := Lib.hid hP
  have HW := Lib.hid hW
  clear hP hW
  refine (near_any HP.out (by omega) 1).mono ?_
  rintro e w1 ⟨v1, rfl, hv1, hk1⟩
  rw [e1.out] at hv1
  have HB := Lib.hid hk1
  have HV1 := Lib.hid hv1
  clear hv1 hk1
  go_wp2_with fail
  refine (kids_any (HP.out.later HB.out) (by omega) 0).mono ?_
  rintro e w2 ⟨v2, rfl, hv2, hk2⟩
  rw [e2.out] at hv2
  have HB2 := Lib.hid (then_below HB.out hk2)
  have HV1 := Lib.hid (HV1.out.later hk2)
  have HV2 := Lib.hid hv2
  clear hv2 hk2 HB
  go_wp2_with fail
  refine (side_any (HP.out.later HB2.out) (by omega) 0 1).mono ?_
  rintro e w3 ⟨v3, rfl, hv3, hk3⟩
  rw [e3.out] at hv3
  have HB := Lib.hid (then_below HB2.out hk3)
  obtain ⟨A1, c1, rfl, -, hr1, -⟩ := (HV1.out.later hk3).reads
  obtain ⟨A2, c2, rfl, -, hr2, -⟩ := (HV2.out.later hk3).reads
  obtain ⟨A3, c3, rfl, -, hr3, -⟩ := hv3.reads
  obtain ⟨b1, o1, rfl, x1, y1⟩ := hr1.two
  obtain ⟨b2, o2, rfl, x2, y2⟩ := hr2.two
  obtain ⟨b3, o3, rfl, x3, y3⟩ := hr3.two
  clear hr1 hr2 hr3 hv3 hk3 HB2 HV1 HV2
  clear HV1
  go_wp2_with fail
  go_upto_region 7 with fail
  clear x1 y1 x2 y2 x3 y3
  go_wp2_with (first | (go_at_call 11; refine (next_from (W := W) (by first | with_reducible exact HP.out | with_reducible exact Ri.empty _ _) (by first | with_reducible exact HB.out | with_reducible exact then_below HB.out (new_below _ _)) (by omega) _ _).mono ?_; rintro e w' ⟨rfl, hk⟩; (first | rw [k1.out] | rw [k6.out]); have HC := Lib.hid hk; clear HB hk; have HB := HC; clear HC) | (go_at_call 13; refine (dist_from (W := W) (by first | with_reducible exact HP.out | with_reducible exact Ri.empty _ _) (by first | with_reducible exact HB.out | with_reducible exact then_below HB.out (new_below _ _)) (by omega) _ _).mono ?_; rintro e w' ⟨rfl, hk⟩; (first | rw [k4.out] | rw [k7.out] | rw [k11.out]); have HC := Lib.hid hk; clear HB hk; have HB := HC; clear HC) | (go_at_call 12; refine (place_from (W := W) (by first | with_reducible exact HP.out | with_reducible exact Ri.empty _ _) (by first | with_reducible exact HB.out | with_reducible exact then_below HB.out (new_below _ _)) (by first | with_reducible exact Ri.empty _ _ | with_reducible exact r332.out _ | with_reducible exact r32.out _ | with_reducible exact r0.out _ | with_reducible exact r1.out _) (by omega) (by omega)).mono ?_; rintro e w' ⟨rfl, hk⟩; (first | rw [k2.out] | rw [k3.out] | rw [k5.out] | rw [k12.out]); have HC := Lib.hid hk; clear HB hk; have HB := HC; clear HC) | (go_at_call 14; refine (right_from (W := W) (by first | with_reducible exact HB.out | with_reducible exact then_below HB.out (new_below _ _)) (by first | with_reducible exact Ri.empty _ _ | with_reducible exact r332.out _ | with_reducible exact r32.out _ | with_reducible exact r0.out _ | with_reducible exact r1.out _) (by omega)).mono ?_; rintro e w' ⟨rfl, hk⟩; (first | rw [k8.out] | rw [k9.out]); have HC := Lib.hid hk; clear HB hk; have HB := HC; clear HC) | (go_at_call 8; refine (near_none (W := W) (by first | with_reducible exact HB.out | with_reducible exact then_below HB.out (new_below _ _))).mono ?_; rintro e w' ⟨⟨A4, c4, rfl⟩, hk⟩; rw [k10.out]; have HC := Lib.hid hk; clear HB hk; have HB := HC; clear HC))
  go_ret
  exact ⟨rfl, then_below HW.out HB.out⟩
end Go.Proofs.Ytmibjmceghikdaa
