
/- TreeTells: of any parents, any brokers, the landed answers are the document's. -/
import Derived.Test.YtmibjmceghikdaaTreeFrom
namespace Go.Proofs.Ytmibjmceghikdaa
open Go.RowKit
set_option linter.unusedVariables false

theorem load_later {w w' : World} (h : Below w.heap.size w w') {p : Addr} {v : Value} (hc : w.cell? p = some v) : w'.cell? p = some v := (h.cell (World.block_lt_of_cell? w _ hc)).trans hc
set_option maxRecDepth 100000 in
set_option maxHeartbeats 16000000 in
theorem ttells_walk (w : World) (A0 : Option Addr) (n0 c0 : Nat) (z0 : List Int) (h0 : IsRow .i64 w A0 n0 c0 z0) (A1 : Option Addr) (n1 c1 : Nat) (z1 : List Int) (h1 : IsRow .i64 w A1 n1 c1 z1) (odd : Int) (hodd : (Lit.int .i64 odd).wf = true) (A3 : Option Addr) (n3 c3 : Nat) (z3 : List Int) (h3 : IsRow .i64 w A3 n3 c3 z3) :
    Calls Try.prog 4 #[.slice A0 n0 c0, .slice A1 n1 c1, .int .i64 odd, .slice A3 n3 c3] w fun e w' => e = .returned (.bool true) ∧ Below w.heap.size w w' := by
  obtain ⟨r0, hr0, hn0, hc0, hb0⟩ := h0.ri
  obtain ⟨r3, hr3, hn3, hc3, hb3⟩ := h3.ri
  have HFN := Lib.hid (fun t => feed_new (cap := c1) h1.draws t)
  have HR0 := Lib.hid hr0
  have HR3 := Lib.hid hr3
  have HB0 := Lib.hid hb0
  have HB3 := Lib.hid hb3
  clear h0 h1 h3 hr0 hr3 hb0 hb3
  go_enter Try.func4, Try.ntmps4
  go_wp2_with fail
  refine (parents_any _ (a := 0) (by omega) (HFN.out _) (HR0.out.later (new_below _ _)) hn0 hc0 HB0.out).mono ?_
  rintro e w1 ⟨Ap, np, cp, p, rfl, hp, hnp, hpb, hf1, hk1⟩
  obtain rfl := hp.1.symm
  have HP := Lib.hid hp
  have HPb := Lib.hid hpb
  have HF := Lib.hid hf1
  have HK := Lib.hid hk1
  have HM := Lib.hid ((HR3.out.later (new_below _ _)).keep hk1 fun ad e h e2 => by have := HB3.out ad e h; omega)
  have HB := Lib.hid ((new_below w _).trans (hk1.below (new_below w _).size (fun k hk e => by omega)))
  clear hp hpb hf1 hk1 HFN HR0 HR3 HB0
  go_wp2_with fail
  refine (known_any _).mono ?_
  rintro e w2 ⟨rfl, hk2⟩
  have HP := Lib.hid (HP.out.later hk2)
  have HF := Lib.hid (HF.out.below hk2)
  have HM := Lib.hid (HM.out.later hk2)
  have HB := Lib.hid (then_below HB.out hk2)
  have hbw : w.heap.size < w2.heap.size := HF.out.lt
  clear hk2
  go_wp2_with (first | (go_at_call 14; refine (right_any HP.out (by omega)).mono ?_; rintro e w' ⟨rfl, rfl⟩) | (go_at_call 17; refine (rright_any HP.out (by omega)).mono ?_; rintro e w' ⟨rfl, rfl⟩))
  have hpb := HPb.out
  go_upto_region 4 with fail
  refine (next_any ((p.length : Int) + 1) (by omega) (by omega) _ (by omega) HF.out).mono ?_
  rintro e w3 ⟨q1, hq1, rfl, hf3, hk3, -⟩
  have HF3 := Lib.hid hf3
  have HK3 := Lib.hid hk3
  clear hf3 hk3
  go_wp2_with fail
  refine (next_any ((p.length : Int) + 2) (by omega) (by omega) _ (by omega) HF3.out).mono ?_
  rintro e w4 ⟨q2, hq2, rfl, hf4, hk4, -⟩
  have HK4 := Lib.hid (HK3.out.then hk4)
  clear hf4 hk4
  have HP := Lib.hid (HP.out.keep HK4.out fun ad e h e2 => hpb ad e h e2)
  have HM := Lib.hid (HM.out.keep HK4.out fun ad e h e2 => by have := HB3.out ad e h; omega)
  have HB := Lib.hid (HB.out.trans (HK4.out.below (Nat.le_of_lt hbw) (fun k hk e => by omega)))
  clear hpb
  go_wp2_with fail
  have hC : ∀ k, k < 3 → ∃ z, (w4.alloc (.cells #[.int .i64 (q1 : Int), .int .i64 ((q2 : Int) - 1), .int .i64 odd] 34)).cell? ⟨w4.heap.size, k, none⟩ = some (icell z) := by
    intro k hk
    match k, hk with
    | 0, _ => exact ⟨_, by rw [World.cell?_alloc_new]; rfl⟩
    | 1, _ => exact ⟨_, by rw [World.cell?_alloc_new]; rfl⟩
    | 2, _ => exact ⟨_, by rw [World.cell?_alloc_new]; rfl⟩
  have hW := new_below w4 (.cells #[.int .i64 (q1 : Int), .int .i64 ((q2 : Int) - 1), .int .i64 odd] 34)
  generalize w4.alloc (.cells #[.int .i64 (q1 : Int), .int .i64 ((q2 : Int) - 1), .int .i64 odd] 34) = W at hC hW ⊢
  have HC := Lib.hid hC
  have HP := Lib.hid (HP.out.later hW)
  have HM := Lib.hid (HM.out.later hW)
  have HBW := Lib.hid (then_below HB.out hW)
  clear hC hW HB
  generalize w4.heap.size = G at HC ⊢
  go_loopw [11, 13] (fun oo ii wr => ∃ k : Nat, k ≤ 3 ∧ ii = .int .i64 (k : Int) ∧ oo = .bool true ∧ Below W.heap.size W wr) (fun _ ii _ => 3 - (intOf ii).toNat)
  case atStart => exact ⟨0, by omega, rfl, rfl, Below.refl _ _⟩
  case round =>
    obtain ⟨k, hk, rfl, rfl, hL⟩ := hrel
    have HL := Lib.hid hL
    clear hL
    by_cases hlt : k < 3
    · obtain ⟨za, ha⟩ := HC.out k hlt
      obtain ⟨zb, hb⟩ := HC.out ((k + 1) % 3) (by omega)
      have ha := (load_later HL.out ha)
      have hb := (load_later HL.out hb)
      have hm : ((k : Int) + 1).tmod 3 = (((k + 1) % 3 : Nat) : Int) := by rw [Int.tmod_eq_emod_of_nonneg (by omega)]; omega
      have hj : (k + 1) % 3 < 3 := by omega
      generalize (k + 1) % 3 = j at hb hm hj
      go_wp2_with fail
      refine (near_from HP.out HL.out (by omega) za).mono ?_
      rintro e v1 ⟨X1, cx1, rfl, hr1, -, hl1, -⟩
      have HX := Lib.hid hr1
      have HL := Lib.hid hl1
      clear hr1 hl1
      go_wp2_with fail
      refine (rnear_from HP.out HL.out (by omega) za).mono ?_
      rintro e u1 ⟨Y1, cy1, rfl, hr1, hk1, hl1, -⟩
      have HX := Lib.hid (HX.out.later hk1)
      have HY := Lib.hid hr1
      have HL := Lib.hid hl1
      clear hr1 hl1 hk1
      go_wp2_with fail
      refine (same_from HX.out HL.out HY.out (nears_len _ _)).mono ?_
      rintro e t1 ⟨rfl, hl1⟩
      have HL := Lib.hid hl1
      clear hl1 HX HY
      go_wp2_with fail
      refine (kids_from HP.out HL.out (by omega) za).mono ?_
      rintro e v2 ⟨X2, cx2, rfl, hr2, -, hl2, -⟩
      have HX := Lib.hid hr2
      have HL := Lib.hid hl2
      clear hr2 hl2
      go_wp2_with fail
      refine (rkids_from HP.out HL.out (by omega) za).mono ?_
      rintro e u2 ⟨Y2, cy2, rfl, hr2, hk2, hl2, -⟩
      have HX := Lib.hid (HX.out.later hk2)
      have HY := Lib.hid hr2
      have HL := Lib.hid hl2
      clear hr2 hl2 hk2
      go_wp2_with fail
      refine (same_from HX.out HL.out HY.out (kids_len _ _)).mono ?_
      rintro e t2 ⟨rfl, hl2⟩
      have HL := Lib.hid hl2
      clear hl2 HX HY
      go_wp2_with fail
      refine (next_from HP.out HL.out (by omega) za zb).mono ?_
      rintro e r3 ⟨rfl, hl3⟩
      have HL := Lib.hid hl3
      clear hl3
      go_wp2_with fail
      refine (rnext_from HP.out HL.out (by omega) za zb).mono ?_
      rintro e r3 ⟨rfl, hl3⟩
      have HL := Lib.hid hl3
      clear hl3
      go_wp2_with fail
      refine (dist_from HP.out HL.out (by omega) za zb).mono ?_
      rintro e r4 ⟨rfl, hl4⟩
      have HL := Lib.hid hl4
      clear hl4
      go_wp2_with fail
      refine (rdist_from HP.out HL.out (by omega) za zb).mono ?_
      rintro e r4 ⟨rfl, hl4⟩
      have HL := Lib.hid hl4
      clear hl4
      go_wp2_with fail
      refine (side_from HP.out HL.out (by omega) za zb).mono ?_
      rintro e v5 ⟨X5, cx5, rfl, hr5, -, hl5, -⟩
      have HX := Lib.hid hr5
      have HL := Lib.hid hl5
      clear hr5 hl5
      go_wp2_with fail
      refine (rside_from HP.out HL.out (by omega) za zb).mono ?_
      rintro e u5 ⟨Y5, cy5, rfl, hr5, hk5, hl5, -⟩
      have HX := Lib.hid (HX.out.later hk5)
      have HY := Lib.hid hr5
      have HL := Lib.hid hl5
      clear hr5 hl5 hk5
      go_wp2_with fail
      refine (same_from HX.out HL.out HY.out (side_len _ _ _)).mono ?_
      rintro e t5 ⟨rfl, hl5⟩
      have HL := Lib.hid hl5
      clear hl5 HX HY
      go_wp2_with fail
      exact ⟨⟨k + 1, by omega, by simp, by simp, HL.out⟩, by simp [intOf]; omega⟩
    · have h3 : ¬ (k : Int) < 3 := by omega
      clear hlt
      have hs := HL.out.size
      go_wp2_with fail
      go_loopw [16, 17] (fun xv ii wr => ∃ (k : Nat) (q : List Int), k ≤ 7 ∧ ii = .int .i64 (k : Int) ∧ q.length = k ∧ OwnI W.heap.size wr xv q ∧ Below W.heap.size W wr) (fun _ ii _ => 7 - (intOf ii).toNat)
      case atStart => exact ⟨0, [], by omega, rfl, rfl, OwnI.nil _ hs, HL.out⟩
      case round =>
        clear h3
        obtain ⟨k, q, hk, rfl, hq, hv, hB3⟩ := hrel
        obtain ⟨A4, c4, rfl, -, hr4, -⟩ := hv.reads
        have HV := Lib.hid hv
        have HR4 := Lib.hid hr4
        have HQ := Lib.hid hq
        have hql : q.length ≤ 7 := by omega
        have HL := Lib.hid hB3
        clear hv hr4 hB3 hq
        by_cases hlt2 : k < n3 ∧ k < 7
        · obtain ⟨rb, ro, u, rfl, hu, hc⟩ := (HM.out.later HL.out).at_ hlt2.1
          have h1 : (k : Int) < (n3 : Int) := by omega
          have h2 : (k : Int) < 7 := by omega
          clear hu hlt2
          go_wp2_with fail
          refine (pick_any u ((p.length : Int) + 1) (by omega) (by omega) _).mono ?_
          rintro e w' ⟨rfl, rfl⟩
          generalize u % ((p.length : Int) + 1) = x
          go_wp2_with (first | (at_builtin; refine wpList_owni rfl _ _ rfl W.heap.size _ _ rfl HV.out _ rfl (by omega) ?_; intro v1 w1 hv1 hk1; have HV1 := Lib.hid hv1; have HK1 := Lib.hid hk1; clear hv1 hk1))
          exact ⟨⟨k + 1, q ++ [x], by omega, by simp, by rw [List.length_append, HQ.out]; rfl, HV1.out, below_behind HL.out HK1.out⟩, by simp [intOf]; omega⟩
        · have HD := Lib.hid hlt2
          clear hlt2
          by_cases h9 : odd.tmod 9 = 0
          · rcases (by have := HD.out; omega : ¬ k < n3 ∨ (k < n3 ∧ ¬ k < 7)) with h2 | ⟨h2, h3⟩
            all_goals
              go_wp2_with (first | (at_builtin; refine wpList_owni rfl _ _ rfl W.heap.size _ _ rfl HV.out _ rfl (by omega) ?_; intro v1 w1 hv1 hk1; obtain ⟨A5, c5, rfl, -, hr5, -⟩ := hv1.reads; obtain ⟨m5, hm5⟩ : ∃ m, (q ++ [odd]).length = m := ⟨_, rfl⟩; have hm6 : m5 ≤ 8 := (by rw [← hm5, List.length_append]; simp; omega); rw [hm5] at hr5 ⊢; have HR5 := Lib.hid hr5; clear hm5; have HL5 := Lib.hid (below_behind HL.out hk1); clear hv1 hk1 hr5) | (go_at_call 12; refine (place_any (HP.out.later HL5.out) HR5.out (by omega) (by omega)).mono ?_; rintro e w' ⟨rfl, rfl⟩) | (go_at_call 26; refine (rplace_from HP.out HL5.out HR5.out (by omega) (by omega)).mono ?_; rintro e w' ⟨rfl, hl7⟩; have HL7 := Lib.hid hl7; clear hl7))
              go_ret
              exact ⟨by simp, then_below HBW.out HL7.out⟩
          · rcases (by have := HD.out; omega : ¬ k < n3 ∨ (k < n3 ∧ ¬ k < 7)) with h2 | ⟨h2, h3⟩
            all_goals
              go_wp2_with (first | (go_at_call 12; refine (place_any (HP.out.later HL.out) HR4.out (by omega) (by omega)).mono ?_; rintro e w' ⟨rfl, rfl⟩) | (go_at_call 26; refine (rplace_from HP.out HL.out HR4.out (by omega) (by omega)).mono ?_; rintro e w' ⟨rfl, hl7⟩; have HL7 := Lib.hid hl7; clear hl7))
              go_ret
              exact ⟨by simp, then_below HBW.out HL7.out⟩
end Go.Proofs.Ytmibjmceghikdaa
