
/- The document's Dist, Next, Near, Kids, Side, Place: the same words as the landed ones'. -/
import Derived.Test.YtmibjmceghikdaaRefTree
namespace Go.Proofs.Ytmibjmceghikdaa
open Go.RowKit
set_option linter.unusedVariables false

theorem way_one {l : List Int} {x y : Nat} (h : x ≠ y) : (Tr.ints (Tr.way l x y))[1]? = some (Tr.step l x y : Int) := by
  rw [Tr.ints_get, (Tr.way_facts l _ x y (Nat.le_refl _)).2.2 h]; rfl
theorem way_len (l : List Int) (x y : Nat) : (Tr.ints (Tr.way l x y)).length = Tr.dist l x y + 1 := by
  rw [Tr.ints_len, (Tr.way_facts l _ x y (Nat.le_refl _)).1]
set_option maxRecDepth 100000 in
set_option maxHeartbeats 4000000 in
theorem rdist_any {A : Option Addr} {n c : Nat} {l : List Int} {w : World} (h : Ri w A n l) (hn : n ≤ 1000) (a b : Int) :
    Calls Try.prog 23 #[.slice A n c, .int .i64 a, .int .i64 b] w fun e w' => e = .returned (.int .i64 (Tr.dists l a b)) ∧ Below w.heap.size w w' := by
  obtain rfl := h.1.symm
  have HA := Lib.hid h
  have HK := Lib.hid (rhas_any (c := c) h hn a)
  have HL := Lib.hid (rhas_any (c := c) h hn b)
  clear h
  unfold Tr.dists
  rw [Tr.has_pair]
  cases ha : Tr.has l [a]
  · rw [ha] at HK
    rw [if_neg (by simp)]
    go_enter Try.func23, Try.ntmps23
    go_wp2_with (first | (go_at_call 34; refine HK.out.mono ?_; rintro e w' ⟨rfl, rfl⟩))
    go_ret
    exact ⟨rfl, Below.refl _ _⟩
  rw [ha] at HK
  cases hb : Tr.has l [b]
  · rw [hb] at HL
    rw [if_neg (by simp)]
    go_enter Try.func23, Try.ntmps23
    go_wp2_with (first | (go_at_call 34; refine HK.out.mono ?_; rintro e w' ⟨rfl, rfl⟩; clear HK) | (go_at_call 34; refine HL.out.mono ?_; rintro e w' ⟨rfl, rfl⟩))
    go_ret
    exact ⟨rfl, Below.refl _ _⟩
  rw [hb] at HL
  rw [if_pos (show (true && true) = true from rfl)]
  obtain ⟨x, rfl, hx⟩ := has_one ha
  obtain ⟨y, rfl, hy⟩ := has_one hb
  have HR := Lib.hid (Tr.has_right ha)
  have h7 := Tr.right_len (Tr.has_right ha)
  have hd := Tr.dist_le l _ x y (Nat.le_refl _)
  clear ha hb
  go_enter Try.func23, Try.ntmps23
  go_wp2_with (first | (go_at_call 34; refine HK.out.mono ?_; rintro e w' ⟨rfl, rfl⟩; clear HK) | (go_at_call 34; refine HL.out.mono ?_; rintro e w' ⟨rfl, rfl⟩))
  refine (way_any HA.out HR.out x y hx hy).mono ?_
  rintro e w1 ⟨v1, rfl, hv1, hk1⟩
  have HV1 := Lib.hid hv1
  have HK1 := Lib.hid hk1
  obtain ⟨A1, c1, rfl, -, -, -⟩ := hv1.reads
  clear hv1 hk1
  rw [way_len]
  go_wp2_with fail
  go_ret
  exact ⟨by simp, HK1.out⟩

set_option maxRecDepth 100000 in
set_option maxHeartbeats 4000000 in
theorem rnext_any {A : Option Addr} {n c : Nat} {l : List Int} {w : World} (h : Ri w A n l) (hn : n ≤ 1000) (a b : Int) :
    Calls Try.prog 22 #[.slice A n c, .int .i64 a, .int .i64 b] w fun e w' => e = .returned (.int .i64 (Tr.next l a b)) ∧ Below w.heap.size w w' := by
  obtain rfl := h.1.symm
  have HA := Lib.hid h
  have HK := Lib.hid (rhas_any (c := c) h hn a)
  have HL := Lib.hid (rhas_any (c := c) h hn b)
  clear h
  unfold Tr.next
  rw [Tr.has_pair]
  cases ha : Tr.has l [a]
  · rw [ha] at HK
    rw [if_neg (by simp)]
    go_enter Try.func22, Try.ntmps22
    go_wp2_with (first | (go_at_call 34; refine HK.out.mono ?_; rintro e w' ⟨rfl, rfl⟩))
    go_ret
    exact ⟨rfl, Below.refl _ _⟩
  rw [ha] at HK
  cases hb : Tr.has l [b]
  · rw [hb] at HL
    rw [if_neg (by simp)]
    go_enter Try.func22, Try.ntmps22
    go_wp2_with (first | (go_at_call 34; refine HK.out.mono ?_; rintro e w' ⟨rfl, rfl⟩; clear HK) | (go_at_call 34; refine HL.out.mono ?_; rintro e w' ⟨rfl, rfl⟩))
    go_ret
    exact ⟨rfl, Below.refl _ _⟩
  rw [hb] at HL
  obtain ⟨x, rfl, hx⟩ := has_one ha
  obtain ⟨y, rfl, hy⟩ := has_one hb
  have HR := Lib.hid (Tr.has_right ha)
  clear ha hb
  by_cases hxy : x = y
  · subst hxy
    rw [if_neg (by simp)]
    go_enter Try.func22, Try.ntmps22
    go_wp2_with (first | (go_at_call 34; refine HK.out.mono ?_; rintro e w' ⟨rfl, rfl⟩))
    go_ret
    exact ⟨rfl, Below.refl _ _⟩
  have hne : ((x : Int) == (y : Int)) = false := by rw [beq_eq_false_iff_ne]; omega
  rw [if_pos ⟨rfl, by omega⟩]
  have hd : 1 ≤ Tr.dist l x y := by
    rcases Nat.eq_zero_or_pos (Tr.dist l x y) with h0 | h0
    · exact absurd (Tr.dist_zero h0) hxy
    · exact h0
  have HW := Lib.hid (way_one (l := l) hxy)
  go_enter Try.func22, Try.ntmps22
  go_wp2_with (first | (go_at_call 34; refine HK.out.mono ?_; rintro e w' ⟨rfl, rfl⟩; clear HK) | (go_at_call 34; refine HL.out.mono ?_; rintro e w' ⟨rfl, rfl⟩))
  refine (way_any HA.out HR.out x y hx hy).mono ?_
  rintro e w1 ⟨v1, rfl, hv1, hk1⟩
  have HK1 := Lib.hid hk1
  obtain ⟨A1, c1, rfl, -, hr1, -⟩ := hv1.reads
  obtain ⟨rb, ro, u, rfl, hu, hc⟩ := hr1.at_ (j := 1) (by rw [way_len]; omega)
  rw [HW.out] at hu
  obtain rfl : (Tr.step l x y : Int) = u := Option.some.inj hu
  clear hv1 hk1 hu hr1
  rw [way_len]
  go_wp2_with fail
  go_ret
  exact ⟨rfl, HK1.out⟩

set_option maxRecDepth 100000 in
set_option maxHeartbeats 4000000 in
theorem rnear_any {A : Option Addr} {n c : Nat} {l : List Int} {w : World} (h : Ri w A n l) (hn : n ≤ 1000) (b : Int) :
    Calls Try.prog 20 #[.slice A n c, .int .i64 b] w (RowPost w (Tr.nears l b)) := by
  obtain rfl := h.1.symm
  have HA := Lib.hid h
  have HK := Lib.hid (rhas_any (c := c) h hn b)
  clear h
  unfold Tr.nears
  cases hh : Tr.has l [b]
  · rw [hh] at HK
    go_enter Try.func20, Try.ntmps20
    go_wp2_with (first | (go_at_call 34; refine HK.out.mono ?_; rintro e w' ⟨rfl, rfl⟩))
    go_ret
    exact ⟨_, rfl, OwnI.nil _ (Nat.le_refl _), Below.refl _ _⟩
  obtain ⟨x, rfl, hx⟩ := has_one hh
  have HR := Lib.hid (Tr.has_right hh)
  have h7 := Tr.right_len (Tr.has_right hh)
  rw [hh] at HK
  have HN := Lib.hid (Tr.near_chosen hx)
  clear hh
  go_enter Try.func20, Try.ntmps20
  go_wp2_with (first | (go_at_call 34; refine HK.out.mono ?_; rintro e w' ⟨rfl, rfl⟩; clear HK))
  go_loopw [5, 6] (fun xv ii wr => ∃ k : Nat, k ≤ l.length + 1 ∧ ii = .int .i64 (k : Int) ∧ OwnI w.heap.size wr xv (Tr.ints (Tr.chosen (fun y => Tr.dist l x y == 1) k)) ∧ Below w.heap.size w wr) (fun _ ii _ => l.length + 1 - (intOf ii).toNat)
  case atStart => exact ⟨0, by omega, rfl, OwnI.nil _ (Nat.le_refl _), Below.refl _ _⟩
  case round =>
    obtain ⟨k, hk, rfl, hv, hB⟩ := hrel
    obtain ⟨A1, c1, rfl, -, -, -⟩ := hv.reads
    have hf := Tr.chosen_few (fun y => Tr.dist l x y == 1) k
    have HV := Lib.hid hv
    have HB := Lib.hid hB
    clear hv hB
    by_cases hlt : k < l.length + 1
    · have HD := Lib.hid (show Tr.dists l (x : Int) (k : Int) = (Tr.dist l x k : Int) by unfold Tr.dists; rw [if_pos (Tr.has_both HR.out hx (by omega)), Int.toNat_natCast, Int.toNat_natCast])
      by_cases h1 : Tr.dist l x k = 1
      · have HE := Lib.hid (Tr.chosen_yes (f := fun y => Tr.dist l x y == 1) (k := k) (by simp [h1]))
        have h2 : (Tr.dist l x k : Int) = 1 := by omega
        clear h1
        go_wp2_with (first | (go_at_call 23; refine (rdist_any (HA.out.later HB.out) (by omega) (x : Int) (k : Int)).mono ?_; rintro e w1 ⟨rfl, hk1⟩; rw [HD.out]; have HV1 := Lib.hid (HV.out.later hk1); have HB1 := Lib.hid (then_below HB.out hk1); clear hk1) | (at_builtin; refine wpList_owni rfl _ _ rfl w.heap.size _ _ rfl HV1.out _ rfl (by rw [Tr.ints_len]; omega) ?_; intro v2 w2 hv2 hk2; have HV2 := Lib.hid hv2; have HK2 := Lib.hid hk2; clear hv2 hk2))
        exact ⟨⟨k + 1, by omega, by simp, by rw [HE.out, Tr.ints_snoc]; exact HV2.out, below_behind HB1.out HK2.out⟩, by simp [intOf]; omega⟩
      · have HE := Lib.hid (Tr.chosen_no (f := fun y => Tr.dist l x y == 1) (k := k) (by simp [h1]))
        have h2 : ¬ (Tr.dist l x k : Int) = 1 := by omega
        clear h1
        go_wp2_with (first | (go_at_call 23; refine (rdist_any (HA.out.later HB.out) (by omega) (x : Int) (k : Int)).mono ?_; rintro e w1 ⟨rfl, hk1⟩; rw [HD.out]; have HV1 := Lib.hid (HV.out.later hk1); have HB1 := Lib.hid (then_below HB.out hk1); clear hk1))
        exact ⟨⟨k + 1, by omega, by simp, by rw [HE.out]; exact HV1.out, HB1.out⟩, by simp [intOf]; omega⟩
    · obtain rfl : k = l.length + 1 := by omega
      go_wp2_with fail
      go_ret
      exact ⟨_, rfl, by show OwnI _ _ _ (Tr.ints (Tr.nearN l x)); rw [← HN.out]; exact HV.out, HB.out⟩

set_option maxRecDepth 100000 in
set_option maxHeartbeats 4000000 in
theorem rkids_any {A : Option Addr} {n c : Nat} {l : List Int} {w : World} (h : Ri w A n l) (hn : n ≤ 1000) (b : Int) :
    Calls Try.prog 21 #[.slice A n c, .int .i64 b] w (RowPost w (Tr.kids l b)) := by
  obtain rfl := h.1.symm
  have HA := Lib.hid h
  have HK := Lib.hid (rhas_any (c := c) h hn b)
  clear h
  unfold Tr.kids
  cases hh : Tr.has l [b]
  · rw [hh] at HK
    go_enter Try.func21, Try.ntmps21
    go_wp2_with (first | (go_at_call 34; refine HK.out.mono ?_; rintro e w' ⟨rfl, rfl⟩))
    go_ret
    exact ⟨_, rfl, OwnI.nil _ (Nat.le_refl _), Below.refl _ _⟩
  obtain ⟨x, rfl, hx⟩ := has_one hh
  have HR := Lib.hid (Tr.has_right hh)
  have h7 := Tr.right_len (Tr.has_right hh)
  rw [hh] at HK
  clear hh
  go_enter Try.func21, Try.ntmps21
  go_wp2_with (first | (go_at_call 34; refine HK.out.mono ?_; rintro e w' ⟨rfl, rfl⟩; clear HK))
  go_loopw [5, 6] (fun xv ii wr => ∃ k : Nat, k ≤ l.length ∧ ii = .int .i64 (k : Int) ∧ OwnI w.heap.size wr xv (Tr.ints (Tr.kidsN l x k)) ∧ Below w.heap.size w wr) (fun _ ii _ => l.length - (intOf ii).toNat)
  case atStart => exact ⟨0, by omega, rfl, OwnI.nil _ (Nat.le_refl _), Below.refl _ _⟩
  case round =>
    obtain ⟨k, hk, rfl, hv, hB⟩ := hrel
    obtain ⟨A1, c1, rfl, -, -, -⟩ := hv.reads
    have hf := Tr.kids_few l x k
    have HV := Lib.hid hv
    have HB := Lib.hid hB
    clear hv hB
    by_cases hlt : k < l.length
    · obtain ⟨rb, ro, u, rfl, hu, hc⟩ := (HA.out.later HB.out).at_ hlt
      have hp := (Tr.right_par HR.out (b := k + 1) (by omega) (by omega)).1
      rw [show k + 1 - 1 = k by omega, hu] at hp
      have hu2 : u = (Tr.par l (k + 1) : Int) := Option.some.inj hp
      subst hu2
      clear hu hp
      by_cases he : Tr.par l (k + 1) = x
      · have he2 : (Tr.par l (k + 1) : Int) = (x : Int) := by omega
        have HE := Lib.hid (Tr.kidsN_yes he)
        clear he
        go_wp2_with (first | (at_builtin; refine wpList_owni rfl _ _ rfl w.heap.size _ (Tr.ints (Tr.kidsN l x k)) rfl HV.out _ rfl (by rw [Tr.ints_len]; omega) ?_; intro v1 w1 hv1 hk1; have HV1 := Lib.hid hv1; have HK1 := Lib.hid hk1; clear hv1 hk1))
        exact ⟨⟨k + 1, by omega, by simp, by rw [HE.out, Tr.ints_snoc]; simpa using HV1.out, below_behind HB.out HK1.out⟩, by simp [intOf]; omega⟩
      · have he2 : ¬ (Tr.par l (k + 1) : Int) = (x : Int) := by omega
        have HE := Lib.hid (Tr.kidsN_no he)
        go_wp2_with fail
        exact ⟨⟨k + 1, by omega, by simp, by rw [HE.out]; exact HV.out, HB.out⟩, by simp [intOf]; omega⟩
    · obtain rfl : k = l.length := by omega
      go_wp2_with fail
      go_ret
      exact ⟨_, rfl, HV.out, HB.out⟩

theorem next_side {l : List Int} {x k : Nat} (h : Tr.right l = true) (hx : x ≤ l.length) (hk : k ≤ l.length) : Tr.next l (x : Int) (k : Int) = if k = x then -1 else (Tr.step l x k : Int) := by
  unfold Tr.next
  by_cases e : k = x
  · rw [if_neg (by simp [e]), if_pos e]
  · rw [if_pos ⟨Tr.has_both h hx hk, by omega⟩, if_neg e, Int.toNat_natCast, Int.toNat_natCast]
set_option maxRecDepth 100000 in
set_option maxHeartbeats 4000000 in
theorem rside_any {A : Option Addr} {n c : Nat} {l : List Int} {w : World} (h : Ri w A n l) (hn : n ≤ 1000) (b t : Int) :
    Calls Try.prog 24 #[.slice A n c, .int .i64 b, .int .i64 t] w (RowPost w (Tr.side l b t)) := by
  obtain rfl := h.1.symm
  have HA := Lib.hid h
  have HK := Lib.hid (rhas_any (c := c) h hn b)
  have HL := Lib.hid (rhas_any (c := c) h hn t)
  clear h
  unfold Tr.side
  rw [Tr.has_pair]
  cases ha : Tr.has l [b]
  · rw [ha] at HK
    go_enter Try.func24, Try.ntmps24
    go_wp2_with (first | (go_at_call 34; refine HK.out.mono ?_; rintro e w' ⟨rfl, rfl⟩))
    go_ret
    exact ⟨_, rfl, OwnI.nil _ (Nat.le_refl _), Below.refl _ _⟩
  rw [ha] at HK
  cases hb : Tr.has l [t]
  · rw [hb] at HL
    go_enter Try.func24, Try.ntmps24
    go_wp2_with (first | (go_at_call 34; refine HK.out.mono ?_; rintro e w' ⟨rfl, rfl⟩; clear HK) | (go_at_call 34; refine HL.out.mono ?_; rintro e w' ⟨rfl, rfl⟩))
    go_ret
    exact ⟨_, rfl, OwnI.nil _ (Nat.le_refl _), Below.refl _ _⟩
  rw [hb] at HL
  obtain ⟨x, rfl, hx⟩ := has_one ha
  obtain ⟨y, rfl, hy⟩ := has_one hb
  have HR := Lib.hid (Tr.has_right ha)
  have h7 := Tr.right_len (Tr.has_right ha)
  clear ha hb
  go_enter Try.func24, Try.ntmps24
  go_wp2_with (first | (go_at_call 34; refine HK.out.mono ?_; rintro e w' ⟨rfl, rfl⟩; clear HK) | (go_at_call 34; refine HL.out.mono ?_; rintro e w' ⟨rfl, rfl⟩; clear HL))
  go_loopw [7, 8] (fun xv ii wr => ∃ k : Nat, k ≤ l.length + 1 ∧ ii = .int .i64 (k : Int) ∧ OwnI w.heap.size wr xv (Tr.ints (Tr.sideN l x y k)) ∧ Below w.heap.size w wr) (fun _ ii _ => l.length + 1 - (intOf ii).toNat)
  case atStart => exact ⟨0, by omega, rfl, OwnI.nil _ (Nat.le_refl _), Below.refl _ _⟩
  case round =>
    obtain ⟨k, hk, rfl, hv, hB⟩ := hrel
    obtain ⟨A1, c1, rfl, -, -, -⟩ := hv.reads
    have hf : (Tr.sideN l x y k).length ≤ k := Tr.chosen_few _ _
    have HV := Lib.hid hv
    have HB := Lib.hid hB
    clear hv hB
    by_cases hlt : k < l.length + 1
    · have HD := Lib.hid (next_side HR.out hx (show k ≤ l.length by omega))
      by_cases h1 : k ≠ x ∧ Tr.step l x k = y
      · have HE := Lib.hid (show Tr.sideN l x y (k + 1) = Tr.sideN l x y k ++ [k] from Tr.chosen_yes (by simp [h1.1, h1.2]))
        have HD2 := Lib.hid (HD.out.trans (if_neg h1.1))
        have h2 : (Tr.step l x k : Int) = (y : Int) := by omega
        clear h1
        go_wp2_with (first | (go_at_call 22; refine (rnext_any (HA.out.later HB.out) (by omega) (x : Int) (k : Int)).mono ?_; rintro e w1 ⟨rfl, hk1⟩; rw [HD2.out]; have HV1 := Lib.hid (HV.out.later hk1); have HB1 := Lib.hid (then_below HB.out hk1); clear hk1) | (at_builtin; refine wpList_owni rfl _ _ rfl w.heap.size _ _ rfl HV1.out _ rfl (by rw [Tr.ints_len]; omega) ?_; intro v2 w2 hv2 hk2; have HV2 := Lib.hid hv2; have HK2 := Lib.hid hk2; clear hv2 hk2))
        exact ⟨⟨k + 1, by omega, by simp, by rw [HE.out, Tr.ints_snoc]; exact HV2.out, below_behind HB1.out HK2.out⟩, by simp [intOf]; omega⟩
      · have HE := Lib.hid (show Tr.sideN l x y (k + 1) = Tr.sideN l x y k from Tr.chosen_no (by simp only [Bool.and_eq_false_iff, bne_eq_false_iff_eq, beq_eq_false_iff_ne]; exact (Decidable.em (k = x)).imp id fun h e => h1 ⟨h, e⟩))
        have h2 : ¬ Tr.next l (x : Int) (k : Int) = (y : Int) := by
          rw [HD.out]
          split
          · omega
          · rename_i h; intro e; exact h1 ⟨h, by omega⟩
        clear h1
        generalize Tr.next l (x : Int) (k : Int) = r at h2 HD
        go_wp2_with (first | (go_at_call 22; refine (rnext_any (HA.out.later HB.out) (by omega) (x : Int) (k : Int)).mono ?_; rintro e w1 ⟨rfl, hk1⟩; rw [next_side HR.out hx (by omega), ← HD.out]; have HV1 := Lib.hid (HV.out.later hk1); have HB1 := Lib.hid (then_below HB.out hk1); clear hk1))
        exact ⟨⟨k + 1, by omega, by simp, by rw [HE.out]; exact HV1.out, HB1.out⟩, by simp [intOf]; omega⟩
    · obtain rfl : k = l.length + 1 := by omega
      go_wp2_with fail
      go_ret
      exact ⟨_, rfl, HV.out, HB.out⟩
theorem Tr.has_fail {l q : List Int} {k : Nat} {b : Int} (h : q[k]? = some b) (hb : has l [b] = false) : has l q = false := by
  cases hq : has l q
  · rfl
  · have h1 := Tr.has_get hq h
    have h2 := Tr.has_right hq
    have : has l [b] = true := by
      rw [Tr.has_iff]
      refine ⟨h2, fun c hc => ?_⟩
      rw [List.mem_singleton.1 hc]; exact h1
    rw [this] at hb; cases hb
/-- How far the best one is, so far: none at first. -/
def Best (f : Nat → Nat) (k : Nat) (b s : Int) : Prop := (k = 0 ∧ b = -1 ∧ s = 0) ∨ ∃ j, k = j + 1 ∧ b = (Tr.least f j : Int) ∧ s = (f (Tr.least f j) : Int)
theorem Best.next {f : Nat → Nat} {k : Nat} {b s : Int} (h : Best f k b s) (hn : b < 0 ∨ (f k : Int) < s) : Best f (k + 1) (k : Int) (f k : Int) := by
  rcases h with ⟨rfl, rfl, rfl⟩ | ⟨j, rfl, rfl, rfl⟩
  · exact .inr ⟨0, rfl, rfl, rfl⟩
  · have : f (j + 1) < f (Tr.least f j) := by omega
    exact .inr ⟨j + 1, rfl, by rw [Tr.least, if_pos this], by rw [Tr.least, if_pos this]⟩
theorem Best.keep {f : Nat → Nat} {k : Nat} {b s : Int} (h : Best f k b s) (hn : ¬ b < 0) (hs : ¬ (f k : Int) < s) : Best f (k + 1) b s := by
  rcases h with ⟨rfl, rfl, rfl⟩ | ⟨j, rfl, rfl, rfl⟩
  · omega
  · have : ¬ f (j + 1) < f (Tr.least f j) := by omega
    exact .inr ⟨j + 1, rfl, by rw [Tr.least, if_neg this], by rw [Tr.least, if_neg this]⟩
theorem Best.range {f : Nat → Nat} {k : Nat} {b s : Int} (h : Best f k b s) : -1 ≤ b ∧ b < (k : Int) := by
  rcases h with ⟨rfl, rfl, rfl⟩ | ⟨j, rfl, rfl, rfl⟩
  · omega
  · have := (Tr.least_le f j).1; omega
set_option maxRecDepth 100000 in
set_option maxHeartbeats 8000000 in
theorem rplace_any {A B : Option Addr} {n c m d : Nat} {l q : List Int} {w : World} (h : Ri w A n l) (hq : Ri w B m q) (hn : n ≤ 1000) (hm : m ≤ 1000) :
    Calls Try.prog 26 #[.slice A n c, .slice B m d] w fun e w' => e = .returned (.int .i64 (Tr.place l q)) ∧ Below w.heap.size w w' := by
  obtain rfl := h.1.symm
  obtain rfl := hq.1.symm
  have HA := Lib.hid h
  have HB := Lib.hid hq
  clear h hq
  go_enter Try.func26, Try.ntmps26
  go_wp2_with fail
  go_loopw [7] (fun ii wr => ∃ k : Nat, k ≤ q.length ∧ ii = .int .i64 (k : Int) ∧ (∀ (j : Nat) (b : Int), j < k → q[j]? = some b → Tr.has l [b] = true) ∧ w = wr) (fun ii _ => q.length - (intOf ii).toNat)
  case atStart => exact ⟨0, by omega, rfl, fun j b hj _ => by omega, rfl⟩
  case round =>
    obtain ⟨k, hk, rfl, hp, rfl⟩ := hrel
    have HP := Lib.hid hp
    clear hp
    by_cases hlt : k < q.length
    · obtain ⟨rb, ro, u, rfl, hu, hc⟩ := HB.out.at_ hlt
      have HU := Lib.hid hu
      clear hu
      cases hh : Tr.has l [u]
      · have HH := Lib.hid hh
        clear hh
        have HF := Lib.hid (show Tr.place l q = -1 by unfold Tr.place; rw [if_neg (by rw [Tr.has_fail HU.out HH.out]; simp)])
        go_wp2_with (first | (go_at_call 34; refine (rhas_any HA.out (by omega) u).mono ?_; rintro e w' ⟨rfl, rfl⟩; rw [HH.out]))
        go_ret
        exact ⟨by rw [HF.out]; rfl, Below.refl _ _⟩
      · have HH := Lib.hid hh
        clear hh
        go_wp2_with (first | (go_at_call 34; refine (rhas_any HA.out (by omega) u).mono ?_; rintro e w' ⟨rfl, rfl⟩; rw [HH.out]))
        refine ⟨⟨k + 1, by omega, by simp, fun j b hj hb => ?_, trivial⟩, by simp [intOf]; omega⟩
        by_cases e : j = k
        · subst e
          rw [HU.out] at hb
          cases hb
          exact HH.out
        · exact HP.out j b (by omega) hb
    · obtain rfl : k = q.length := by omega
      cases hr : Tr.right l
      · have HR := Lib.hid hr
        clear hr
        have HF := Lib.hid (show Tr.place l q = -1 by unfold Tr.place; rw [if_neg (by unfold Tr.has; rw [HR.out]; simp)])
        go_wp2_with fail
        go_loopw [5, 6, 8] (fun bb ss ii wr => bb = .int .i64 (-1) ∧ ss = .int .i64 0 ∧ ii = .int .i64 0 ∧ w = wr) (fun _ _ _ _ => 0)
        case atStart => exact ⟨rfl, rfl, rfl, rfl⟩
        case round =>
          obtain ⟨rfl, rfl, rfl, rfl⟩ := hrel
          go_wp2_with (first | (go_at_call 17; refine (rright_any HA.out (by omega)).mono ?_; rintro e w' ⟨rfl, rfl⟩; rw [HR.out]))
          go_ret
          exact ⟨by rw [HF.out]; rfl, Below.refl _ _⟩
      · have HR := Lib.hid hr
        have h7 := Tr.right_len hr
        by_cases h0 : q.length = 0
        · have HF := Lib.hid (show Tr.place l q = -1 by unfold Tr.place; rw [if_neg (by rw [List.eq_nil_of_length_eq_zero h0]; simp)])
          have h0' : ¬ 0 < (q.length : Int) := by omega
          clear hr h0 hlt
          go_wp2_with fail
          go_loopw [5, 6, 8] (fun bb ss ii wr => bb = .int .i64 (-1) ∧ ss = .int .i64 0 ∧ ii = .int .i64 0 ∧ w = wr) (fun _ _ _ _ => 0)
          case atStart => exact ⟨rfl, rfl, rfl, rfl⟩
          case round =>
            obtain ⟨rfl, rfl, rfl, rfl⟩ := hrel
            go_wp2_with (first | (go_at_call 17; refine (rright_any HA.out (by omega)).mono ?_; rintro e w' ⟨rfl, rfl⟩; rw [HR.out]))
            go_ret
            exact ⟨by rw [HF.out]; rfl, Below.refl _ _⟩
        · have hh : Tr.has l q = true := by
            rw [Tr.has_iff]
            refine ⟨hr, fun b hb => ?_⟩
            obtain ⟨j, hj⟩ := List.mem_iff_getElem?.1 hb
            have := HP.out j b (by have := (List.getElem?_eq_some_iff.1 hj).1; omega) hj
            exact Tr.has_get this (k := 0) rfl
          have HH := Lib.hid hh
          have HF := Lib.hid (show Tr.place l q = (Tr.least (fun b => Tr.far l b q) l.length : Int) by unfold Tr.place; rw [if_pos ⟨hh, fun e => h0 (by rw [e]; rfl)⟩])
          have h0' : 0 < (q.length : Int) := by omega
          clear hr h0 hlt hh
          go_wp2_with fail
          go_loopw [5, 6, 8] (fun bb ss ii wr => ∃ (k : Nat) (b s : Int), k ≤ l.length + 1 ∧ bb = .int .i64 b ∧ ss = .int .i64 s ∧ ii = .int .i64 (k : Int) ∧ Best (fun b => Tr.far l b q) k b s ∧ Below w.heap.size w wr) (fun _ _ ii _ => l.length + 1 - (intOf ii).toNat)
          case atStart => exact ⟨0, -1, 0, by omega, rfl, rfl, rfl, .inl ⟨rfl, rfl, rfl⟩, Below.refl _ _⟩
          case round =>
            obtain ⟨k, b, s, hk, rfl, rfl, rfl, hb, hBB⟩ := hrel
            have hbr := hb.range
            have HBB := Lib.hid hBB
            have HBE := Lib.hid hb
            clear hBB
            by_cases hlt : k < l.length + 1
            · clear hb
              have hkl : k ≤ l.length := by omega
              go_wp2_with (first | (go_at_call 17; refine (rright_any (HA.out.later HBB.out) (by omega)).mono ?_; rintro e w' ⟨rfl, rfl⟩; rw [HR.out]))
              go_loopw [9, 10] (fun ss ii wr => ∃ k2 t : Nat, k2 ≤ q.length ∧ ss = .int .i64 (t : Int) ∧ ii = .int .i64 (k2 : Int) ∧ t ≤ 7 * k2 ∧ Tr.far l k q = t + Tr.far l k (q.drop k2) ∧ Below w.heap.size w wr) (fun _ ii _ => q.length - (intOf ii).toNat)
              case atStart => exact ⟨0, 0, by omega, rfl, rfl, by omega, by simp, HBB.out⟩
              case round =>
                obtain ⟨k2, t, hk2, rfl, rfl, ht, hf, hB3⟩ := hrel
                have HB3 := Lib.hid hB3
                have HFA := Lib.hid hf
                clear hB3 hf HBB
                by_cases hlt2 : k2 < q.length
                · obtain ⟨rb, ro, u, rfl, hu, hc⟩ := (HB.out.later HB3.out).at_ hlt2
                  have hu2 := Tr.has_get HH.out hu
                  obtain ⟨x, rfl⟩ : ∃ x : Nat, u = (x : Int) := ⟨u.toNat, by omega⟩
                  have HU := Lib.hid (Tr.far_drop (l := l) (b := k) hu)
                  have hd := Tr.dist_le l _ k x (Nat.le_refl _)
                  have hd7 : Tr.dist l k x ≤ 7 := by omega
                  have HD := Lib.hid (show Tr.dists l (k : Int) (x : Int) = (Tr.dist l k x : Int) by unfold Tr.dists; rw [if_pos (Tr.has_both HR.out (by omega) (by omega)), Int.toNat_natCast, Int.toNat_natCast])
                  clear hu hd
                  go_wp2_with (first | (go_at_call 23; refine (rdist_any (HA.out.later HB3.out) (by omega) (k : Int) (x : Int)).mono ?_; rintro e w1 ⟨rfl, hk1⟩; rw [HD.out]; have HB4 := Lib.hid (then_below HB3.out hk1); clear hk1))
                  exact ⟨⟨k2 + 1, t + Tr.dist l k x, by omega, by simp, by simp, by omega, by rw [HFA.out, HU.out, Int.toNat_natCast, Nat.add_assoc], HB4.out⟩, by simp [intOf]; omega⟩
                · have HFB := Lib.hid (show Tr.far l k q = t by rw [HFA.out, List.drop_eq_nil_of_le (by omega)]; rfl)
                  by_cases hb0 : b < 0
                  · go_wp2_with fail
                    exact ⟨⟨k + 1, k, t, by omega, by simp, by simp, by simp, by have := HBE.out.next (.inl hb0); rw [HFB.out] at this; exact this, HB3.out⟩, by simp [intOf]; omega⟩
                  · by_cases hs : (t : Int) < s
                    · go_wp2_with fail
                      exact ⟨⟨k + 1, k, t, by omega, by simp, by simp, by simp, by have := HBE.out.next (.inr (by rw [HFB.out]; exact hs)); rw [HFB.out] at this; exact this, HB3.out⟩, by simp [intOf]; omega⟩
                    · go_wp2_with fail
                      exact ⟨⟨k + 1, b, s, by omega, by simp, by simp, by simp, HBE.out.keep hb0 (by rw [HFB.out]; exact hs), HB3.out⟩, by simp [intOf]; omega⟩
            · obtain rfl : k = l.length + 1 := by omega
              have hb2 : b = (Tr.least (fun b => Tr.far l b q) l.length : Int) := by
                rcases hb with ⟨h, -, -⟩ | ⟨j, h1, h2, -⟩
                · omega
                · rw [h2, show j = l.length by omega]
              have HB2 := Lib.hid hb2
              clear hb hb2
              go_wp2_with (first | (go_at_call 17; refine (rright_any (HA.out.later HBB.out) (by omega)).mono ?_; rintro e w' ⟨rfl, rfl⟩; rw [HR.out]))
              go_ret
              exact ⟨by rw [HF.out, HB2.out]; rfl, HBB.out⟩
end Go.Proofs.Ytmibjmceghikdaa
