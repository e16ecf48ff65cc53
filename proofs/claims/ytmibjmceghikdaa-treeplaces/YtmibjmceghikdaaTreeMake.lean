
/- Package tree's answers: Kids, Near, Side, Next, Dist, Place. -/
import Derived.Test.YtmibjmceghikdaaTreeCore
namespace Go.Proofs.Ytmibjmceghikdaa
open Go.RowKit
set_option linter.unusedVariables false

/-- A row that the call handed on, of one, of two. -/
theorem ri_one (w : World) (b : Int) : Ri (w.alloc (.cells #[.int .i64 b] 3)) (some ⟨w.heap.size, 0, none⟩) 1 [b] :=
  ⟨rfl, .inr ⟨_, _, rfl, fun j u hj => by
    match j, hj with
    | 0, hj => cases hj; simp⟩⟩
theorem ri_two (w : World) (a b : Int) : Ri (w.alloc (.cells #[.int .i64 a, .int .i64 b] 3)) (some ⟨w.heap.size, 0, none⟩) 2 [a, b] :=
  ⟨rfl, .inr ⟨_, _, rfl, fun j u hj => by
    match j, hj with
    | 0, hj => cases hj; simp
    | 1, hj => cases hj; simp⟩⟩
theorem new_below (w : World) (o : Obj) : Below w.heap.size w (w.alloc o) := (Below.refl _ _).alloc (Nat.le_refl _) _
/-- What behind an older world's blocks alone may have turned. -/
theorem below_behind {w w1 w2 : World} (h : Below w.heap.size w w1) (k : Kept (fun i => w.heap.size ≤ i) w1 w2) : Below w.heap.size w w2 := h.trans (k.below h.size fun i hi hs => by omega)
theorem has_one {l : List Int} {b : Int} (h : Tr.has l [b] = true) : ∃ x : Nat, b = (x : Int) ∧ x ≤ l.length := by
  have := Tr.has_get h (k := 0) rfl
  exact ⟨b.toNat, by omega, by omega⟩
theorem has_two {l : List Int} {a b : Int} (h : Tr.has l [a, b] = true) : ∃ x y : Nat, a = (x : Int) ∧ b = (y : Int) ∧ x ≤ l.length ∧ y ≤ l.length := by
  have := Tr.has_get h (k := 0) rfl
  have := Tr.has_get h (k := 1) rfl
  exact ⟨a.toNat, b.toNat, by omega, by omega, by omega, by omega⟩
/-- What a call tells that makes a row of its own. -/
def RowPost (w : World) (L : List Int) (e : Ending) (w' : World) : Prop := ∃ v, e = .returned v ∧ OwnI w.heap.size w' v L ∧ Below w.heap.size w w'

set_option maxRecDepth 100000 in
set_option maxHeartbeats 4000000 in
theorem kids_any {A : Option Addr} {n c : Nat} {l : List Int} {w : World} (h : Ri w A n l) (hn : n ≤ 1000) (b : Int) :
    Calls Try.prog 9 #[.slice A n c, .int .i64 b] w (RowPost w (Tr.kids l b)) := by
  obtain rfl := h.1.symm
  have HA := Lib.hid h
  have HK := Lib.hid (has_any (c := c) (d := 1) (h.later (new_below w (.cells #[.int .i64 b] 3))) (ri_one w b) hn (by omega))
  clear h
  unfold Tr.kids
  cases hh : Tr.has l [b]
  · rw [hh] at HK
    go_enter Try.func9, Try.ntmps9
    go_wp2_with fail
    refine HK.out.mono ?_
    rintro e w' ⟨rfl, rfl⟩
    go_wp2_with fail
    go_ret
    exact ⟨_, rfl, OwnI.nil _ (new_below w _).size, new_below w _⟩
  · obtain ⟨x, rfl, hx⟩ := has_one hh
    have h7 := Tr.right_len (Tr.has_right hh)
    have HR := Lib.hid (Tr.has_right hh)
    rw [hh] at HK
    clear hh
    go_enter Try.func9, Try.ntmps9
    go_wp2_with fail
    refine HK.out.mono ?_
    rintro e w' ⟨rfl, rfl⟩
    clear HK
    go_wp2_with fail
    go_loopw [5, 15] (fun xv ii wr => ∃ k : Nat, k ≤ l.length ∧ ii = .int .i64 (k : Int) ∧ OwnI w.heap.size wr xv (Tr.ints (Tr.kidsN l x k)) ∧ Below w.heap.size w wr) (fun _ ii _ => l.length - (intOf ii).toNat)
    case atStart => exact ⟨0, by omega, rfl, OwnI.nil _ (new_below w _).size, new_below w _⟩
    case round =>
      obtain ⟨k, hk, rfl, hv, hB⟩ := hrel
      obtain ⟨A1, c1, rfl, -, -, -⟩ := hv.reads
      have hf := Tr.kids_few l x k
      have HV := Lib.hid hv
      have HB := Lib.hid hB
      clear hv hB
      by_cases hlt : k < l.length
      · obtain ⟨rb, ro, u, rfl, hu, hc⟩ := (HA.out.later HB.out).at_ hlt
        have hp := (Tr.right_par HR.out (b := k + 1) (by omega) (by omega)).1
        rw [show k + 1 - 1 = k by omega, hu] at hp
        have hu2 : u = (Tr.par l (k + 1) : Int) := Option.some.inj hp
        subst hu2
        clear hu hp
        by_cases he : Tr.par l (k + 1) = x
        · have he2 : (Tr.par l (k + 1) : Int) = (x : Int) := by omega
          have HE := Lib.hid (Tr.kidsN_yes he)
          clear he
          go_wp2_with (first | (at_builtin; refine wpList_owni rfl _ _ rfl w.heap.size _ (Tr.ints (Tr.kidsN l x k)) rfl HV.out _ rfl (by rw [Tr.ints_len]; omega) ?_; intro v1 w1 hv1 hk1; have HV1 := Lib.hid hv1; have HK1 := Lib.hid hk1; clear hv1 hk1))
          exact ⟨⟨k + 1, by omega, rfl, by rw [HE.out, Tr.ints_append]; simpa [Tr.ints] using HV1.out, below_behind HB.out HK1.out⟩, by simp [intOf]; omega⟩
        · have he2 : ¬ (Tr.par l (k + 1) : Int) = (x : Int) := by omega
          have HE := Lib.hid (Tr.kidsN_no he)
          go_wp2_with fail
          exact ⟨⟨k + 1, by omega, rfl, by rw [HE.out]; exact HV.out, HB.out⟩, by simp [intOf]; omega⟩
      · obtain rfl : k = l.length := by omega
        go_wp2_with fail
        go_ret
        exact ⟨_, rfl, HV.out, HB.out⟩
set_option maxRecDepth 100000 in
set_option maxHeartbeats 4000000 in
theorem near_any {A : Option Addr} {n c : Nat} {l : List Int} {w : World} (h : Ri w A n l) (hn : n ≤ 1000) (b : Int) :
    Calls Try.prog 8 #[.slice A n c, .int .i64 b] w (RowPost w (Tr.nears l b)) := by
  obtain rfl := h.1.symm
  have HA := Lib.hid h
  have HK := Lib.hid (has_any (c := c) (d := 1) (h.later (new_below w (.cells #[.int .i64 b] 3))) (ri_one w b) hn (by omega))
  clear h
  unfold Tr.nears
  cases hh : Tr.has l [b]
  · rw [hh] at HK
    go_enter Try.func8, Try.ntmps8
    go_wp2_with fail
    refine HK.out.mono ?_
    rintro e w' ⟨rfl, rfl⟩
    go_wp2_with fail
    go_ret
    exact ⟨_, rfl, OwnI.nil _ (new_below w _).size, new_below w _⟩
  · have HH := Lib.hid hh
    obtain ⟨x, rfl, hx⟩ := has_one hh
    have h7 := Tr.right_len (Tr.has_right hh)
    have HR := Lib.hid (Tr.has_right hh)
    have hf := Tr.kids_few l x l.length
    have HE := Lib.hid (show Tr.kids l (x : Int) = Tr.ints (Tr.kidsN l x l.length) by unfold Tr.kids; rw [hh, Int.toNat_natCast]; rfl)
    rw [hh] at HK
    clear hh
    by_cases h0 : 0 < x
    · have HN := Lib.hid (show Tr.ints (Tr.nearN l x) = [] ++ [(Tr.par l x : Int)] ++ Tr.ints (Tr.kidsN l x l.length) by unfold Tr.nearN; rw [if_pos h0]; rfl)
      go_enter Try.func8, Try.ntmps8
      go_wp2_with fail
      refine HK.out.mono ?_
      rintro e w' ⟨rfl, rfl⟩
      clear HK
      have hB := new_below w (.cells #[.int .i64 (x : Int)] 3)
      have HB := Lib.hid hB
      have hs1 := hB.size
      generalize w.alloc (.cells #[.int .i64 (x : Int)] 3) = w1 at HB hs1 ⊢
      clear hB
      go_wp2_with (first | (go_at_call 30; refine (parent_any (HA.out.later HB.out) (by omega) HR.out x h0 hx).mono ?_; rintro e w' ⟨rfl, rfl⟩) | (at_builtin; refine wpList_owni rfl _ _ rfl w.heap.size _ [] rfl (OwnI.nil _ hs1) _ rfl (by simp) ?_; intro v1 w2 hv1 hk1; have HV1 := Lib.hid hv1; have HB2 := Lib.hid (below_behind HB.out hk1); clear hv1 hk1))
      refine (kids_any (HA.out.later HB2.out) (by omega) (x : Int)).mono ?_
      rintro e w3 ⟨v3, rfl, hv3, hk3⟩
      rw [HE.out] at hv3
      have HV3 := Lib.hid hv3
      have HK3 := Lib.hid hk3
      clear hv3 hk3
      go_wp2_with (first | (at_builtin; refine wpList_ownis rfl _ _ rfl w.heap.size _ _ _ _ _ rfl (HV1.out.later HK3.out) rfl HV3.out (by simp only [Tr.ints_len, List.length_append, List.length_cons, List.length_nil]; omega) ?_; intro v4 w4 hv4 hk4; have HV4 := Lib.hid hv4; have HB4 := Lib.hid (below_behind (HB2.out.trans ⟨HK3.out.os, HK3.out.tape, HK3.out.output, HK3.out.size, fun k hk => HK3.out.block k (Nat.lt_of_lt_of_le hk HB2.out.size)⟩) hk4); clear hv4 hk4))
      go_ret
      exact ⟨_, rfl, by show OwnI _ _ _ (Tr.ints (Tr.nearN l x)); rw [HN.out]; exact HV4.out, HB4.out⟩
    · have HN := Lib.hid (show Tr.ints (Tr.nearN l x) = [] ++ Tr.ints (Tr.kidsN l x l.length) by unfold Tr.nearN; rw [if_neg h0]; rfl)
      go_enter Try.func8, Try.ntmps8
      go_wp2_with fail
      refine HK.out.mono ?_
      rintro e w' ⟨rfl, rfl⟩
      clear HK
      have hB := new_below w (.cells #[.int .i64 (x : Int)] 3)
      have HB := Lib.hid hB
      have hs1 := hB.size
      generalize w.alloc (.cells #[.int .i64 (x : Int)] 3) = w1 at HB hs1 ⊢
      clear hB
      go_wp2_with fail
      refine (kids_any (HA.out.later HB.out) (by omega) (x : Int)).mono ?_
      rintro e w3 ⟨v3, rfl, hv3, hk3⟩
      rw [HE.out] at hv3
      have HV3 := Lib.hid hv3
      have HK3 := Lib.hid hk3
      have hs3 := Nat.le_trans hs1 hk3.size
      clear hv3 hk3
      go_wp2_with (first | (at_builtin; refine wpList_ownis rfl _ _ rfl w.heap.size _ _ _ [] _ rfl (OwnI.nil _ hs3) rfl HV3.out (by simp only [Tr.ints_len, List.length_nil]; omega) ?_; intro v4 w4 hv4 hk4; have HV4 := Lib.hid hv4; have HB4 := Lib.hid (below_behind (HB.out.trans ⟨HK3.out.os, HK3.out.tape, HK3.out.output, HK3.out.size, fun k hk => HK3.out.block k (Nat.lt_of_lt_of_le hk HB.out.size)⟩) hk4); clear hv4 hk4))
      go_ret
      exact ⟨_, rfl, by show OwnI _ _ _ (Tr.ints (Tr.nearN l x)); rw [HN.out]; exact HV4.out, HB4.out⟩

set_option maxRecDepth 100000 in
set_option maxHeartbeats 4000000 in
theorem next_any' {A : Option Addr} {n c : Nat} {l : List Int} {w : World} (h : Ri w A n l) (hn : n ≤ 1000) (a b : Int) :
    Calls Try.prog 11 #[.slice A n c, .int .i64 a, .int .i64 b] w fun e w' => e = .returned (.int .i64 (Tr.next l a b)) ∧ Below w.heap.size w w' := by
  obtain rfl := h.1.symm
  have HA := Lib.hid h
  have HK := Lib.hid (has_any (c := c) (d := 2) (h.later (new_below w (.cells #[.int .i64 a, .int .i64 b] 3))) (ri_two w a b) hn (by omega))
  clear h
  unfold Tr.next
  cases hh : Tr.has l [a, b]
  · rw [hh] at HK
    rw [if_neg (by simp)]
    go_enter Try.func11, Try.ntmps11
    go_wp2_with (first | (go_at_call 29; refine HK.out.mono ?_; rintro e w' ⟨rfl, rfl⟩))
    go_ret
    exact ⟨rfl, new_below w _⟩
  · obtain ⟨x, y, rfl, rfl, hx, hy⟩ := has_two hh
    have HR := Lib.hid (Tr.has_right hh)
    rw [hh] at HK
    clear hh
    by_cases hxy : x = y
    · subst hxy
      rw [if_neg (by simp)]
      go_enter Try.func11, Try.ntmps11
      go_wp2_with (first | (go_at_call 29; refine HK.out.mono ?_; rintro e w' ⟨rfl, rfl⟩))
      go_ret
      exact ⟨rfl, new_below w _⟩
    · have hne : ¬ (x : Int) = (y : Int) := by omega
      rw [if_pos ⟨rfl, hne⟩]
      go_enter Try.func11, Try.ntmps11
      go_wp2_with (first | (go_at_call 29; refine HK.out.mono ?_; rintro e w' ⟨rfl, rfl⟩) | (go_at_call 31; refine (step_any (HA.out.later (new_below w _)) HR.out x y hx hy hxy).mono ?_; rintro e w' ⟨rfl, rfl⟩))
      go_ret
      exact ⟨rfl, new_below w _⟩

set_option maxRecDepth 100000 in
set_option maxHeartbeats 4000000 in
theorem dist_any {A : Option Addr} {n c : Nat} {l : List Int} {w : World} (h : Ri w A n l) (hn : n ≤ 1000) (a b : Int) :
    Calls Try.prog 13 #[.slice A n c, .int .i64 a, .int .i64 b] w fun e w' => e = .returned (.int .i64 (Tr.dists l a b)) ∧ Below w.heap.size w w' := by
  obtain rfl := h.1.symm
  have HA := Lib.hid h
  have HK := Lib.hid (has_any (c := c) (d := 2) (h.later (new_below w (.cells #[.int .i64 a, .int .i64 b] 3))) (ri_two w a b) hn (by omega))
  clear h
  unfold Tr.dists
  cases hh : Tr.has l [a, b]
  · rw [hh] at HK
    rw [if_neg (by simp)]
    go_enter Try.func13, Try.ntmps13
    go_wp2_with (first | (go_at_call 29; refine HK.out.mono ?_; rintro e w' ⟨rfl, rfl⟩))
    go_ret
    exact ⟨rfl, new_below w _⟩
  · obtain ⟨x, y, rfl, rfl, hx, hy⟩ := has_two hh
    have HR := Lib.hid (Tr.has_right hh)
    rw [hh] at HK
    clear hh
    rw [if_pos rfl]
    go_enter Try.func13, Try.ntmps13
    go_wp2_with (first | (go_at_call 29; refine HK.out.mono ?_; rintro e w' ⟨rfl, rfl⟩) | (go_at_call 33; refine (links_any (HA.out.later (new_below w _)) HR.out x y hx hy).mono ?_; rintro e w' ⟨rfl, rfl⟩))
    go_ret
    exact ⟨rfl, new_below w _⟩

set_option maxRecDepth 100000 in
set_option maxHeartbeats 4000000 in
theorem side_any {A : Option Addr} {n c : Nat} {l : List Int} {w : World} (h : Ri w A n l) (hn : n ≤ 1000) (b t : Int) :
    Calls Try.prog 10 #[.slice A n c, .int .i64 b, .int .i64 t] w (RowPost w (Tr.side l b t)) := by
  obtain rfl := h.1.symm
  have HA := Lib.hid h
  have HK := Lib.hid (has_any (c := c) (d := 2) (h.later (new_below w (.cells #[.int .i64 b, .int .i64 t] 3))) (ri_two w b t) hn (by omega))
  clear h
  unfold Tr.side
  cases hh : Tr.has l [b, t]
  · rw [hh] at HK
    go_enter Try.func10, Try.ntmps10
    go_wp2_with fail
    refine HK.out.mono ?_
    rintro e w' ⟨rfl, rfl⟩
    go_wp2_with fail
    go_ret
    exact ⟨_, rfl, OwnI.nil _ (new_below w _).size, new_below w _⟩
  · obtain ⟨x, y, rfl, rfl, hx, hy⟩ := has_two hh
    have h7 := Tr.right_len (Tr.has_right hh)
    have HR := Lib.hid (Tr.has_right hh)
    rw [hh] at HK
    clear hh
    go_enter Try.func10, Try.ntmps10
    go_wp2_with fail
    refine HK.out.mono ?_
    rintro e w' ⟨rfl, rfl⟩
    clear HK
    go_wp2_with fail
    go_loopw [7, 18] (fun xv ii wr => ∃ k : Nat, k ≤ l.length + 1 ∧ ii = .int .i64 (k : Int) ∧ OwnI w.heap.size wr xv (Tr.ints (Tr.sideN l x y k)) ∧ Below w.heap.size w wr) (fun _ ii _ => l.length + 1 - (intOf ii).toNat)
    case atStart => exact ⟨0, by omega, rfl, OwnI.nil _ (new_below w _).size, new_below w _⟩
    case round =>
      obtain ⟨k, hk, rfl, hv, hB⟩ := hrel
      obtain ⟨A1, c1, rfl, -, -, -⟩ := hv.reads
      have hf : (Tr.sideN l x y k).length ≤ k := Tr.chosen_few _ _
      have HV := Lib.hid hv
      have HB := Lib.hid hB
      clear hv hB
      by_cases hlt : k < l.length + 1
      · by_cases he : k = x
        · have HE := Lib.hid (show Tr.sideN l x y (k + 1) = Tr.sideN l x y k from Tr.chosen_no (by simp [he]))
          subst he
          go_wp2_with fail
          exact ⟨⟨k + 1, by omega, by simp, by rw [HE.out]; exact HV.out, HB.out⟩, by simp [intOf]; omega⟩
        · have he2 : ((k : Int) != (x : Int)) = true := by simp; omega
          by_cases hs : Tr.step l x k = y
          · have hs2 : ((Tr.step l x k : Int) == (y : Int)) = true := by simp; omega
            have HE := Lib.hid (show Tr.sideN l x y (k + 1) = Tr.sideN l x y k ++ [k] from Tr.chosen_yes (by simp [he, hs]))
            clear hs
            go_wp2_with (first | (go_at_call 31; refine (step_any (HA.out.later HB.out) HR.out x k hx (by omega) (fun e => he e.symm)).mono ?_; rintro e w' ⟨rfl, rfl⟩) | (at_builtin; refine wpList_owni rfl _ _ rfl w.heap.size _ (Tr.ints (Tr.sideN l x y k)) rfl HV.out _ rfl (by rw [Tr.ints_len]; omega) ?_; intro v1 w1 hv1 hk1; have HV1 := Lib.hid hv1; have HK1 := Lib.hid hk1; clear hv1 hk1))
            exact ⟨⟨k + 1, by omega, by simp, by rw [HE.out, Tr.ints_append]; simpa [Tr.ints] using HV1.out, below_behind HB.out HK1.out⟩, by simp [intOf]; omega⟩
          · have hs2 : ((Tr.step l x k : Int) == (y : Int)) = false := by rw [beq_eq_false_iff_ne]; omega
            have HE := Lib.hid (show Tr.sideN l x y (k + 1) = Tr.sideN l x y k from Tr.chosen_no (by simp [hs]))
            go_wp2_with (first | (go_at_call 31; refine (step_any (HA.out.later HB.out) HR.out x k hx (by omega) (fun e => he e.symm)).mono ?_; rintro e w' ⟨rfl, rfl⟩))
            exact ⟨⟨k + 1, by omega, by simp, by rw [HE.out]; exact HV.out, HB.out⟩, by simp [intOf]; omega⟩
      · obtain rfl : k = l.length + 1 := by omega
        go_wp2_with fail
        go_ret
        exact ⟨_, rfl, HV.out, HB.out⟩

set_option maxRecDepth 100000 in
set_option maxHeartbeats 4000000 in
theorem place_any {A B : Option Addr} {n c m d : Nat} {l q : List Int} {w : World} (h : Ri w A n l) (hq : Ri w B m q) (hn : n ≤ 1000) (hm : m ≤ 1000) :
    Calls Try.prog 12 #[.slice A n c, .slice B m d] w fun e w' => e = .returned (.int .i64 (Tr.place l q)) ∧ w = w' := by
  obtain rfl := h.1.symm
  obtain rfl := hq.1.symm
  have HA := Lib.hid h
  have HB := Lib.hid hq
  have HK := Lib.hid (has_any (c := c) (d := d) h hq hn hm)
  clear h hq
  unfold Tr.place
  by_cases h0 : q.length = 0
  · have e0 : q = [] := List.eq_nil_of_length_eq_zero h0
    rw [if_neg (by simp [e0])]
    have h0' : (q.length : Int) = 0 := by omega
    have HQ := Lib.hid (show (q.length : Int) = 0 by omega)
    subst e0
    clear h0 h0' HQ
    go_enter Try.func12, Try.ntmps12
    go_wp2_with fail
    go_ret
    exact ⟨rfl, rfl⟩
  have h0' : ((q.length : Int) == 0) = false := by rw [beq_eq_false_iff_ne]; omega
  have hne : q ≠ [] := fun e => h0 (by rw [e]; rfl)
  cases hh : Tr.has l q
  · rw [hh] at HK
    rw [if_neg (by simp)]
    go_enter Try.func12, Try.ntmps12
    go_wp2_with (first | (go_at_call 29; refine HK.out.mono ?_; rintro e w' ⟨rfl, rfl⟩))
    go_ret
    exact ⟨rfl, rfl⟩
  · have HH := Lib.hid hh
    have h7 := Tr.right_len (Tr.has_right hh)
    rw [hh] at HK
    rw [if_pos ⟨rfl, hne⟩]
    clear hh hne h0
    go_enter Try.func12, Try.ntmps12
    go_wp2_with (first | (go_at_call 29; refine HK.out.mono ?_; rintro e w' ⟨rfl, rfl⟩) | (go_at_call 32; refine (far_any (b := 0) HA.out HB.out (by omega) HH.out (by omega)).mono ?_; rintro e w' ⟨rfl, rfl⟩))
    clear h0'
    go_loopw [5, 6, 7] (fun xp xl ii wr => ∃ k : Nat, k ≤ l.length ∧ ii = .int .i64 ((k + 1 : Nat) : Int) ∧ xp = .int .i64 (Tr.least (fun b => Tr.far l b q) k : Int) ∧ xl = .int .i64 (Tr.far l (Tr.least (fun b => Tr.far l b q) k) q : Int) ∧ w = wr) (fun _ _ ii _ => l.length + 1 - (intOf ii).toNat)
    case atStart => exact ⟨0, by omega, rfl, rfl, rfl, rfl⟩
    case round =>
      obtain ⟨k, hk, rfl, rfl, rfl, rfl⟩ := hrel
      by_cases hlt : k < l.length
      · by_cases hs : Tr.far l (k + 1) q < Tr.far l (Tr.least (fun b => Tr.far l b q) k) q
        · have HE := Lib.hid (show Tr.least (fun b => Tr.far l b q) (k + 1) = k + 1 by rw [Tr.least, if_pos hs])
          have hs2 : (Tr.far l (k + 1) q : Int) < (Tr.far l (Tr.least (fun b => Tr.far l b q) k) q : Int) := by omega
          clear hs
          go_wp2_with (first | (go_at_call 32; refine (far_any (b := k + 1) HA.out HB.out (by omega) HH.out (by omega)).mono ?_; rintro e w' ⟨rfl, rfl⟩))
          exact ⟨⟨k + 1, by omega, by simp, by rw [HE.out]; simp, by rw [HE.out], trivial⟩, by simp [intOf]; omega⟩
        · have HE := Lib.hid (show Tr.least (fun b => Tr.far l b q) (k + 1) = Tr.least (fun b => Tr.far l b q) k by rw [Tr.least, if_neg hs])
          have hs2 : ¬ (Tr.far l (k + 1) q : Int) < (Tr.far l (Tr.least (fun b => Tr.far l b q) k) q : Int) := by omega
          clear hs
          go_wp2_with (first | (go_at_call 32; refine (far_any (b := k + 1) HA.out HB.out (by omega) HH.out (by omega)).mono ?_; rintro e w' ⟨rfl, rfl⟩))
          exact ⟨⟨k + 1, by omega, by simp, by rw [HE.out], by rw [HE.out], trivial⟩, by simp [intOf]; omega⟩
      · obtain rfl : k = l.length := by omega
        go_wp2_with fail
        go_ret
        exact ⟨rfl, rfl⟩
end Go.Proofs.Ytmibjmceghikdaa
