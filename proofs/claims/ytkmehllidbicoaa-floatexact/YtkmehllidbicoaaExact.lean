/- FloatExact: the walk. -/
import Derived.Test.YtkmehllidbicoaaNear
import Derived.Test.YtkmehllidbicoaaKnown
namespace Go.Proofs.Ytkmehllidbicoaa
open Go.RowKit

theorem sub_run (x y r : Nat) (h : floatBits .sub .f64 x y = some r) (w : World) : (binOp .sub 22 (.float .f64 x) (.float .f64 y)).run Try.prog w = .ok (.float .f64 r) w := run_float_arith w .sub 22 .f64 x y r h

/-- How n stands to y, in the words of the statement's tail. -/
inductive Ways (n : Int) (y : Nat) : Prop where
  | above (h : FloatKind.f64.format.order y 4890909195324358656 = some .gt ∨ FloatKind.f64.format.order y 4890909195324358656 = some .eq) (hc : Fl.cmpInt n y = -1)
  | below (h1 : FloatKind.f64.format.order y 4890909195324358656 = some .lt) (h2 : FloatKind.f64.format.order y 14114281232179134464 = some .lt) (hc : Fl.cmpInt n y = 1)
  | mid (h1 : FloatKind.f64.format.order y 4890909195324358656 = some .lt) (h2 : FloatKind.f64.format.order y 14114281232179134464 = some .gt ∨ FloatKind.f64.format.order y 14114281232179134464 = some .eq)
      (hr : Fl.rung y < Fl.inf) (q : Int) (hq : ∀ w : World, (convert 22 2 (.float .f64 (Fl.flo y))).run Try.prog w = .ok (.int .i64 q) w)
      (r : Nat) (hs : ∀ w : World, (binOp .sub 22 (.float .f64 y) (.float .f64 (Fl.flo y))).run Try.prog w = .ok (.float .f64 r) w)
      (hc : (q < n ∧ Fl.cmpInt n y = 1) ∨ (n = q ∧ (FloatKind.f64.format.order r 0 == some .eq) = true ∧ Fl.cmpInt n y = 0) ∨ (n = q ∧ (FloatKind.f64.format.order r 0 == some .eq) = false ∧ Fl.cmpInt n y = -1) ∨ (n < q ∧ Fl.cmpInt n y = -1))

theorem ways (n : Int) (y : Nat) (hn1 : -9223372036854775808 ≤ n) (hn2 : n ≤ 9223372036854775807) (hn : Fl.nan y = false) : Ways n y := by
  have hk := Fl.cmpInt_num (n := n) hn
  rcases Fl.cases3 hn with ⟨h1, hz⟩ | ⟨h1, h2, hz⟩ | ⟨h1, h2, hf⟩
  · exact .above h1 (by rw [hk]; exact Fl.sgn_lt (Fl.mul_lt_of Fl.UI (Int.lt_add_one_of_le hn2) hz))
  · exact .below h1 h2 (by rw [hk]; exact Fl.sgn_gt (Fl.mul_gt_of' Fl.UI hn1 hz))
  · obtain ⟨_, hfn, hfz, _⟩ := Fl.flo_spec hf
    have hrl := (Fl.fits_K hf).1
    obtain ⟨c, k, e, hF, hcc⟩ := Fl.flo_is hrl
    have hfl : Fl.rung (Fl.flo y) < Fl.inf := by
      rw [e]; exact (Fl.whole_spec (Fl.neg y) c k (Fl.floMag y) hF hcc (Fl.floMag_le (Fl.fits_K hf).2)).2.1
    obtain ⟨b1, b2⟩ := Fl.floor_bounds (Fl.Z y)
    obtain ⟨r, hr1, hr2, hr3⟩ := Fl.sub_zero hrl hfl
    have ho := Fl.ord_zero hr2
    rw [hr3] at ho
    refine .mid h1 h2 hrl _ (toint_run _ _ (Fl.flo_int hf)) r (sub_run _ _ _ hr1) ?_
    rw [ho, hk]
    rcases Int.lt_trichotomy n (Fl.Z y / (Fl.U : Int)) with h | h | h
    · exact .inr (.inr (.inr ⟨h, Fl.sgn_lt (Fl.mul_lt_of Fl.UI h b1)⟩))
    · by_cases hq : Fl.Z y = Fl.Z (Fl.flo y)
      · exact .inr (.inl ⟨h, decide_eq_true hq, Fl.sgn_eq (by rw [h, ← hfz]; exact hq.symm)⟩)
      · refine .inr (.inr (.inl ⟨h, decide_eq_false hq, Fl.sgn_lt ?_⟩))
        rw [h]
        rw [hfz] at hq
        generalize Fl.Z y / (Fl.U : Int) * (Fl.U : Int) = t at b1 hq ⊢
        omega
    · exact .inl ⟨h, Fl.sgn_gt (Fl.mul_gt_of Fl.UI h b2)⟩

set_option maxHeartbeats 4000000 in
theorem exact_walk (n by' : Int) (h1 : -9223372036854775808 ≤ n) (h2 : n ≤ 9223372036854775807) (w : World) :
    Calls Try.prog 5 #[.int .i64 n, .int .i64 by'] w fun e w' => e = .returned (.bool true) ∧ w = w' := by
  obtain ⟨z1, z2⟩ : Fl.nan (floatOfInt .f64 n) = false ∧ floatOfInt .f64 n < 2 ^ 64 := Fl.nearest_num _ _ _
  have hcv := fun w => run_convert_int_float (P := Try.prog) w 2 22 .i64 .f64 n (by rw [Try.underlying2]; rfl) Try.underlying22
  have hp0 := Int.emod_nonneg by' (show (3 : Int) ≠ 0 by omega)
  have hp1 := Int.emod_lt_of_pos by' (show (0 : Int) < 3 by omega)
  have hpick := pick_any by' 3 (by omega) (by omega)
  generalize by' % 3 = m at hp0 hp1 hpick
  generalize floatOfInt .f64 n = x at z1 z2 hcv
  have hm : m = 0 ∨ m = 1 ∨ m = 2 := by omega
  clear hp0 hp1
  have tail : ∀ y, Fl.nan y = false → Ways n y := fun y hy => ways n y h1 h2 hy
  have T := Lib.hid tail
  clear tail
  go_enter Try.func5, Try.ntmps5
  rcases hm with rfl | rfl | rfl
  · go_wp2_with (go_at_call 24; refine (hpick _).mono ?_; rintro e w' ⟨rfl, rfl⟩)
    obtain ⟨y, rfl⟩ : ∃ y, y = x := ⟨x, rfl⟩
    have hy := z1
    clear z1
    clear hcv hpick z2
    have W := T.out y hy
    clear T
    refine (cmpint_any n y h1 h2 _).mono ?_
    rintro e w' ⟨rfl, rfl⟩
    rcases W with ⟨h, hc⟩ | ⟨g1, g2, hc⟩ | ⟨g1, g2, hr, q, hq, r, hs, hc⟩
    · rcases h with h | h
      all_goals
        go_wp2_with (go_at_call 22; refine (known_any _).mono ?_; rintro e w' ⟨rfl, rfl⟩)
        go_ret
        exact ⟨rfl, rfl⟩
    · go_wp2_with (go_at_call 22; refine (known_any _).mono ?_; rintro e w' ⟨rfl, rfl⟩)
      go_ret
      exact ⟨rfl, rfl⟩
    · rcases g2 with g2 | g2
      all_goals
        rcases hc with ⟨hl, hc⟩ | ⟨rfl, ho, hc⟩ | ⟨rfl, ho, hc⟩ | ⟨hl, hc⟩
        all_goals
          go_wp2_with (first | (go_at_call 22; refine (known_any _).mono ?_; rintro e w' ⟨rfl, rfl⟩) | (go_at_call 26; refine (floor_any _ hr _).mono ?_; rintro e w' ⟨rfl, rfl⟩))
          go_ret
          exact ⟨rfl, rfl⟩
  · go_wp2_with (first | (go_at_call 24; refine (hpick _).mono ?_; rintro e w' ⟨rfl, rfl⟩) | (go_at_call 9; refine (inf_up _).mono ?_; rintro e w' ⟨rfl, rfl⟩) | (go_at_call 25; refine (nextafter_up x z2 z1 _).mono ?_; rintro e w' ⟨y, hy1, hy, rfl, rfl⟩))
    clear hcv hpick z2 z1 hy1
    have W := T.out y hy
    clear T
    refine (cmpint_any n y h1 h2 _).mono ?_
    rintro e w' ⟨rfl, rfl⟩
    rcases W with ⟨h, hc⟩ | ⟨g1, g2, hc⟩ | ⟨g1, g2, hr, q, hq, r, hs, hc⟩
    · rcases h with h | h
      all_goals
        go_wp2_with (go_at_call 22; refine (known_any _).mono ?_; rintro e w' ⟨rfl, rfl⟩)
        go_ret
        exact ⟨rfl, rfl⟩
    · go_wp2_with (go_at_call 22; refine (known_any _).mono ?_; rintro e w' ⟨rfl, rfl⟩)
      go_ret
      exact ⟨rfl, rfl⟩
    · rcases g2 with g2 | g2
      all_goals
        rcases hc with ⟨hl, hc⟩ | ⟨rfl, ho, hc⟩ | ⟨rfl, ho, hc⟩ | ⟨hl, hc⟩
        all_goals
          go_wp2_with (first | (go_at_call 22; refine (known_any _).mono ?_; rintro e w' ⟨rfl, rfl⟩) | (go_at_call 26; refine (floor_any _ hr _).mono ?_; rintro e w' ⟨rfl, rfl⟩))
          go_ret
          exact ⟨rfl, rfl⟩
  · go_wp2_with (first | (go_at_call 24; refine (hpick _).mono ?_; rintro e w' ⟨rfl, rfl⟩) | (go_at_call 9; refine (inf_down _).mono ?_; rintro e w' ⟨rfl, rfl⟩) | (go_at_call 25; refine (nextafter_down x z2 z1 _).mono ?_; rintro e w' ⟨y, hy1, hy, rfl, rfl⟩))
    clear hcv hpick z2 z1 hy1
    have W := T.out y hy
    clear T
    refine (cmpint_any n y h1 h2 _).mono ?_
    rintro e w' ⟨rfl, rfl⟩
    rcases W with ⟨h, hc⟩ | ⟨g1, g2, hc⟩ | ⟨g1, g2, hr, q, hq, r, hs, hc⟩
    · rcases h with h | h
      all_goals
        go_wp2_with (go_at_call 22; refine (known_any _).mono ?_; rintro e w' ⟨rfl, rfl⟩)
        go_ret
        exact ⟨rfl, rfl⟩
    · go_wp2_with (go_at_call 22; refine (known_any _).mono ?_; rintro e w' ⟨rfl, rfl⟩)
      go_ret
      exact ⟨rfl, rfl⟩
    · rcases g2 with g2 | g2
      all_goals
        rcases hc with ⟨hl, hc⟩ | ⟨rfl, ho, hc⟩ | ⟨rfl, ho, hc⟩ | ⟨hl, hc⟩
        all_goals
          go_wp2_with (first | (go_at_call 22; refine (known_any _).mono ?_; rintro e w' ⟨rfl, rfl⟩) | (go_at_call 26; refine (floor_any _ hr _).mono ?_; rintro e w' ⟨rfl, rfl⟩))
          go_ret
          exact ⟨rfl, rfl⟩

theorem exact_below (w : World) (n : Int) (wn : (Lit.int .i64 n).wf = true) (by' : Int) (_ : (Lit.int .i64 by').wf = true) :
    Calls Try.prog 5 #[.int .i64 n, .int .i64 by'] w fun e w' => e = .returned (.bool true) ∧ Below w.heap.size w w' := by
  have hn : -9223372036854775808 ≤ n ∧ n ≤ 9223372036854775807 := by
    simp only [Lit.wf, decide_eq_true_eq, Bool.and_eq_true] at wn
    exact wn
  exact (exact_walk n by' hn.1 hn.2 w).mono fun _ _ ⟨he, hw⟩ => ⟨he, hw ▸ Below.refl _ _⟩

end Go.Proofs.Ytkmehllidbicoaa
