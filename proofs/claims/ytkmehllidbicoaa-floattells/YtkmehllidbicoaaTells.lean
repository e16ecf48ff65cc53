/- FloatTells: the walk. -/
import Derived.Test.YtkmehllidbicoaaKnown
import Derived.Test.YtkmehllidbicoaaRef1
import Derived.Deep.DeepCutAuto
namespace Go.Proofs.Ytkmehllidbicoaa
open Go.RowKit

set_option maxRecDepth 100000 in
set_option maxHeartbeats 8000000 in
theorem tells_walk (a b : Nat) (n : Int) (bb : Nat) (A : Option Addr) (len cap : Nat) (h1 : -9223372036854775808 ≤ n) (h2 : n ≤ 9223372036854775807) (w : World) (hd : Draws w.heap.size w A len) :
    Calls Try.prog 4 #[.float .f64 a, .float .f64 b, .int .i64 n, .int .u64 bb, .slice A len cap] w fun e w' => e = .returned (.bool true) ∧ Below w.heap.size w w' := by
  have hF0 := Lib.hid (feed_new (cap := cap) hd 38)
  clear hd
  go_enter Try.func4, Try.ntmps4
  go_upto_region 2 with fail
  go_wp2_with fail
  refine (next_any 2 (by omega) (by omega) _ (by omega) hF0.out).mono ?_
  rintro e w1 ⟨k, hk, rfl, hF1, hK1, hs1⟩
  have HF1 := Lib.hid hF1
  have HK1 : Hid (Kept (· = w.heap.size) w w1) := (Kept.alloc (· = w.heap.size) w _).then hK1
  clear hF1 hK1 hF0 hs1
  have hk2 : k = 0 ∨ k = 1 := by omega
  clear hk
  go_upto_if 29 with fail
  go_cut [0, 1] (fun s0 s1 wx => ∃ a b : Nat, s0 = .float .f64 a ∧ s1 = .float .f64 b ∧ IsFeed w.heap.size wx w.heap.size 3 ∧ Kept (· = w.heap.size) w wx)
  case first =>
    rcases hk2 with rfl | rfl
    · go_wp2_with fail
      go_meet
      exact ⟨a, b, rfl, rfl, HF1.out.more (by omega), HK1.out⟩
    · go_wp2_with fail
      refine (feedfloat_any _ (by omega) HF1.out).mono ?_
      rintro e w2 ⟨x, hx, rfl, hF2, hK2⟩
      have HF2 := Lib.hid hF2
      have HK2 := Lib.hid (HK1.out.then hK2)
      clear hF2 hK2
      go_wp2_with fail
      refine (feedfloat_any _ (by omega) HF2.out).mono ?_
      rintro e w3 ⟨y, hy, rfl, hF3, hK3⟩
      have HF3 := Lib.hid hF3
      have HK3 := Lib.hid (HK2.out.then hK3)
      clear hF3 hK3 hx hy
      go_wp2_with fail
      go_meet
      exact ⟨x, y, rfl, rfl, HF3.out.more (by omega), HK3.out⟩
  case rest =>
    obtain ⟨x, y, rfl, rfl, hF, hK⟩ := hcut
    have HF2 := Lib.hid hF
    have HK2 := Lib.hid hK
    clear hF hK HF1 HK1 hk2
    go_wp2_with fail
    refine (next_any 3 (by omega) (by omega) _ (by omega) HF2.out).mono ?_
    rintro e w2 ⟨k, hk, rfl, hF3, hK3, hs3⟩
    have HF3 := Lib.hid hF3
    have HK3 := Lib.hid (HK2.out.then hK3)
    clear hF3 hK3 hs3 HF2 HK2
    have hcv := fun w => run_convert_int_float (P := Try.prog) w 2 22 .i64 .f64 n (by rw [Try.underlying2]; rfl) Try.underlying22
    go_upto_if 36 with fail
    go_cut [1] (fun s1 wx => ∃ b : Nat, s1 = .float .f64 b ∧ wx = w2)
    case first =>
      by_cases h0 : k = 0
      · subst h0
        go_wp2_with fail
        go_meet
        exact ⟨_, rfl, rfl⟩
      · have h0' : (k == 0) = false := by simpa using h0
        go_wp2_with fail
        go_meet
        exact ⟨_, rfl, rfl⟩
    case rest =>
      obtain ⟨y', rfl, rfl⟩ := hcut
      clear hk hcv
      go_wp2_with fail
      refine (next_any 3 (by omega) (by omega) _ (by omega) HF3.out).mono ?_
      rintro e w4 ⟨k4, hk4, rfl, hF4, hK4, hs4⟩
      have HK4 := Lib.hid (HK3.out.then hK4)
      clear hF4 hK4 hs4 HF3 HK3
      have ht := tobits_run x
      go_upto_if 41 with fail
      go_cut [3] (fun s3 wx => ∃ b : Nat, s3 = .int .u64 b ∧ wx = w4)
      case first =>
        by_cases h0 : k4 = 0
        · subst h0
          go_wp2_with fail
          go_meet
          exact ⟨_, rfl, rfl⟩
        · have h0' : (k4 == 0) = false := by simpa using h0
          go_wp2_with fail
          go_meet
          exact ⟨_, rfl, rfl⟩
      case rest =>
        obtain ⟨b', rfl, rfl⟩ := hcut
        clear hk4 ht
        have hB := HK4.out.below (Nat.le_refl _) (fun i hi e => by omega)
        have HB := Lib.hid hB
        clear hB HK4
        have hsc := Fl.same_cast x y'
        have ht1 := tobits_run (if Fl.told b' then b' else 0)
        go_wp2_with (first | (go_at_call 12; refine (cmp_any _ _ _).mono ?_; rintro e w' ⟨rfl, rfl⟩) | (go_at_call 11; refine (cmpint_any _ _ h1 h2 _).mono ?_; rintro e w' ⟨rfl, rfl⟩) | (go_at_call 15; refine (bits_any _ _).mono ?_; rintro e w' ⟨rfl, rfl⟩) | (go_at_call 13; refine (of_any _ _).mono ?_; rintro e w' ⟨rfl, rfl⟩) | (go_at_call 14; refine (same_any _ _ _).mono ?_; rintro e w' ⟨rfl, rfl⟩) | (go_at_call 22; refine (known_any _).mono ?_; rintro e w' ⟨rfl, rfl⟩) | (go_at_call 19; refine (rcmp_any _ _ _).mono ?_; rintro e w' ⟨rfl, rfl⟩) | (go_at_call 20; refine (rcmpint_any _ _ h1 h2 _).mono ?_; rintro e w' ⟨rfl, rfl⟩) | (go_at_call 23; refine (rbits_any _ _).mono ?_; rintro e w' ⟨rfl, rfl⟩) | (go_at_call 21; refine (rof_any _ _).mono ?_; rintro e w' ⟨rfl, rfl⟩))
        all_goals
          go_ret
          exact ⟨rfl, HB.out⟩

theorem tells_below (w : World) (a : Nat) (_ : (Lit.float .f64 a).wf = true) (b : Nat) (_ : (Lit.float .f64 b).wf = true) (n : Int) (wn : (Lit.int .i64 n).wf = true) (m : Int) (wm : (Lit.int .u64 m).wf = true) (A : Option Addr) (len cap : Nat) (zs : List Int) (hr : IsRow .i64 w A len cap zs) :
    Calls Try.prog 4 #[.float .f64 a, .float .f64 b, .int .i64 n, .int .u64 m, .slice A len cap] w fun e w' => e = .returned (.bool true) ∧ Below w.heap.size w w' := by
  have hn : -9223372036854775808 ≤ n ∧ n ≤ 9223372036854775807 := by
    simp only [Lit.wf, decide_eq_true_eq, Bool.and_eq_true] at wn
    exact wn
  have hm : 0 ≤ m := by
    simp only [Lit.wf, decide_eq_true_eq, Bool.and_eq_true] at wm
    exact wm.1
  obtain ⟨k, rfl⟩ := Int.eq_ofNat_of_zero_le hm
  exact tells_walk a b n k A len cap hn.1 hn.2 w hr.draws

end Go.Proofs.Ytkmehllidbicoaa
