/- FloatKnown: the walk. -/
import Derived.Test.YtkmehllidbicoaaMath
namespace Go.Proofs.Ytkmehllidbicoaa
open Go.RowKit

theorem cmpint_at (n : Int) (x : Nat) (c : Int) (k : Bool) (h1 : -9223372036854775808 ≤ n) (h2 : n ≤ 9223372036854775807) (hc : Fl.cmpInt n x = c) (hk : (!Fl.nan x) = k) (w : World) :
    Calls Try.prog 11 #[.int .i64 n, .float .f64 x] w fun e w' => e = .returned (pairIB c k) ∧ w = w' := by
  subst hc; subst hk; exact cmpint_any n x h1 h2 w
theorem cmp_at (a b : Nat) (c : Int) (k : Bool) (hc : Fl.cmp a b = c) (hk : Fl.cmpOk a b = k) (w : World) :
    Calls Try.prog 12 #[.float .f64 a, .float .f64 b] w fun e w' => e = .returned (pairIB c k) ∧ w = w' := by
  subst hc; subst hk; exact cmp_any a b w
theorem of_at (b : Nat) (n : Int) (hn : n = (b : Int)) (x : Nat) (k : Bool) (hk : Fl.told b = k) (hx : (if Fl.told b then b else 0) = x) (w : World) :
    Calls Try.prog 13 #[.int .u64 n] w fun e w' => e = .returned (.tuple #[.float .f64 x, .bool k]) ∧ w = w' := by
  subst hn; subst hk; subst hx; exact of_any b w
theorem same_at (a b : Nat) (k : Bool) (hk : Fl.same a b = k) (w : World) :
    Calls Try.prog 14 #[.float .f64 a, .float .f64 b] w fun e w' => e = .returned (.bool k) ∧ w = w' := by
  subst hk; exact same_any a b w
theorem bits_at (a : Nat) (k : Int) (hk : (Fl.bits a : Int) = k) (w : World) :
    Calls Try.prog 15 #[.float .f64 a] w fun e w' => e = .returned (.int .u64 k) ∧ w = w' := by
  subst hk; exact bits_any a w

set_option maxRecDepth 100000 in
set_option maxHeartbeats 2000000 in
theorem known_walk (w : World) : Calls Try.prog 3 #[] w fun e w' => e = .returned (.bool true) ∧ w = w' := by
  have ho : (FloatKind.f64.format.order 9221120237041090560 9221120237041090560 != some Ordering.eq) = true := by kernel_rfl
  go_enter Try.func3, Try.ntmps3
  go_wp2_with fail
  refine (nan_any _).mono ?_
  rintro e w' ⟨rfl, rfl⟩
  go_wp2_with fail
  refine (inf_up _).mono ?_
  rintro e w' ⟨rfl, rfl⟩
  go_wp2_with fail
  refine (copysign_zero _).mono ?_
  rintro e w' ⟨rfl, rfl⟩
  go_wp2_with fail
  refine (cmpint_at _ _ 1 true (by omega) (by omega) (by kernel_rfl) (by kernel_rfl) _).mono ?_
  rintro e w' ⟨rfl, rfl⟩
  go_wp2_with fail
  refine (cmp_at _ _ 0 false (by kernel_rfl) (by kernel_rfl) _).mono ?_
  rintro e w' ⟨rfl, rfl⟩
  go_wp2_with fail
  refine (cmpint_at _ _ (-1) true (by omega) (by omega) (by kernel_rfl) (by kernel_rfl) _).mono ?_
  rintro e w' ⟨rfl, rfl⟩
  go_wp2_with fail
  refine (cmpint_at _ _ 0 true (by omega) (by omega) (by kernel_rfl) (by kernel_rfl) _).mono ?_
  rintro e w' ⟨rfl, rfl⟩
  go_wp2_with fail
  refine (cmp_at _ _ 0 true (by kernel_rfl) (by kernel_rfl) _).mono ?_
  rintro e w' ⟨rfl, rfl⟩
  go_wp2_with fail
  refine (cmpint_at _ _ 0 true (by omega) (by omega) (by kernel_rfl) (by kernel_rfl) _).mono ?_
  rintro e w' ⟨rfl, rfl⟩
  go_wp2_with fail
  refine (cmpint_at _ _ 1 true (by omega) (by omega) (by kernel_rfl) (by kernel_rfl) _).mono ?_
  rintro e w' ⟨rfl, rfl⟩
  go_wp2_with fail
  refine (of_at 9223372036854775808 _ (by kernel_rfl) 0 false (by kernel_rfl) (by kernel_rfl) _).mono ?_
  rintro e w' ⟨rfl, rfl⟩
  go_wp2_with fail
  refine (of_at 9221120237041090561 _ (by kernel_rfl) 0 false (by kernel_rfl) (by kernel_rfl) _).mono ?_
  rintro e w' ⟨rfl, rfl⟩
  go_wp2_with fail
  refine (of_at 9221120237041090560 _ (by kernel_rfl) 9221120237041090560 true (by kernel_rfl) (by kernel_rfl) _).mono ?_
  rintro e w' ⟨rfl, rfl⟩
  go_wp2_with fail
  refine (same_at _ _ true (by kernel_rfl) _).mono ?_
  rintro e w' ⟨rfl, rfl⟩
  go_wp2_with fail
  refine (same_at _ _ true (by kernel_rfl) _).mono ?_
  rintro e w' ⟨rfl, rfl⟩
  go_wp2_with fail
  refine (same_at _ _ false (by kernel_rfl) _).mono ?_
  rintro e w' ⟨rfl, rfl⟩
  go_wp2_with fail
  refine (bits_at _ 0 (by kernel_rfl) _).mono ?_
  rintro e w' ⟨rfl, rfl⟩
  go_wp2_with fail
  refine (bits_at _ 9221120237041090560 (by kernel_rfl) _).mono ?_
  rintro e w' ⟨rfl, rfl⟩
  go_wp2_with fail
  go_ret
  exact ⟨rfl, rfl⟩

theorem known_any (w : World) : Calls Try.prog 22 #[] w fun e w' => e = .returned (.bool true) ∧ w = w' := by
  go_enter Try.func22, Try.ntmps22
  go_wp2_with (go_at_call 3; refine (known_walk _).mono ?_; rintro e w' ⟨rfl, rfl⟩)
  go_ret
  exact ⟨rfl, rfl⟩

theorem known_below (w : World) : Calls Try.prog 3 #[] w fun e w' => e = .returned (.bool true) ∧ Below w.heap.size w w' :=
  (known_walk w).mono fun _ _ ⟨he, hw⟩ => ⟨he, hw ▸ Below.refl _ _⟩

end Go.Proofs.Ytkmehllidbicoaa
