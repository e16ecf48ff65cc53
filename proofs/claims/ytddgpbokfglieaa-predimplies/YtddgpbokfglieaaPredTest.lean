
/- Tests that the statements make: law6.test. -/
import Derived.Test.YtddgpbokfglieaaPrd5
namespace Go.Proofs.Ytddgpbokfglieaa
open Go.RowKit
set_option linter.unusedVariables false

abbrev Pd.test (t : Int) (v : Val) : Prd := ⟨⟨#[97]⟩, t, v, ⟨0, 0, 0, ⟨#[]⟩, false⟩, []⟩
set_option maxHeartbeats 8000000 in
theorem test_any (t : Int) (v : Val) (w : World) : Calls Try.prog 12 #[.int .i64 t, vlv v] w fun e w' => e = .returned (pv (Pd.test t v) none 0 0) ∧ Below w.heap.size w w' := by
  have hst := store_float
  go_enter Try.func12, Try.ntmps12
  go_wp2_with fail
  refine bodyPost_ret (results_cell_row rfl _ _ _ _ _ _ _ rfl (alloc2_new _ _ _) Try.underlying30 rfl (by kernel_rfl)) rfl ?_
  exact ⟨rfl, two_new _ _ _⟩
theorem test_l {t : Int} {v : Val} {W : World} {x : Later W} : Calls Try.prog 12 #[.int .i64 t, vlv v] x.at_ fun e w' => e = .returned (pv (Pd.test t v) none 0 0) ∧ ∃ y : Later W, w' = y.at_ := calls_later (test_any t v _)
theorem test5 {t k n : Int} {x : Nat} {s : ByteArray} {b : Bool} {W : World} {y : Later W} : Calls Try.prog 12 #[.int .i64 t, .agg #[.int .i64 k, .int .i64 n, .float .f64 x, .string s, .bool b]] y.at_ fun e w' => e = .returned (.agg #[.string ⟨#[97]⟩, .int .i64 t, .int .i64 k, .int .i64 n, .float .f64 x, .string s, .bool b, .int .i64 0, .int .i64 0, .float .f64 0, .string ⟨#[]⟩, .bool false, .slice none 0 0]) ∧ ∃ y : Later W, w' = y.at_ := test_l (v := ⟨k, n, x, s, b⟩)
theorem test_is {w : World} {t : Int} {v : Val} (h : Fit v) : IsPrd w (Pd.test t v) none 0 := ⟨(by decide : (⟨#[97]⟩ : ByteArray).size ≤ 9223372036854775807), h, Pd.fit0, Vs.nil _⟩
end Go.Proofs.Ytddgpbokfglieaa
