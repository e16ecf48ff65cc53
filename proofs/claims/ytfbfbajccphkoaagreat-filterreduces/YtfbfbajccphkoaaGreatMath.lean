
/- Closed calls of package math: NaN, Inf, Copysign; and Feed.Float. -/
import Derived.Test.YtfbfbajccphkoaaGreatFloat
import Derived.Test.YtfbfbajccphkoaaGreatHand
import Derived.Deep.RegionWith
namespace Go.Proofs.YtfbfbajccphkoaaGreat
open Go.RowKit

theorem nan_any (w : World) : Calls Tryz.prog 75 #[] w fun e w' => e = .returned (.float .f64 9221120237041090561) ∧ w = w' := by
  have hf := frombits_run 9221120237041090561
  go_enter Tryz.func75, Tryz.ntmps75
  go_wp2
  go_ret
  exact ⟨rfl, rfl⟩
theorem inf_up (w : World) : Calls Tryz.prog 76 #[.int .i64 1] w fun e w' => e = .returned (.float .f64 9218868437227405312) ∧ w = w' := by
  have hf := frombits_run 9218868437227405312
  go_enter Tryz.func76, Tryz.ntmps76
  go_wp2
  go_ret
  exact ⟨rfl, rfl⟩
theorem inf_down (w : World) : Calls Tryz.prog 76 #[.int .i64 (-1)] w fun e w' => e = .returned (.float .f64 18442240474082181120) ∧ w = w' := by
  have hf := frombits_run 18442240474082181120
  go_enter Tryz.func76, Tryz.ntmps76
  go_wp2
  go_ret
  exact ⟨rfl, rfl⟩
/-- -0. -/
theorem copysign_zero (w : World) : Calls Tryz.prog 74 #[.float .f64 0, .float .f64 13830554455654793216] w fun e w' => e = .returned (.float .f64 9223372036854775808) ∧ w = w' := by
  have h1 := tobits_run 0
  have h2 := tobits_run 13830554455654793216
  have hf := frombits_run 9223372036854775808
  have b1 : bits BinOp.andNot IntKind.u64 0 9223372036854775808 = 0 := by decide
  have b2 : bits BinOp.and IntKind.u64 13830554455654793216 9223372036854775808 = 9223372036854775808 := by decide
  have b3 : bits BinOp.or IntKind.u64 0 9223372036854775808 = 9223372036854775808 := by decide
  go_enter Tryz.func74, Tryz.ntmps74
  go_wp2
  go_ret
  exact ⟨rfl, rfl⟩

/-- A float is one cell. -/
theorem store_float (a : Addr) (x : Nat) (w : World) : (store a (.float .f64 x)).run Tryz.prog w = stored Tryz.prog w a (.float .f64 x) .plain := run_store Tryz.prog w a _ .plain rfl

/-- What Feed.Float tells: some float. -/
def FloatPost (B b a : Nat) (w : World) (e : Ending) (w' : World) : Prop :=
  ∃ x : Nat, x < 2 ^ 64 ∧ e = .returned (.float .f64 x) ∧ IsFeed B w' b (a + 1) ∧ Kept (· = b) w w'

theorem feedfloat_any {B b a : Nat} (w : World) (ha : a < 4611686018427387904) (hf : IsFeed B w b a) :
    Calls Tryz.prog 48 #[.pointer (some ⟨b, 0, none⟩)] w (FloatPost B b a w) := by
  have hlt := hf.lt
  have HF := Lib.hid hf
  clear hf
  have hst := store_float
  go_enter Tryz.func48, Tryz.ntmps48
  go_wp2_with (first | (go_at_call 75; refine (nan_any _).mono ?_; rintro e w' ⟨rfl, rfl⟩) | (go_at_call 74; refine (copysign_zero _).mono ?_; rintro e w' ⟨rfl, rfl⟩) | (go_at_call_of 76 (Value.int .i64 1); refine (inf_up _).mono ?_; rintro e w' ⟨rfl, rfl⟩))
  refine (inf_down _).mono ?_
  rintro e w' ⟨rfl, rfl⟩
  go_wp2_with fail
  refine (next_any 14 (by omega) (by omega) _ ha (B := B) ?_).mono ?_
  · exact HF.out.below ((Below.refl _ _).alloc (Nat.le_refl _) _)
  rintro e w' ⟨k, hk, rfl, hF, hK, hs⟩
  have hK2 : Kept (· = b) w w' := (Kept.alloc _ w _).then hK
  obtain ⟨x, hx, hcell⟩ : ∃ x : Nat, x < 2 ^ 64 ∧ w'.cell? ⟨w.heap.size, k, none⟩ = some (.float .f64 x) := by
    have hc := hK.cell (p := ⟨w.heap.size, k, none⟩) (by simp) (by show ¬ w.heap.size = b; omega)
    rw [World.cell?_alloc_new] at hc
    have : k < 14 := by omega
    match k, this with
    | 0, _ | 1, _ | 2, _ | 3, _ | 4, _ | 5, _ | 6, _ | 7, _ | 8, _ | 9, _ | 10, _ | 11, _ | 12, _ | 13, _ => exact ⟨_, by decide, hc⟩
  have HF2 := Lib.hid hF
  have HK2 := Lib.hid hK2
  clear hF hK hK2 hs hst HF
  have hk0 : k < 14 := by omega
  go_wp2_with fail
  go_ret
  exact ⟨x, hx, rfl, HF2.out, HK2.out⟩

end Go.Proofs.YtfbfbajccphkoaaGreat
