
/- Tests: what implies what: the contract of pred.Implies. -/
import Derived.Test.YtfbfbajccphkoaaGreatPrd4
namespace Go.Proofs.YtfbfbajccphkoaaGreat
open Go.RowKit
set_option linter.unusedVariables false

set_option maxRecDepth 100000 in
theorem field_end (b o : Bool) (k n : Int) (x : Nat) (s : ByteArray) (t : Bool) (w : World) : (Instr.field 101 (.agg #[.bool b, .bool o, .int .i64 k, .int .i64 n, .float .f64 x, .string s, .bool t]) 0).run Tryz.prog w = .ok (.bool b) w := by kernel_rfl

set_option maxRecDepth 100000 in
set_option maxHeartbeats 8000000 in
theorem hasends_any (p : Prd) (A : Option Addr) (n c : Nat) (w : World) : Calls Tryz.prog 90 #[pv p A n c] w fun e w' => e = .returned (.bool (Pd.hasEnds p)) ∧ Below w.heap.size w w' := by
  obtain ⟨W, hW1, hW, hB⟩ := world_p w p A n c
  have HW := Lib.hid hW
  have HW1 := Lib.hid hW1
  have hL := fun w' => lower_any p A n c w'
  have hU := fun w' => upper_any p A n c w'
  clear hW hW1
  obtain ⟨c0, c1, c2, c3, c4, c5, c6, c7, c8, c9, c10, c11, c12⟩ := hB
  haveI := later_some W
  unfold Pd.hasEnds
  generalize Pd.lower p = lo at hL ⊢
  generalize Pd.upper p = hi at hU ⊢
  obtain ⟨lt, lop, la⟩ := lo
  obtain ⟨ht, hop, ha⟩ := hi
  dsimp only [ev] at hL hU ⊢
  have HL := Lib.hid hL
  have HU := Lib.hid hU
  clear hL hU
  have hfd := field_end
  go_enter Tryz.func90, Tryz.ntmps90
  go_wp2_with fail
  refine (calls_later (x := ⟨_, HW1.out⟩) (HL.out _)).mono ?_
  rintro e _ ⟨rfl, y, rfl⟩
  clear HW1
  cases lt
  · go_wp2_with fail
    refine (calls_later (HU.out _)).mono ?_
    rintro e _ ⟨rfl, y, rfl⟩
    go_wp2_with fail
    go_ret
    exact ⟨ret_bool (by simp), below_then HW.out (Later.below _)⟩
  · go_wp2_with fail
    go_ret
    exact ⟨ret_bool (by simp), below_then HW.out (Later.below _)⟩
theorem hasends_l {p : Prd} {A : Option Addr} {n c : Nat} {W : World} {x : Later W} : Calls Tryz.prog 90 #[pv p A n c] x.at_ fun e w' => e = .returned (.bool (Pd.hasEnds p)) ∧ ∃ y : Later W, w' = y.at_ := calls_later (hasends_any p A n c _)
theorem lower_l {p : Prd} {A : Option Addr} {n c : Nat} {W : World} {x : Later W} : Calls Tryz.prog 92 #[pv p A n c] x.at_ fun e w' => e = .returned (ev (Pd.lower p)) ∧ ∃ y : Later W, w' = y.at_ := calls_later (lower_any p A n c _)
theorem upper_l {p : Prd} {A : Option Addr} {n c : Nat} {W : World} {x : Later W} : Calls Tryz.prog 93 #[pv p A n c] x.at_ fun e w' => e = .returned (ev (Pd.upper p)) ∧ ∃ y : Later W, w' = y.at_ := calls_later (upper_any p A n c _)
theorem each_l {p : Prd} {A B : Option Addr} {n c m d : Nat} {l : List Val} {W : World} {x : Later W} (hp : IsPrd W p A n) (h : Vs W B m l) : Calls Tryz.prog 89 #[pv p A n c, .slice B m d] x.at_ fun e w' => e = .returned (.bool (Pd.each p l)) ∧ ∃ y : Later W, w' = y.at_ := calls_later (each_any (hp.later x.below) (h.later x.below))
theorem prei_l {p : Prd} {A : Option Addr} {n c : Nat} {v : Val} {W : World} {x : Later W} (h : IsPrd W p A n) (hv : Fit v) : Calls Tryz.prog 94 #[vlv v, pv p A n c] x.at_ fun e w' => e = .returned (.bool (Pd.preI v p)) ∧ ∃ y : Later W, w' = y.at_ := calls_later (prei_any (h.later x.below) hv)
theorem within_l {q p : En} (hq : Fit q.at_) (hp : Fit p.at_) {i : Int} {W : World} {x : Later W} : Calls Tryz.prog 91 #[ev q, ev p, .int .i64 i] x.at_ fun e w' => e = .returned (.bool (Pd.within q p i)) ∧ ∃ y : Later W, w' = y.at_ := calls_later (within_any hq hp i _)

end Go.Proofs.YtfbfbajccphkoaaGreat
