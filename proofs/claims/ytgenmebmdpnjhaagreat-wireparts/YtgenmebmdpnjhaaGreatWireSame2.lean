
/- wire.Same: the contract, by the first part that is not alike. -/
import Derived.Test.YtgenmebmdpnjhaaGreatWireSame
namespace Go.Proofs.YtgenmebmdpnjhaaGreat
open Go.RowKit
set_option linter.unusedVariables false
set_option maxRecDepth 100000

set_option maxHeartbeats 16000000 in
theorem wsame_any {a b : Fr} {w : World} (ha : IsFr w a) (hb : IsFr w b) : Calls Tryz.prog 12 #[frv a, frv b] w fun e w' => e = .returned (.bool (Wr.same a b)) ∧ Below w.heap.size w w' := by
  have hr1 := first_of w (frbox a) (frbox b)
  have hr2 := new_second w (frbox a) (frbox b)
  have hbl := two_new w (frbox a) (frbox b)
  have HA := Lib.hid (ha.later hbl)
  have HB := Lib.hid (hb.later hbl)
  clear ha hb
  dsimp only [frbox] at hr1 hr2 hbl HA HB
  have hca := frbox_cells hr1
  have hcb := frbox_cells hr2
  have HCA := Lib.hid (later_cells hca)
  have HCB := Lib.hid (later_cells hcb)
  have HEA := Lib.hid (later_cells (cells_part hca (Nat.zero_add 6) (fr_ev a)))
  have HEB := Lib.hid (later_cells (cells_part hcb (Nat.zero_add 6) (fr_ev b)))
  have HSA := Lib.hid (later_cells (cells_part hca (Nat.zero_add 14) (fr_sb a)))
  have HSB := Lib.hid (later_cells (cells_part hcb (Nat.zero_add 14) (fr_sb b)))
  have c13 := fun x => later_cell (hca 13 _ rfl) x
  have c18 := fun x => later_cell (hca 18 _ rfl) x
  have d13 := fun x => later_cell (hcb 13 _ rfl) x
  have d18 := fun x => later_cell (hcb 18 _ rfl) x
  simp only [Nat.zero_add] at c13 c18 d13 d18
  have HBl := Lib.hid hbl
  clear hr1 hr2 hbl hca hcb
  have hq := eq_six a.k a.tb a.fm a.cl a.sq a.ep b.k b.tb b.fm b.cl b.sq b.ep
  go_enter Tryz.func12, Tryz.ntmps12
  go_upto_region 1 with fail
  generalize (w.alloc _).alloc _ = W at *
  have KP := Lib.hid (fun x : Later W => numbers_any a x.at_)
  have KQ := Lib.hid (fun x : Later W => numbers_any b x.at_)
  have KE := Lib.hid (fun x : Later W => sameevent_any (HA.out.e.later x.below) (HB.out.e.later x.below))
  have KS := Lib.hid (fun x : Later W => samesub_any (a := a.s) (b := b.s) (HA.out.s.later x.below) (HB.out.s.later x.below))
  have KL := Lib.hid (fun x : Later W => sbequal_any (c := a.c) (c' := b.c) (HA.out.l.later x.below) (HB.out.l.later x.below))
  have hw : Wr.same a b = (Wr.frints a b && (Wr.evsame a.e b.e && ((a.g == b.g) && (Wr.sbsame a.s b.s && Wr.sbssame a.l b.l)))) := rfl
  have HW := Lib.hid hw
  have hi : Wr.frints a b = ((a.k == b.k) && ((a.tb == b.tb) && ((a.fm == b.fm) && ((a.cl == b.cl) && ((a.sq == b.sq) && (a.ep == b.ep)))))) := rfl
  rw [← hi] at hq
  clear hw hi HA HB
  generalize Wr.frints a b = b1 at hq HW
  generalize Wr.evsame a.e b.e = b2 at KE HW
  generalize Wr.sbsame a.s b.s = b4 at KS HW
  generalize Wr.sbssame a.l b.l = b5 at KL HW
  haveI := later_some W
  have key : b1 = false ∨ (b1 = true ∧ b2 = false) ∨ (b1 = true ∧ b2 = true ∧ (a.g == b.g) = false) ∨ (b1 = true ∧ b2 = true ∧ (a.g == b.g) = true ∧ b4 = false) ∨ (b1 = true ∧ b2 = true ∧ (a.g == b.g) = true ∧ b4 = true) := by
    cases b1 <;> cases b2 <;> cases (a.g == b.g) <;> cases b4 <;> simp
  rcases key with rfl | ⟨rfl, rfl⟩ | ⟨rfl, rfl, h3⟩ | ⟨rfl, rfl, h3, rfl⟩ | ⟨rfl, rfl, h3, rfl⟩
  all_goals
    first | rw [h3] at HW | skip
    refine wp_region_later (W := W) (by kernel_rfl) (by kernel_rfl) (Below.refl _ _) ?_
    (go_big_quiet_want; refine quiet_load 38 _ rfl _ 0 a.cells _ rfl HCA.out Tryz.underlying38 rfl fr_size ?_; go_big_quiet_on; simp only [Act.put, List.setIfInBounds_toArray, List.set_cons_succ, List.set_cons_zero])
    go_big_quiet_step (first | (go_at_call 36; exact calls_later (KP.out _)))
    clear KP
    (go_big_quiet_want; refine quiet_load 38 _ rfl _ 0 b.cells _ rfl HCB.out Tryz.underlying38 rfl fr_size ?_; go_big_quiet_on; simp only [Act.put, List.setIfInBounds_toArray, List.set_cons_succ, List.set_cons_zero])
    repeat (first | go_big_quiet_step (first | (go_at_call 36; exact calls_later (KQ.out _)) | (go_at_call 37; exact calls_later (KE.out _)) | (go_at_call 38; exact calls_later (KS.out _)) | (go_at_call 39; exact calls_later (KL.out _))) | (go_big_quiet_want; refine quiet_load 30 _ rfl _ 6 a.e.cells _ rfl HEA.out Tryz.underlying30 rfl ev_size ?_; go_big_quiet_on; simp only [Act.put, List.setIfInBounds_toArray, List.set_cons_succ, List.set_cons_zero]) | (go_big_quiet_want; refine quiet_load 30 _ rfl _ 6 b.e.cells _ rfl HEB.out Tryz.underlying30 rfl ev_size ?_; go_big_quiet_on; simp only [Act.put, List.setIfInBounds_toArray, List.set_cons_succ, List.set_cons_zero]) | (go_big_quiet_want; refine quiet_load 33 _ rfl _ 14 a.s.cells _ rfl HSA.out Tryz.underlying33 rfl sb_size ?_; go_big_quiet_on; simp only [Act.put, List.setIfInBounds_toArray, List.set_cons_succ, List.set_cons_zero]) | (go_big_quiet_want; refine quiet_load 33 _ rfl _ 14 b.s.cells _ rfl HSB.out Tryz.underlying33 rfl sb_size ?_; go_big_quiet_on; simp only [Act.put, List.setIfInBounds_toArray, List.set_cons_succ, List.set_cons_zero]))
    refine wpQuiet_nil ?_
    rintro _ ⟨x, rfl⟩
    go_wp2_with fail
    go_ret
    exact ⟨by rw [HW.out]; rfl, below_then HBl.out x.below⟩
end Go.Proofs.YtgenmebmdpnjhaaGreat
