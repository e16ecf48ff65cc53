
/- wire.Right: the contract. -/
import Derived.Test.YtgenmebmdpnjhaaGreatWireRight2
namespace Go.Proofs.YtgenmebmdpnjhaaGreat
open Go.RowKit
set_option linter.unusedVariables false
set_option maxRecDepth 100000

/-- Nothing of an Event, of a Sub; a Frame of a part alone. -/
abbrev ev0 : Ev := ⟨0, 0, 0, 0, 0, none, 0, [], none, 0, []⟩
abbrev sb0 : Sb := ⟨0, 0, 0, ⟨none, 0, []⟩⟩
namespace Wr
abbrev onlyCh (f : Fr) : Fr := ⟨f.k, 0, 0, 0, 0, 0, ev0, f.g, f.s, none, 0, []⟩
abbrev onlyEp (f : Fr) : Fr := ⟨f.k, 0, 0, 0, 0, f.ep, ev0, false, sb0, none, 0, []⟩
abbrev onlyOp (f : Fr) : Fr := ⟨f.k, 0, 0, 0, 0, f.ep, ev0, false, sb0, f.A, f.c, f.l⟩
abbrev onlyRi (f : Fr) : Fr := ⟨f.k, f.tb, 0, 0, 0, 0, f.e, false, sb0, none, 0, []⟩
abbrev onlyFa (f : Fr) : Fr := ⟨f.k, 0, 0, 0, 0, 0, f.e, false, sb0, none, 0, []⟩
abbrev onlyPa (f : Fr) : Fr := ⟨f.k, f.tb, 0, f.cl, f.sq, 0, ev0, false, sb0, none, 0, []⟩
abbrev onlyDo (f : Fr) : Fr := ⟨f.k, f.tb, f.fm, f.cl, f.sq, 0, ev0, false, sb0, none, 0, []⟩
def right (f : Fr) : Bool :=
  if f.k = 1 then rightCh f.g f.s && same f (onlyCh f)
  else if f.k = 2 ∨ f.k = 3 then num f.ep && same f (onlyEp f)
  else if f.k = 4 then num f.ep && (rightSbs f.l && same f (onlyOp f))
  else if f.k = 5 then broker f.tb && (rightEv f.e && same f (onlyRi f))
  else if f.k = 6 then rightEv f.e && same f (onlyFa f)
  else if f.k = 7 then broker f.tb && (client f.cl && (cnt f.sq && same f (onlyPa f)))
  else if f.k = 8 then broker f.tb && (client f.cl && (cnt f.sq && (broker f.fm && same f (onlyDo f))))
  else false
theorem kinds (k : Int) : k = 1 ∨ k = 2 ∨ k = 3 ∨ k = 4 ∨ k = 5 ∨ k = 6 ∨ k = 7 ∨ k = 8 ∨ (¬ k = 1 ∧ ¬ k = 2 ∧ ¬ k = 3 ∧ ¬ k = 4 ∧ ¬ k = 5 ∧ ¬ k = 6 ∧ ¬ k = 7 ∧ ¬ k = 8) := by omega
end Wr
theorem ev0_is (w : World) : IsEv w ev0 := ⟨⟨Rs.nil _ _ _, by simp, by simp⟩, by simp, ⟨Rs.nil _ _ _, by simp⟩, fun _ => ⟨rfl, rfl⟩, fun _ => ⟨rfl, rfl⟩⟩
theorem ft0_is (w : World) : IsFt w ⟨none, 0, []⟩ := ⟨⟨Rs.nil _ _ _, by simp, by simp⟩, fun _ => ⟨rfl, rfl⟩⟩
theorem sbs0_is (w : World) : Sbs w none 0 [] := ⟨Rs.nil _ _ _, by simp, by simp⟩

set_option maxHeartbeats 16000000 in
theorem right_ch {f : Fr} {w : World} (h : IsFr w f) (hk : f.k = 1) : Calls Tryz.prog 10 #[frv f] w fun e w' => e = .returned (.bool (Wr.right f)) ∧ Below w.heap.size w w' := by
  have HR : Hid (Wr.right f = (Wr.rightCh f.g f.s && Wr.same f (Wr.onlyCh f))) := Lib.hid (by unfold Wr.right; rw [hk]; rfl)
  have hn := one_new w (frbox f)
  have hr := heap_alloc_new w (frbox f)
  have HF := Lib.hid (h.later hn)
  have HBl := Lib.hid hn
  have hca := frbox_cells hr
  have HCF := Lib.hid (later_cells hca)
  have HEF := Lib.hid (later_cells (cells_part hca (Nat.zero_add 6) (fr_ev f)))
  have HCH := Lib.hid (later_cells (cells_part hca (Nat.zero_add 13) (fr_ch f)))
  have c0 := fun x => later_cell (hca 0 _ rfl) x
  have c1 := fun x => later_cell (hca 1 _ rfl) x
  have c2 := fun x => later_cell (hca 2 _ rfl) x
  have c3 := fun x => later_cell (hca 3 _ rfl) x
  have c4 := fun x => later_cell (hca 4 _ rfl) x
  have c5 := fun x => later_cell (hca 5 _ rfl) x
  have c18 := fun x => later_cell (hca 18 _ rfl) x
  have k0 := (hca 0 _ rfl).trans (congrArg (fun z : Int => some (Value.int .i64 z)) hk)
  simp only [Nat.zero_add] at k0 c0 c1 c2 c3 c4 c5 c18
  clear h hn hr hca hk
  dsimp only [frbox] at HF HBl HCF HEF HCH c0 c1 c2 c3 c4 c5 c18 k0
  go_enter Tryz.func10, Tryz.ntmps10
  go_upto_region 3 with fail
  clear k0
  generalize w.alloc _ = W at *
  haveI := later_some W
  have HO : ∀ x : Later W, IsFr x.at_ (Wr.onlyCh f) := fun x => ⟨ev0_is _, HF.out.s.later x.below, sbs0_is _, fun _ => ⟨rfl, rfl⟩⟩
  have KW := Lib.hid (fun x : Later W => wsame_any (a := f) (b := Wr.onlyCh f) (HF.out.later x.below) (HO x))
  have KC := Lib.hid (fun x : Later W => rightchange_any (g := f.g) (s := f.s) (HF.out.s.later x.below))
  clear HO HF
  generalize Wr.same f (Wr.onlyCh f) = bs at KW HR
  dsimp only [frv, ev0, sb0] at KW
  cases H1 : Wr.rightCh f.g f.s
  · rw [H1] at HR KC
    refine wp_plain_later (W := W) (Below.refl _ _) ?_
    repeat (first | go_big_quiet_step (first | (go_at_call 25; exact calls_later (KC.out _))) | (go_big_quiet_want; refine quiet_load 38 _ rfl _ 0 f.cells _ rfl HCF.out Tryz.underlying38 rfl fr_size ?_; go_big_quiet_on; simp only [Act.put, List.setIfInBounds_toArray, List.set_cons_succ, List.set_cons_zero]) | (go_big_quiet_want; refine quiet_load 35 _ rfl _ 13 (chcells f.g f.s) _ rfl HCH.out Tryz.underlying35 rfl ch_size ?_; go_big_quiet_on; simp only [Act.put, List.setIfInBounds_toArray, List.set_cons_succ, List.set_cons_zero, chcells, Sb.cells]))
    refine wpQuiet_nil ?_
    rintro _ ⟨x, rfl⟩
    go_wp2_with fail
    go_ret
    exact ⟨by rw [HR.out]; rfl, below_then HBl.out x.below⟩
  rw [H1] at HR KC
  refine wp_plain_later (W := W) (Below.refl _ _) ?_
  repeat (first | go_big_quiet_step (first | (go_at_call 25; exact calls_later (KC.out _)) | (go_at_call 12; exact calls_later (KW.out _))) | (go_big_quiet_want; refine quiet_load 38 _ rfl _ 0 f.cells _ rfl HCF.out Tryz.underlying38 rfl fr_size ?_; go_big_quiet_on; simp only [Act.put, List.setIfInBounds_toArray, List.set_cons_succ, List.set_cons_zero]) | (go_big_quiet_want; refine quiet_load 35 _ rfl _ 13 (chcells f.g f.s) _ rfl HCH.out Tryz.underlying35 rfl ch_size ?_; go_big_quiet_on; simp only [Act.put, List.setIfInBounds_toArray, List.set_cons_succ, List.set_cons_zero, chcells, Sb.cells]))
  refine wpQuiet_nil ?_
  rintro _ ⟨x, rfl⟩
  go_wp2_with fail
  go_ret
  exact ⟨by rw [HR.out]; rfl, below_then HBl.out x.below⟩
set_option maxHeartbeats 16000000 in
theorem right_stop {f : Fr} {w : World} (h : IsFr w f) (hk : f.k = 2) : Calls Tryz.prog 10 #[frv f] w fun e w' => e = .returned (.bool (Wr.right f)) ∧ Below w.heap.size w w' := by
  have HR : Hid (Wr.right f = (Wr.num f.ep && Wr.same f (Wr.onlyEp f))) := Lib.hid (by unfold Wr.right; rw [hk]; rfl)
  have hn := one_new w (frbox f)
  have hr := heap_alloc_new w (frbox f)
  have HF := Lib.hid (h.later hn)
  have HBl := Lib.hid hn
  have hca := frbox_cells hr
  have HCF := Lib.hid (later_cells hca)
  have HEF := Lib.hid (later_cells (cells_part hca (Nat.zero_add 6) (fr_ev f)))
  have HCH := Lib.hid (later_cells (cells_part hca (Nat.zero_add 13) (fr_ch f)))
  have c0 := fun x => later_cell (hca 0 _ rfl) x
  have c1 := fun x => later_cell (hca 1 _ rfl) x
  have c2 := fun x => later_cell (hca 2 _ rfl) x
  have c3 := fun x => later_cell (hca 3 _ rfl) x
  have c4 := fun x => later_cell (hca 4 _ rfl) x
  have c5 := fun x => later_cell (hca 5 _ rfl) x
  have c18 := fun x => later_cell (hca 18 _ rfl) x
  have k0 := (hca 0 _ rfl).trans (congrArg (fun z : Int => some (Value.int .i64 z)) hk)
  simp only [Nat.zero_add] at k0 c0 c1 c2 c3 c4 c5 c18
  clear h hn hr hca hk
  dsimp only [frbox] at HF HBl HCF HEF HCH c0 c1 c2 c3 c4 c5 c18 k0
  go_enter Tryz.func10, Tryz.ntmps10
  go_upto_region 6 with fail
  clear k0
  generalize w.alloc _ = W at *
  haveI := later_some W
  have HO : ∀ x : Later W, IsFr x.at_ (Wr.onlyEp f) := fun x => ⟨ev0_is _, ft0_is _, sbs0_is _, fun _ => ⟨rfl, rfl⟩⟩
  have KW := Lib.hid (fun x : Later W => wsame_any (a := f) (b := Wr.onlyEp f) (HF.out.later x.below) (HO x))
  clear HO HF
  generalize Wr.same f (Wr.onlyEp f) = bs at KW HR
  dsimp only [frv, ev0, sb0] at KW
  cases H1 : Wr.num f.ep
  · rw [H1] at HR
    refine wp_plain_later (W := W) (Below.refl _ _) ?_
    repeat (first | go_big_quiet_step (first | (go_at_call 26; exact calls_later_same (isnum_at H1))) | (go_big_quiet_want; refine quiet_load 38 _ rfl _ 0 f.cells _ rfl HCF.out Tryz.underlying38 rfl fr_size ?_; go_big_quiet_on; simp only [Act.put, List.setIfInBounds_toArray, List.set_cons_succ, List.set_cons_zero]))
    refine wpQuiet_nil ?_
    rintro _ ⟨x, rfl⟩
    go_wp2_with fail
    go_ret
    exact ⟨by rw [HR.out]; rfl, below_then HBl.out x.below⟩
  rw [H1] at HR
  refine wp_plain_later (W := W) (Below.refl _ _) ?_
  repeat (first | go_big_quiet_step (first | (go_at_call 26; exact calls_later_same (isnum_at H1)) | (go_at_call 12; exact calls_later (KW.out _))) | (go_big_quiet_want; refine quiet_load 38 _ rfl _ 0 f.cells _ rfl HCF.out Tryz.underlying38 rfl fr_size ?_; go_big_quiet_on; simp only [Act.put, List.setIfInBounds_toArray, List.set_cons_succ, List.set_cons_zero]))
  refine wpQuiet_nil ?_
  rintro _ ⟨x, rfl⟩
  go_wp2_with fail
  go_ret
  exact ⟨by rw [HR.out]; rfl, below_then HBl.out x.below⟩
set_option maxHeartbeats 16000000 in
theorem right_quiet {f : Fr} {w : World} (h : IsFr w f) (hk : f.k = 3) : Calls Tryz.prog 10 #[frv f] w fun e w' => e = .returned (.bool (Wr.right f)) ∧ Below w.heap.size w w' := by
  have HR : Hid (Wr.right f = (Wr.num f.ep && Wr.same f (Wr.onlyEp f))) := Lib.hid (by unfold Wr.right; rw [hk]; rfl)
  have hn := one_new w (frbox f)
  have hr := heap_alloc_new w (frbox f)
  have HF := Lib.hid (h.later hn)
  have HBl := Lib.hid hn
  have hca := frbox_cells hr
  have HCF := Lib.hid (later_cells hca)
  have HEF := Lib.hid (later_cells (cells_part hca (Nat.zero_add 6) (fr_ev f)))
  have HCH := Lib.hid (later_cells (cells_part hca (Nat.zero_add 13) (fr_ch f)))
  have c0 := fun x => later_cell (hca 0 _ rfl) x
  have c1 := fun x => later_cell (hca 1 _ rfl) x
  have c2 := fun x => later_cell (hca 2 _ rfl) x
  have c3 := fun x => later_cell (hca 3 _ rfl) x
  have c4 := fun x => later_cell (hca 4 _ rfl) x
  have c5 := fun x => later_cell (hca 5 _ rfl) x
  have c18 := fun x => later_cell (hca 18 _ rfl) x
  have k0 := (hca 0 _ rfl).trans (congrArg (fun z : Int => some (Value.int .i64 z)) hk)
  simp only [Nat.zero_add] at k0 c0 c1 c2 c3 c4 c5 c18
  clear h hn hr hca hk
  dsimp only [frbox] at HF HBl HCF HEF HCH c0 c1 c2 c3 c4 c5 c18 k0
  go_enter Tryz.func10, Tryz.ntmps10
  go_upto_region 6 with fail
  clear k0
  generalize w.alloc _ = W at *
  haveI := later_some W
  have HO : ∀ x : Later W, IsFr x.at_ (Wr.onlyEp f) := fun x => ⟨ev0_is _, ft0_is _, sbs0_is _, fun _ => ⟨rfl, rfl⟩⟩
  have KW := Lib.hid (fun x : Later W => wsame_any (a := f) (b := Wr.onlyEp f) (HF.out.later x.below) (HO x))
  clear HO HF
  generalize Wr.same f (Wr.onlyEp f) = bs at KW HR
  dsimp only [frv, ev0, sb0] at KW
  cases H1 : Wr.num f.ep
  · rw [H1] at HR
    refine wp_plain_later (W := W) (Below.refl _ _) ?_
    repeat (first | go_big_quiet_step (first | (go_at_call 26; exact calls_later_same (isnum_at H1))) | (go_big_quiet_want; refine quiet_load 38 _ rfl _ 0 f.cells _ rfl HCF.out Tryz.underlying38 rfl fr_size ?_; go_big_quiet_on; simp only [Act.put, List.setIfInBounds_toArray, List.set_cons_succ, List.set_cons_zero]))
    refine wpQuiet_nil ?_
    rintro _ ⟨x, rfl⟩
    go_wp2_with fail
    go_ret
    exact ⟨by rw [HR.out]; rfl, below_then HBl.out x.below⟩
  rw [H1] at HR
  refine wp_plain_later (W := W) (Below.refl _ _) ?_
  repeat (first | go_big_quiet_step (first | (go_at_call 26; exact calls_later_same (isnum_at H1)) | (go_at_call 12; exact calls_later (KW.out _))) | (go_big_quiet_want; refine quiet_load 38 _ rfl _ 0 f.cells _ rfl HCF.out Tryz.underlying38 rfl fr_size ?_; go_big_quiet_on; simp only [Act.put, List.setIfInBounds_toArray, List.set_cons_succ, List.set_cons_zero]))
  refine wpQuiet_nil ?_
  rintro _ ⟨x, rfl⟩
  go_wp2_with fail
  go_ret
  exact ⟨by rw [HR.out]; rfl, below_then HBl.out x.below⟩
set_option maxHeartbeats 16000000 in
theorem right_open {f : Fr} {w : World} (h : IsFr w f) (hk : f.k = 4) : Calls Tryz.prog 10 #[frv f] w fun e w' => e = .returned (.bool (Wr.right f)) ∧ Below w.heap.size w w' := by
  have HR : Hid (Wr.right f = (Wr.num f.ep && (Wr.rightSbs f.l && Wr.same f (Wr.onlyOp f)))) := Lib.hid (by unfold Wr.right; rw [hk]; rfl)
  have hn := one_new w (frbox f)
  have hr := heap_alloc_new w (frbox f)
  have HF := Lib.hid (h.later hn)
  have HBl := Lib.hid hn
  have hca := frbox_cells hr
  have HCF := Lib.hid (later_cells hca)
  have HEF := Lib.hid (later_cells (cells_part hca (Nat.zero_add 6) (fr_ev f)))
  have HCH := Lib.hid (later_cells (cells_part hca (Nat.zero_add 13) (fr_ch f)))
  have c0 := fun x => later_cell (hca 0 _ rfl) x
  have c1 := fun x => later_cell (hca 1 _ rfl) x
  have c2 := fun x => later_cell (hca 2 _ rfl) x
  have c3 := fun x => later_cell (hca 3 _ rfl) x
  have c4 := fun x => later_cell (hca 4 _ rfl) x
  have c5 := fun x => later_cell (hca 5 _ rfl) x
  have c18 := fun x => later_cell (hca 18 _ rfl) x
  have k0 := (hca 0 _ rfl).trans (congrArg (fun z : Int => some (Value.int .i64 z)) hk)
  simp only [Nat.zero_add] at k0 c0 c1 c2 c3 c4 c5 c18
  clear h hn hr hca hk
  dsimp only [frbox] at HF HBl HCF HEF HCH c0 c1 c2 c3 c4 c5 c18 k0
  go_enter Tryz.func10, Tryz.ntmps10
  go_upto_region 8 with fail
  clear k0
  generalize w.alloc _ = W at *
  haveI := later_some W
  have HO : ∀ x : Later W, IsFr x.at_ (Wr.onlyOp f) := fun x => ⟨ev0_is _, ft0_is _, HF.out.l.later x.below, HF.out.none_⟩
  have KW := Lib.hid (fun x : Later W => wsame_any (a := f) (b := Wr.onlyOp f) (HF.out.later x.below) (HO x))
  have KL := Lib.hid (fun x : Later W => rightsubs_any (c := f.c) (HF.out.l.later x.below))
  clear HO HF
  generalize Wr.same f (Wr.onlyOp f) = bs at KW HR
  dsimp only [frv, ev0, sb0] at KW
  cases H1 : Wr.num f.ep
  · rw [H1] at HR
    refine wp_plain_later (W := W) (Below.refl _ _) ?_
    repeat (first | go_big_quiet_step (first | (go_at_call 26; exact calls_later_same (isnum_at H1))) | (go_big_quiet_want; refine quiet_load 38 _ rfl _ 0 f.cells _ rfl HCF.out Tryz.underlying38 rfl fr_size ?_; go_big_quiet_on; simp only [Act.put, List.setIfInBounds_toArray, List.set_cons_succ, List.set_cons_zero]))
    refine wpQuiet_nil ?_
    rintro _ ⟨x, rfl⟩
    go_wp2_with fail
    go_ret
    exact ⟨by rw [HR.out]; rfl, below_then HBl.out x.below⟩
  rw [H1] at HR
  cases H2 : Wr.rightSbs f.l
  · rw [H2] at HR KL
    refine wp_plain_later (W := W) (Below.refl _ _) ?_
    repeat (first | go_big_quiet_step (first | (go_at_call 26; exact calls_later_same (isnum_at H1)) | (go_at_call 27; exact calls_later (KL.out _))) | (go_big_quiet_want; refine quiet_load 38 _ rfl _ 0 f.cells _ rfl HCF.out Tryz.underlying38 rfl fr_size ?_; go_big_quiet_on; simp only [Act.put, List.setIfInBounds_toArray, List.set_cons_succ, List.set_cons_zero]))
    refine wpQuiet_nil ?_
    rintro _ ⟨x, rfl⟩
    go_wp2_with fail
    go_ret
    exact ⟨by rw [HR.out]; rfl, below_then HBl.out x.below⟩
  rw [H2] at HR KL
  refine wp_plain_later (W := W) (Below.refl _ _) ?_
  repeat (first | go_big_quiet_step (first | (go_at_call 26; exact calls_later_same (isnum_at H1)) | (go_at_call 27; exact calls_later (KL.out _)) | (go_at_call 12; exact calls_later (KW.out _))) | (go_big_quiet_want; refine quiet_load 38 _ rfl _ 0 f.cells _ rfl HCF.out Tryz.underlying38 rfl fr_size ?_; go_big_quiet_on; simp only [Act.put, List.setIfInBounds_toArray, List.set_cons_succ, List.set_cons_zero]))
  refine wpQuiet_nil ?_
  rintro _ ⟨x, rfl⟩
  go_wp2_with fail
  go_ret
  exact ⟨by rw [HR.out]; rfl, below_then HBl.out x.below⟩
set_option maxHeartbeats 16000000 in
theorem right_rise {f : Fr} {w : World} (h : IsFr w f) (hk : f.k = 5) : Calls Tryz.prog 10 #[frv f] w fun e w' => e = .returned (.bool (Wr.right f)) ∧ Below w.heap.size w w' := by
  have HR : Hid (Wr.right f = (Wr.broker f.tb && (Wr.rightEv f.e && Wr.same f (Wr.onlyRi f)))) := Lib.hid (by unfold Wr.right; rw [hk]; rfl)
  have hn := one_new w (frbox f)
  have hr := heap_alloc_new w (frbox f)
  have HF := Lib.hid (h.later hn)
  have HBl := Lib.hid hn
  have hca := frbox_cells hr
  have HCF := Lib.hid (later_cells hca)
  have HEF := Lib.hid (later_cells (cells_part hca (Nat.zero_add 6) (fr_ev f)))
  have HCH := Lib.hid (later_cells (cells_part hca (Nat.zero_add 13) (fr_ch f)))
  have c0 := fun x => later_cell (hca 0 _ rfl) x
  have c1 := fun x => later_cell (hca 1 _ rfl) x
  have c2 := fun x => later_cell (hca 2 _ rfl) x
  have c3 := fun x => later_cell (hca 3 _ rfl) x
  have c4 := fun x => later_cell (hca 4 _ rfl) x
  have c5 := fun x => later_cell (hca 5 _ rfl) x
  have c18 := fun x => later_cell (hca 18 _ rfl) x
  have k0 := (hca 0 _ rfl).trans (congrArg (fun z : Int => some (Value.int .i64 z)) hk)
  simp only [Nat.zero_add] at k0 c0 c1 c2 c3 c4 c5 c18
  clear h hn hr hca hk
  dsimp only [frbox] at HF HBl HCF HEF HCH c0 c1 c2 c3 c4 c5 c18 k0
  go_enter Tryz.func10, Tryz.ntmps10
  go_upto_region 10 with fail
  clear k0
  generalize w.alloc _ = W at *
  haveI := later_some W
  have HO : ∀ x : Later W, IsFr x.at_ (Wr.onlyRi f) := fun x => ⟨HF.out.e.later x.below, ft0_is _, sbs0_is _, fun _ => ⟨rfl, rfl⟩⟩
  have KW := Lib.hid (fun x : Later W => wsame_any (a := f) (b := Wr.onlyRi f) (HF.out.later x.below) (HO x))
  have KE := Lib.hid (fun x : Later W => rightevent_any (HF.out.e.later x.below))
  clear HO HF
  generalize Wr.same f (Wr.onlyRi f) = bs at KW HR
  dsimp only [frv, ev0, sb0] at KW
  cases H1 : Wr.broker f.tb
  · rw [H1] at HR
    refine wp_plain_later (W := W) (Below.refl _ _) ?_
    repeat (first | go_big_quiet_step (first | (go_at_call 28; exact calls_later_same (isbroker_at H1))) | (go_big_quiet_want; refine quiet_load 38 _ rfl _ 0 f.cells _ rfl HCF.out Tryz.underlying38 rfl fr_size ?_; go_big_quiet_on; simp only [Act.put, List.setIfInBounds_toArray, List.set_cons_succ, List.set_cons_zero]) | (go_big_quiet_want; refine quiet_load 30 _ rfl _ 6 f.e.cells _ rfl HEF.out Tryz.underlying30 rfl ev_size ?_; go_big_quiet_on; simp only [Act.put, List.setIfInBounds_toArray, List.set_cons_succ, List.set_cons_zero, Ev.cells]))
    refine wpQuiet_nil ?_
    rintro _ ⟨x, rfl⟩
    go_wp2_with fail
    go_ret
    exact ⟨by rw [HR.out]; rfl, below_then HBl.out x.below⟩
  rw [H1] at HR
  cases H2 : Wr.rightEv f.e
  · rw [H2] at HR KE
    refine wp_plain_later (W := W) (Below.refl _ _) ?_
    repeat (first | go_big_quiet_step (first | (go_at_call 28; exact calls_later_same (isbroker_at H1)) | (go_at_call 29; exact calls_later (KE.out _))) | (go_big_quiet_want; refine quiet_load 38 _ rfl _ 0 f.cells _ rfl HCF.out Tryz.underlying38 rfl fr_size ?_; go_big_quiet_on; simp only [Act.put, List.setIfInBounds_toArray, List.set_cons_succ, List.set_cons_zero]) | (go_big_quiet_want; refine quiet_load 30 _ rfl _ 6 f.e.cells _ rfl HEF.out Tryz.underlying30 rfl ev_size ?_; go_big_quiet_on; simp only [Act.put, List.setIfInBounds_toArray, List.set_cons_succ, List.set_cons_zero, Ev.cells]))
    refine wpQuiet_nil ?_
    rintro _ ⟨x, rfl⟩
    go_wp2_with fail
    go_ret
    exact ⟨by rw [HR.out]; rfl, below_then HBl.out x.below⟩
  rw [H2] at HR KE
  refine wp_plain_later (W := W) (Below.refl _ _) ?_
  repeat (first | go_big_quiet_step (first | (go_at_call 28; exact calls_later_same (isbroker_at H1)) | (go_at_call 29; exact calls_later (KE.out _)) | (go_at_call 12; exact calls_later (KW.out _))) | (go_big_quiet_want; refine quiet_load 38 _ rfl _ 0 f.cells _ rfl HCF.out Tryz.underlying38 rfl fr_size ?_; go_big_quiet_on; simp only [Act.put, List.setIfInBounds_toArray, List.set_cons_succ, List.set_cons_zero]) | (go_big_quiet_want; refine quiet_load 30 _ rfl _ 6 f.e.cells _ rfl HEF.out Tryz.underlying30 rfl ev_size ?_; go_big_quiet_on; simp only [Act.put, List.setIfInBounds_toArray, List.set_cons_succ, List.set_cons_zero, Ev.cells]))
  refine wpQuiet_nil ?_
  rintro _ ⟨x, rfl⟩
  go_wp2_with fail
  go_ret
  exact ⟨by rw [HR.out]; rfl, below_then HBl.out x.below⟩
set_option maxHeartbeats 16000000 in
theorem right_fall {f : Fr} {w : World} (h : IsFr w f) (hk : f.k = 6) : Calls Tryz.prog 10 #[frv f] w fun e w' => e = .returned (.bool (Wr.right f)) ∧ Below w.heap.size w w' := by
  have HR : Hid (Wr.right f = (Wr.rightEv f.e && Wr.same f (Wr.onlyFa f))) := Lib.hid (by unfold Wr.right; rw [hk]; rfl)
  have hn := one_new w (frbox f)
  have hr := heap_alloc_new w (frbox f)
  have HF := Lib.hid (h.later hn)
  have HBl := Lib.hid hn
  have hca := frbox_cells hr
  have HCF := Lib.hid (later_cells hca)
  have HEF := Lib.hid (later_cells (cells_part hca (Nat.zero_add 6) (fr_ev f)))
  have HCH := Lib.hid (later_cells (cells_part hca (Nat.zero_add 13) (fr_ch f)))
  have c0 := fun x => later_cell (hca 0 _ rfl) x
  have c1 := fun x => later_cell (hca 1 _ rfl) x
  have c2 := fun x => later_cell (hca 2 _ rfl) x
  have c3 := fun x => later_cell (hca 3 _ rfl) x
  have c4 := fun x => later_cell (hca 4 _ rfl) x
  have c5 := fun x => later_cell (hca 5 _ rfl) x
  have c18 := fun x => later_cell (hca 18 _ rfl) x
  have k0 := (hca 0 _ rfl).trans (congrArg (fun z : Int => some (Value.int .i64 z)) hk)
  simp only [Nat.zero_add] at k0 c0 c1 c2 c3 c4 c5 c18
  clear h hn hr hca hk
  dsimp only [frbox] at HF HBl HCF HEF HCH c0 c1 c2 c3 c4 c5 c18 k0
  go_enter Tryz.func10, Tryz.ntmps10
  go_upto_region 12 with fail
  clear k0
  generalize w.alloc _ = W at *
  haveI := later_some W
  have HO : ∀ x : Later W, IsFr x.at_ (Wr.onlyFa f) := fun x => ⟨HF.out.e.later x.below, ft0_is _, sbs0_is _, fun _ => ⟨rfl, rfl⟩⟩
  have KW := Lib.hid (fun x : Later W => wsame_any (a := f) (b := Wr.onlyFa f) (HF.out.later x.below) (HO x))
  have KE := Lib.hid (fun x : Later W => rightevent_any (HF.out.e.later x.below))
  clear HO HF
  generalize Wr.same f (Wr.onlyFa f) = bs at KW HR
  dsimp only [frv, ev0, sb0] at KW
  cases H1 : Wr.rightEv f.e
  · rw [H1] at HR KE
    refine wp_plain_later (W := W) (Below.refl _ _) ?_
    repeat (first | go_big_quiet_step (first | (go_at_call 29; exact calls_later (KE.out _))) | (go_big_quiet_want; refine quiet_load 38 _ rfl _ 0 f.cells _ rfl HCF.out Tryz.underlying38 rfl fr_size ?_; go_big_quiet_on; simp only [Act.put, List.setIfInBounds_toArray, List.set_cons_succ, List.set_cons_zero]) | (go_big_quiet_want; refine quiet_load 30 _ rfl _ 6 f.e.cells _ rfl HEF.out Tryz.underlying30 rfl ev_size ?_; go_big_quiet_on; simp only [Act.put, List.setIfInBounds_toArray, List.set_cons_succ, List.set_cons_zero, Ev.cells]))
    refine wpQuiet_nil ?_
    rintro _ ⟨x, rfl⟩
    go_wp2_with fail
    go_ret
    exact ⟨by rw [HR.out]; rfl, below_then HBl.out x.below⟩
  rw [H1] at HR KE
  refine wp_plain_later (W := W) (Below.refl _ _) ?_
  repeat (first | go_big_quiet_step (first | (go_at_call 29; exact calls_later (KE.out _)) | (go_at_call 12; exact calls_later (KW.out _))) | (go_big_quiet_want; refine quiet_load 38 _ rfl _ 0 f.cells _ rfl HCF.out Tryz.underlying38 rfl fr_size ?_; go_big_quiet_on; simp only [Act.put, List.setIfInBounds_toArray, List.set_cons_succ, List.set_cons_zero]) | (go_big_quiet_want; refine quiet_load 30 _ rfl _ 6 f.e.cells _ rfl HEF.out Tryz.underlying30 rfl ev_size ?_; go_big_quiet_on; simp only [Act.put, List.setIfInBounds_toArray, List.set_cons_succ, List.set_cons_zero, Ev.cells]))
  refine wpQuiet_nil ?_
  rintro _ ⟨x, rfl⟩
  go_wp2_with fail
  go_ret
  exact ⟨by rw [HR.out]; rfl, below_then HBl.out x.below⟩
set_option maxHeartbeats 16000000 in
theorem right_passed {f : Fr} {w : World} (h : IsFr w f) (hk : f.k = 7) : Calls Tryz.prog 10 #[frv f] w fun e w' => e = .returned (.bool (Wr.right f)) ∧ Below w.heap.size w w' := by
  have HR : Hid (Wr.right f = (Wr.broker f.tb && (Wr.client f.cl && (Wr.cnt f.sq && Wr.same f (Wr.onlyPa f))))) := Lib.hid (by unfold Wr.right; rw [hk]; rfl)
  have hn := one_new w (frbox f)
  have hr := heap_alloc_new w (frbox f)
  have HF := Lib.hid (h.later hn)
  have HBl := Lib.hid hn
  have hca := frbox_cells hr
  have HCF := Lib.hid (later_cells hca)
  have HEF := Lib.hid (later_cells (cells_part hca (Nat.zero_add 6) (fr_ev f)))
  have HCH := Lib.hid (later_cells (cells_part hca (Nat.zero_add 13) (fr_ch f)))
  have c0 := fun x => later_cell (hca 0 _ rfl) x
  have c1 := fun x => later_cell (hca 1 _ rfl) x
  have c2 := fun x => later_cell (hca 2 _ rfl) x
  have c3 := fun x => later_cell (hca 3 _ rfl) x
  have c4 := fun x => later_cell (hca 4 _ rfl) x
  have c5 := fun x => later_cell (hca 5 _ rfl) x
  have c18 := fun x => later_cell (hca 18 _ rfl) x
  have k0 := (hca 0 _ rfl).trans (congrArg (fun z : Int => some (Value.int .i64 z)) hk)
  simp only [Nat.zero_add] at k0 c0 c1 c2 c3 c4 c5 c18
  clear h hn hr hca hk
  dsimp only [frbox] at HF HBl HCF HEF HCH c0 c1 c2 c3 c4 c5 c18 k0
  go_enter Tryz.func10, Tryz.ntmps10
  go_upto_region 14 with fail
  clear k0
  generalize w.alloc _ = W at *
  haveI := later_some W
  have HO : ∀ x : Later W, IsFr x.at_ (Wr.onlyPa f) := fun x => ⟨ev0_is _, ft0_is _, sbs0_is _, fun _ => ⟨rfl, rfl⟩⟩
  have KW := Lib.hid (fun x : Later W => wsame_any (a := f) (b := Wr.onlyPa f) (HF.out.later x.below) (HO x))
  clear HO HF
  generalize Wr.same f (Wr.onlyPa f) = bs at KW HR
  dsimp only [frv, ev0, sb0] at KW
  cases H1 : Wr.broker f.tb
  · rw [H1] at HR
    refine wp_plain_later (W := W) (Below.refl _ _) ?_
    repeat (first | go_big_quiet_step (first | (go_at_call 28; exact calls_later_same (isbroker_at H1))) | (go_big_quiet_want; refine quiet_load 38 _ rfl _ 0 f.cells _ rfl HCF.out Tryz.underlying38 rfl fr_size ?_; go_big_quiet_on; simp only [Act.put, List.setIfInBounds_toArray, List.set_cons_succ, List.set_cons_zero]))
    refine wpQuiet_nil ?_
    rintro _ ⟨x, rfl⟩
    go_wp2_with fail
    go_ret
    exact ⟨by rw [HR.out]; rfl, below_then HBl.out x.below⟩
  rw [H1] at HR
  cases H2 : Wr.client f.cl
  · rw [H2] at HR
    refine wp_plain_later (W := W) (Below.refl _ _) ?_
    repeat (first | go_big_quiet_step (first | (go_at_call 28; exact calls_later_same (isbroker_at H1)) | (go_at_call 30; exact calls_later_same (isclient_at H2))) | (go_big_quiet_want; refine quiet_load 38 _ rfl _ 0 f.cells _ rfl HCF.out Tryz.underlying38 rfl fr_size ?_; go_big_quiet_on; simp only [Act.put, List.setIfInBounds_toArray, List.set_cons_succ, List.set_cons_zero]))
    refine wpQuiet_nil ?_
    rintro _ ⟨x, rfl⟩
    go_wp2_with fail
    go_ret
    exact ⟨by rw [HR.out]; rfl, below_then HBl.out x.below⟩
  rw [H2] at HR
  cases H3 : Wr.cnt f.sq
  · rw [H3] at HR
    refine wp_plain_later (W := W) (Below.refl _ _) ?_
    repeat (first | go_big_quiet_step (first | (go_at_call 28; exact calls_later_same (isbroker_at H1)) | (go_at_call 30; exact calls_later_same (isclient_at H2)) | (go_at_call 31; exact calls_later_same (iscnt_at H3))) | (go_big_quiet_want; refine quiet_load 38 _ rfl _ 0 f.cells _ rfl HCF.out Tryz.underlying38 rfl fr_size ?_; go_big_quiet_on; simp only [Act.put, List.setIfInBounds_toArray, List.set_cons_succ, List.set_cons_zero]))
    refine wpQuiet_nil ?_
    rintro _ ⟨x, rfl⟩
    go_wp2_with fail
    go_ret
    exact ⟨by rw [HR.out]; rfl, below_then HBl.out x.below⟩
  rw [H3] at HR
  refine wp_plain_later (W := W) (Below.refl _ _) ?_
  repeat (first | go_big_quiet_step (first | (go_at_call 28; exact calls_later_same (isbroker_at H1)) | (go_at_call 30; exact calls_later_same (isclient_at H2)) | (go_at_call 31; exact calls_later_same (iscnt_at H3)) | (go_at_call 12; exact calls_later (KW.out _))) | (go_big_quiet_want; refine quiet_load 38 _ rfl _ 0 f.cells _ rfl HCF.out Tryz.underlying38 rfl fr_size ?_; go_big_quiet_on; simp only [Act.put, List.setIfInBounds_toArray, List.set_cons_succ, List.set_cons_zero]))
  refine wpQuiet_nil ?_
  rintro _ ⟨x, rfl⟩
  go_wp2_with fail
  go_ret
  exact ⟨by rw [HR.out]; rfl, below_then HBl.out x.below⟩
set_option maxHeartbeats 16000000 in
theorem right_done {f : Fr} {w : World} (h : IsFr w f) (hk : f.k = 8) : Calls Tryz.prog 10 #[frv f] w fun e w' => e = .returned (.bool (Wr.right f)) ∧ Below w.heap.size w w' := by
  have HR : Hid (Wr.right f = (Wr.broker f.tb && (Wr.client f.cl && (Wr.cnt f.sq && (Wr.broker f.fm && Wr.same f (Wr.onlyDo f)))))) := Lib.hid (by unfold Wr.right; rw [hk]; rfl)
  have hn := one_new w (frbox f)
  have hr := heap_alloc_new w (frbox f)
  have HF := Lib.hid (h.later hn)
  have HBl := Lib.hid hn
  have hca := frbox_cells hr
  have HCF := Lib.hid (later_cells hca)
  have HEF := Lib.hid (later_cells (cells_part hca (Nat.zero_add 6) (fr_ev f)))
  have HCH := Lib.hid (later_cells (cells_part hca (Nat.zero_add 13) (fr_ch f)))
  have c0 := fun x => later_cell (hca 0 _ rfl) x
  have c1 := fun x => later_cell (hca 1 _ rfl) x
  have c2 := fun x => later_cell (hca 2 _ rfl) x
  have c3 := fun x => later_cell (hca 3 _ rfl) x
  have c4 := fun x => later_cell (hca 4 _ rfl) x
  have c5 := fun x => later_cell (hca 5 _ rfl) x
  have c18 := fun x => later_cell (hca 18 _ rfl) x
  have k0 := (hca 0 _ rfl).trans (congrArg (fun z : Int => some (Value.int .i64 z)) hk)
  simp only [Nat.zero_add] at k0 c0 c1 c2 c3 c4 c5 c18
  clear h hn hr hca hk
  dsimp only [frbox] at HF HBl HCF HEF HCH c0 c1 c2 c3 c4 c5 c18 k0
  go_enter Tryz.func10, Tryz.ntmps10
  go_upto_region 16 with fail
  clear k0
  generalize w.alloc _ = W at *
  haveI := later_some W
  have HO : ∀ x : Later W, IsFr x.at_ (Wr.onlyDo f) := fun x => ⟨ev0_is _, ft0_is _, sbs0_is _, fun _ => ⟨rfl, rfl⟩⟩
  have KW := Lib.hid (fun x : Later W => wsame_any (a := f) (b := Wr.onlyDo f) (HF.out.later x.below) (HO x))
  clear HO HF
  generalize Wr.same f (Wr.onlyDo f) = bs at KW HR
  dsimp only [frv, ev0, sb0] at KW
  cases H1 : Wr.broker f.tb
  · rw [H1] at HR
    refine wp_plain_later (W := W) (Below.refl _ _) ?_
    repeat (first | go_big_quiet_step (first | (go_at_call 28; exact calls_later_same (isbroker_at H1))) | (go_big_quiet_want; refine quiet_load 38 _ rfl _ 0 f.cells _ rfl HCF.out Tryz.underlying38 rfl fr_size ?_; go_big_quiet_on; simp only [Act.put, List.setIfInBounds_toArray, List.set_cons_succ, List.set_cons_zero]))
    refine wpQuiet_nil ?_
    rintro _ ⟨x, rfl⟩
    go_wp2_with fail
    go_ret
    exact ⟨by rw [HR.out]; rfl, below_then HBl.out x.below⟩
  rw [H1] at HR
  cases H2 : Wr.client f.cl
  · rw [H2] at HR
    refine wp_plain_later (W := W) (Below.refl _ _) ?_
    repeat (first | go_big_quiet_step (first | (go_at_call 28; exact calls_later_same (isbroker_at H1)) | (go_at_call 30; exact calls_later_same (isclient_at H2))) | (go_big_quiet_want; refine quiet_load 38 _ rfl _ 0 f.cells _ rfl HCF.out Tryz.underlying38 rfl fr_size ?_; go_big_quiet_on; simp only [Act.put, List.setIfInBounds_toArray, List.set_cons_succ, List.set_cons_zero]))
    refine wpQuiet_nil ?_
    rintro _ ⟨x, rfl⟩
    go_wp2_with fail
    go_ret
    exact ⟨by rw [HR.out]; rfl, below_then HBl.out x.below⟩
  rw [H2] at HR
  cases H3 : Wr.cnt f.sq
  · rw [H3] at HR
    refine wp_plain_later (W := W) (Below.refl _ _) ?_
    repeat (first | go_big_quiet_step (first | (go_at_call 28; exact calls_later_same (isbroker_at H1)) | (go_at_call 30; exact calls_later_same (isclient_at H2)) | (go_at_call 31; exact calls_later_same (iscnt_at H3))) | (go_big_quiet_want; refine quiet_load 38 _ rfl _ 0 f.cells _ rfl HCF.out Tryz.underlying38 rfl fr_size ?_; go_big_quiet_on; simp only [Act.put, List.setIfInBounds_toArray, List.set_cons_succ, List.set_cons_zero]))
    refine wpQuiet_nil ?_
    rintro _ ⟨x, rfl⟩
    go_wp2_with fail
    go_ret
    exact ⟨by rw [HR.out]; rfl, below_then HBl.out x.below⟩
  rw [H3] at HR
  cases H4 : Wr.broker f.fm
  · rw [H4] at HR
    refine wp_plain_later (W := W) (Below.refl _ _) ?_
    repeat (first | go_big_quiet_step (first | (go_at_call 28; exact calls_later_same (isbroker_at H1)) | (go_at_call 30; exact calls_later_same (isclient_at H2)) | (go_at_call 31; exact calls_later_same (iscnt_at H3)) | (go_at_call 28; exact calls_later_same (isbroker_at H4))) | (go_big_quiet_want; refine quiet_load 38 _ rfl _ 0 f.cells _ rfl HCF.out Tryz.underlying38 rfl fr_size ?_; go_big_quiet_on; simp only [Act.put, List.setIfInBounds_toArray, List.set_cons_succ, List.set_cons_zero]))
    refine wpQuiet_nil ?_
    rintro _ ⟨x, rfl⟩
    go_wp2_with fail
    go_ret
    exact ⟨by rw [HR.out]; rfl, below_then HBl.out x.below⟩
  rw [H4] at HR
  refine wp_plain_later (W := W) (Below.refl _ _) ?_
  repeat (first | go_big_quiet_step (first | (go_at_call 28; exact calls_later_same (isbroker_at H1)) | (go_at_call 30; exact calls_later_same (isclient_at H2)) | (go_at_call 31; exact calls_later_same (iscnt_at H3)) | (go_at_call 28; exact calls_later_same (isbroker_at H4)) | (go_at_call 12; exact calls_later (KW.out _))) | (go_big_quiet_want; refine quiet_load 38 _ rfl _ 0 f.cells _ rfl HCF.out Tryz.underlying38 rfl fr_size ?_; go_big_quiet_on; simp only [Act.put, List.setIfInBounds_toArray, List.set_cons_succ, List.set_cons_zero]))
  refine wpQuiet_nil ?_
  rintro _ ⟨x, rfl⟩
  go_wp2_with fail
  go_ret
  exact ⟨by rw [HR.out]; rfl, below_then HBl.out x.below⟩
set_option maxHeartbeats 4000000 in
theorem right_none {f : Fr} {w : World} (hk : ¬ f.k = 1 ∧ ¬ f.k = 2 ∧ ¬ f.k = 3 ∧ ¬ f.k = 4 ∧ ¬ f.k = 5 ∧ ¬ f.k = 6 ∧ ¬ f.k = 7 ∧ ¬ f.k = 8) : Calls Tryz.prog 10 #[frv f] w fun e w' => e = .returned (.bool (Wr.right f)) ∧ Below w.heap.size w w' := by
  obtain ⟨h1, h2, h3, h4, h5, h6, h7, h8⟩ := hk
  have HR : Hid (Wr.right f = false) := Lib.hid (by simp [Wr.right, h1, h2, h3, h4, h5, h6, h7, h8])
  go_enter Tryz.func10, Tryz.ntmps10
  go_wp2_with fail
  go_ret
  exact ⟨by rw [HR.out]; rfl, one_new _ _⟩
theorem wright_any {f : Fr} {w : World} (h : IsFr w f) : Calls Tryz.prog 10 #[frv f] w fun e w' => e = .returned (.bool (Wr.right f)) ∧ Below w.heap.size w w' := by
  rcases Wr.kinds f.k with hk | hk | hk | hk | hk | hk | hk | hk | hk
  · exact right_ch h hk
  · exact right_stop h hk
  · exact right_quiet h hk
  · exact right_open h hk
  · exact right_rise h hk
  · exact right_fall h hk
  · exact right_passed h hk
  · exact right_done h hk
  · exact right_none hk
end Go.Proofs.YtgenmebmdpnjhaaGreat
