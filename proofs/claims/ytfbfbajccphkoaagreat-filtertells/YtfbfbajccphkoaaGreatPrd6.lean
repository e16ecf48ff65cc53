
/- Tests: what implies what: the contract of pred.Implies. -/
import Derived.Test.YtfbfbajccphkoaaGreatPrd5
namespace Go.Proofs.YtfbfbajccphkoaaGreat
open Go.RowKit
set_option linter.unusedVariables false

namespace Pd
theorem imp_wrong {q p : Prd} (h : right q = false ∨ right p = false) : implies q p = false := by
  unfold implies
  rcases h with h | h <;> simp [h]
theorem imp_yes {q p : Prd} (h1 : right q = true) (h2 : right p = true) (h : void q = true ∨ p.t = 1 ∨ sameT q p = true) : implies q p = true := by
  unfold implies
  rw [h1, h2]
  rcases h with h | h | h
  · simp [h]
  · simp [h]
  · simp [h]
/-- Right ones, none of the first two fits. -/
structure Past (q p : Prd) : Prop where
  r1 : right q = true
  r2 : right p = true
  v1 : void q = false
  t1 : ¬ p.t = 1
  s1 : sameT q p = false
theorem Past.eq {q p : Prd} (h : Past q p) : implies q p = (if p.t = 3 then !takes q p.v
  else if q.t = 2 then takes p q.v
  else if q.t = 10 then each p q.set
  else if hasEnds q && hasEnds p then within (lower q) (lower p) 1 && within (upper q) (upper p) (-1)
  else if q.t = 9 then preI q.v p
  else false) := by
  unfold implies
  rw [h.r1, h.r2, h.v1, h.s1]
  simp [h.t1]
theorem Past.n3 {q p : Prd} (h : Past q p) (t : p.t = 3) : implies q p = !takes q p.v := by rw [h.eq, if_pos t]
theorem Past.q2 {q p : Prd} (h : Past q p) (t : ¬ p.t = 3) (u : q.t = 2) : implies q p = takes p q.v := by rw [h.eq, if_neg t, if_pos u]
theorem Past.q10 {q p : Prd} (h : Past q p) (t : ¬ p.t = 3) (u : ¬ q.t = 2) (v : q.t = 10) : implies q p = each p q.set := by rw [h.eq, if_neg t, if_neg u, if_pos v]
theorem Past.ends {q p : Prd} (h : Past q p) (t : ¬ p.t = 3) (u : ¬ q.t = 2) (v : ¬ q.t = 10) (x : hasEnds q = true) (y : hasEnds p = true) : implies q p = (within (lower q) (lower p) 1 && within (upper q) (upper p) (-1)) := by rw [h.eq, if_neg t, if_neg u, if_neg v, x, y]; rfl
theorem Past.q9 {q p : Prd} (h : Past q p) (t : ¬ p.t = 3) (u : ¬ q.t = 2) (v : ¬ q.t = 10) (x : (hasEnds q && hasEnds p) = false) (y : q.t = 9) : implies q p = preI q.v p := by rw [h.eq, if_neg t, if_neg u, if_neg v, x, if_pos y]; rfl
theorem Past.no {q p : Prd} (h : Past q p) (t : ¬ p.t = 3) (u : ¬ q.t = 2) (v : ¬ q.t = 10) (x : (hasEnds q && hasEnds p) = false) (y : ¬ q.t = 9) : implies q p = false := by rw [h.eq, if_neg t, if_neg u, if_neg v, x, if_neg y]; rfl
end Pd

theorem within_at {q p : En} (hq : Fit q.at_) (hp : Fit p.at_) {i : Int} {b : Bool} (h : Pd.within q p i = b) {W : World} {x : Later W} : Calls Tryz.prog 91 #[ev q, ev p, .int .i64 i] x.at_ fun e w' => e = .returned (.bool b) ∧ ∃ y : Later W, w' = y.at_ := h ▸ within_l hq hp
set_option maxRecDepth 100000 in
set_option maxHeartbeats 16000000 in
theorem implies_any {q p : Prd} {A B : Option Addr} {n c m d : Nat} {w : World} (h : IsPrd w q A n) (h' : IsPrd w p B m) : Calls Tryz.prog 65 #[pv q A n c, pv p B m d] w fun e w' => e = .returned (.bool (Pd.implies q p)) ∧ Below w.heap.size w w' := by
  obtain ⟨W, hW1, hW, hB, hV⟩ := world_pp w q A n c p B m d
  have HQ := Lib.hid (h.later hW)
  have HP := Lib.hid (h'.later hW)
  have HW := Lib.hid hW
  have HW1 := Lib.hid hW1
  clear h h' hW hW1
  obtain ⟨c0, c1, c2, c3, c4, c5, c6, c7, c8, c9, c10, c11, c12⟩ := hB
  obtain ⟨d0, d1, d2, d3, d4, d5, d6, d7, d8, d9, d10, d11, d12⟩ := hV
  haveI := later_some W
  generalize hI : Pd.implies q p = I
  have HI := Lib.hid hI
  clear hI
  go_enter Tryz.func65, Tryz.ntmps65
  go_wp2_with fail
  refine (pright_l (x := ⟨_, HW1.out⟩) HQ.out).mono ?_
  rintro e _ ⟨rfl, y, rfl⟩
  clear HW1
  cases r1 : Pd.right q
  · have HE := Lib.hid (HI.out.symm.trans (Pd.imp_wrong (p := p) (.inl r1)))
    go_wp2_with fail
    go_ret
    exact ⟨ret_bool HE.out.symm, below_then HW.out (Later.below _)⟩
  have R1 := Lib.hid r1
  clear r1
  go_wp2_with fail
  refine (pright_l HP.out).mono ?_
  rintro e _ ⟨rfl, y, rfl⟩
  cases r2 : Pd.right p
  · have HE := Lib.hid (HI.out.symm.trans (Pd.imp_wrong (q := q) (.inr r2)))
    go_wp2_with fail
    go_ret
    exact ⟨ret_bool HE.out.symm, below_then HW.out (Later.below _)⟩
  have R2 := Lib.hid r2
  clear r2
  go_wp2_with fail
  refine (void_l HQ.out).mono ?_
  rintro e _ ⟨rfl, y, rfl⟩
  cases v1 : Pd.void q
  case true =>
    have HE := Lib.hid (HI.out.symm.trans (Pd.imp_yes R1.out R2.out (.inl v1)))
    go_wp2_with fail
    go_ret
    exact ⟨ret_bool HE.out.symm, below_then HW.out (Later.below _)⟩
  have V1 := Lib.hid v1
  clear v1
  by_cases t1 : p.t = 1
  · have HE := Lib.hid (HI.out.symm.trans (Pd.imp_yes R1.out R2.out (.inr (.inl t1))))
    go_wp2_with fail
    go_ret
    exact ⟨ret_bool HE.out.symm, below_then HW.out (Later.below _)⟩
  go_wp2_with fail
  refine (samet_l HQ.out HP.out).mono ?_
  rintro e _ ⟨rfl, y, rfl⟩
  cases s1 : Pd.sameT q p
  case true =>
    have HE := Lib.hid (HI.out.symm.trans (Pd.imp_yes R1.out R2.out (.inr (.inr s1))))
    go_wp2_with fail
    go_ret
    exact ⟨ret_bool HE.out.symm, below_then HW.out (Later.below _)⟩
  have HX := Lib.hid (⟨R1.out, R2.out, V1.out, t1, s1⟩ : Pd.Past q p)
  have fqv := HQ.out.fv
  have fqw := HQ.out.fw
  have fpv := HP.out.fv
  have fpw := HP.out.fw
  have FQV := Lib.hid fqv
  have FPV := Lib.hid fpv
  have FLQ := Lib.hid (Pd.lower_fit fqv)
  have FLP := Lib.hid (Pd.lower_fit fpv)
  have FUQ := Lib.hid (Pd.upper_fit fqv fqw)
  have FUP := Lib.hid (Pd.upper_fit fpv fpw)
  clear R1 R2 V1 s1 fqv fqw fpv fpw t1
  by_cases t3 : p.t = 3
  · have HE := Lib.hid (HI.out.symm.trans (HX.out.n3 t3))
    clear HI
    have u1 := fun x => (d1 x).trans (congrArg (fun z => some (Value.int .i64 z)) t3)
    clear t3 d1
    go_wp2_with (first | (go_at_call 56; refine (takes_l HQ.out FPV.out).mono ?_; rintro e _ ⟨rfl, y, rfl⟩) | fail)
    go_ret
    exact ⟨ret_bool HE.out.symm, below_then HW.out (Later.below _)⟩
  by_cases q2 : q.t = 2
  · have HE := Lib.hid (HI.out.symm.trans (HX.out.q2 t3 q2))
    clear HI
    have u1 := fun x => (c1 x).trans (congrArg (fun z => some (Value.int .i64 z)) q2)
    clear q2 c1
    go_wp2_with (first | (go_at_call 56; refine (takes_l HP.out FQV.out).mono ?_; rintro e _ ⟨rfl, y, rfl⟩) | fail)
    go_ret
    exact ⟨ret_bool HE.out.symm, below_then HW.out (Later.below _)⟩
  by_cases q10 : q.t = 10
  · have HE := Lib.hid (HI.out.symm.trans (HX.out.q10 t3 q2 q10))
    clear HI
    have u1 := fun x => (c1 x).trans (congrArg (fun z => some (Value.int .i64 z)) q10)
    clear q10 c1 q2
    go_wp2_with (first | (go_at_call 89; refine (each_l HP.out HQ.out.set).mono ?_; rintro e _ ⟨rfl, y, rfl⟩) | fail)
    go_ret
    exact ⟨ret_bool HE.out.symm, below_then HW.out (Later.below _)⟩
  go_wp2_with fail
  refine (hasends_l (p := q)).mono ?_
  rintro e _ ⟨rfl, y, rfl⟩
  cases e1 : Pd.hasEnds q
  · by_cases q9 : q.t = 9
    · have HE := Lib.hid (HI.out.symm.trans (HX.out.q9 t3 q2 q10 (by rw [e1]; rfl) q9))
      clear HI
      have u1 := fun x => (c1 x).trans (congrArg (fun z => some (Value.int .i64 z)) q9)
      clear q9 q10 q2 c1
      go_wp2_with (first | (go_at_call 94; refine (prei_l HP.out FQV.out).mono ?_; rintro e _ ⟨rfl, y, rfl⟩) | fail)
      go_ret
      exact ⟨ret_bool HE.out.symm, below_then HW.out (Later.below _)⟩
    · have HE := Lib.hid (HI.out.symm.trans (HX.out.no t3 q2 q10 (by rw [e1]; rfl) q9))
      clear HI
      go_wp2_with fail
      go_ret
      exact ⟨ret_bool HE.out.symm, below_then HW.out (Later.below _)⟩
  go_wp2_with fail
  refine (hasends_l (p := p)).mono ?_
  rintro e _ ⟨rfl, y, rfl⟩
  cases e2 : Pd.hasEnds p
  · by_cases q9 : q.t = 9
    · have HE := Lib.hid (HI.out.symm.trans (HX.out.q9 t3 q2 q10 (by rw [e2]; simp) q9))
      clear HI
      have u1 := fun x => (c1 x).trans (congrArg (fun z => some (Value.int .i64 z)) q9)
      clear q9 q10 q2 c1
      go_wp2_with (first | (go_at_call 94; refine (prei_l HP.out FQV.out).mono ?_; rintro e _ ⟨rfl, y, rfl⟩) | fail)
      go_ret
      exact ⟨ret_bool HE.out.symm, below_then HW.out (Later.below _)⟩
    · have HE := Lib.hid (HI.out.symm.trans (HX.out.no t3 q2 q10 (by rw [e2]; simp) q9))
      clear HI
      go_wp2_with fail
      go_ret
      exact ⟨ret_bool HE.out.symm, below_then HW.out (Later.below _)⟩
  have HE := Lib.hid (HI.out.symm.trans (HX.out.ends t3 q2 q10 e1 e2))
  clear HI
  have LQ := Lib.hid (fun x : Later W => lower_l (p := q) (A := A) (n := n) (c := c) (x := x))
  have LP := Lib.hid (fun x : Later W => lower_l (p := p) (A := B) (n := m) (c := d) (x := x))
  have UQ := Lib.hid (fun x : Later W => upper_l (p := q) (A := A) (n := n) (c := c) (x := x))
  have UP := Lib.hid (fun x : Later W => upper_l (p := p) (A := B) (n := m) (c := d) (x := x))
  go_upto_region 14 with fail
  generalize Pd.lower q = lq at LQ FLQ HE
  generalize Pd.lower p = lp at LP FLP HE
  generalize Pd.upper q = uq at UQ FUQ HE
  generalize Pd.upper p = up at UP FUP HE
  cases i1 : Pd.within lq lp 1
  all_goals
    refine wp_region_later (W := W) (by kernel_rfl) (by kernel_rfl) (Later.below _) ?_
    repeat (go_big_quiet_step (first | (go_at_call 92; first | with_reducible exact LQ.out _ | with_reducible exact LP.out _) | (go_at_call 93; first | with_reducible exact UQ.out _ | with_reducible exact UP.out _) | (go_at_call 91; first | with_reducible exact within_at FLQ.out FLP.out i1 | with_reducible exact within_l FUQ.out FUP.out)))
    refine wpQuiet_nil ?_
    rintro _ ⟨x, rfl⟩
    go_wp2_with fail
    go_ret
    exact ⟨ret_bool (by rw [HE.out, i1]; rfl), below_then HW.out x.below⟩
end Go.Proofs.YtfbfbajccphkoaaGreat
