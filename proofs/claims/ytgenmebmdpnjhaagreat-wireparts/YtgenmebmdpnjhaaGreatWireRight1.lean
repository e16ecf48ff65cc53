
/- Numbers within bounds, Stamps, Subs, Events, Changes: right: the contracts. -/
import Derived.Test.YtgenmebmdpnjhaaGreatWireSame2
namespace Go.Proofs.YtgenmebmdpnjhaaGreat
open Go.RowKit
set_option linter.unusedVariables false
set_option maxRecDepth 100000

namespace Wr
def broker (n : Int) : Bool := decide (0 ≤ n) && decide (n < 8)
def client (n : Int) : Bool := decide (1 ≤ n) && decide (n ≤ 6)
def num (n : Int) : Bool := decide (0 ≤ n) && decide (n ≤ 4611686018427387904)
def cnt (n : Int) : Bool := decide (1 ≤ n) && decide (n ≤ 4611686018427387904)
def stAt (l : List St) (k : Nat) : Bool := match l[k]? with
  | none => false
  | some x => (num x.atom && cnt x.n) && (match k with
    | 0 => true
    | j + 1 => match l[j]? with
      | none => false
      | some y => decide (y.atom < x.atom))
def rightSts (l : List St) : Bool := decide (l.length ≤ 200) && (List.range l.length).all (stAt l)
def rightEv (e : Ev) : Bool := client e.c && (broker e.b && (cnt e.s && (num e.e && (num e.a && (At.right e.l && rightSts e.t)))))
def rightSb (s : Sb) : Bool := client s.c && (broker s.b && (cnt s.n && Fi.right s.f.l))
def behind (s a : Sb) : Bool := decide (a.c < s.c) || ((s.c == a.c) && decide (a.n < s.n))
def sbAt (l : List Sb) (k : Nat) : Bool := match l[k]? with
  | none => false
  | some x => rightSb x && (match k with
    | 0 => true
    | j + 1 => match l[j]? with
      | none => false
      | some y => behind x y)
def rightSbs (l : List Sb) : Bool := decide (l.length ≤ 18) && (List.range l.length).all (sbAt l)
def rightCh (g : Bool) (s : Sb) : Bool := rightSb s && (!g || (s.f.l.length == 0))
theorem st_zero {l : List St} {x : St} (h : l[0]? = some x) : stAt l 0 = (num x.atom && cnt x.n) := by unfold stAt; rw [h]; simp
theorem st_succ {l : List St} {j : Nat} {x y : St} (h : l[j + 1]? = some x) (g : l[j]? = some y) : stAt l (j + 1) = ((num x.atom && cnt x.n) && decide (y.atom < x.atom)) := by unfold stAt; rw [h]; simp [g]
theorem st_wrong {l : List St} {k : Nat} {x : St} (h : l[k]? = some x) (g : (num x.atom && cnt x.n) = false) : stAt l k = false := by unfold stAt; rw [h]; simp only [g, Bool.false_and]
theorem sb_zero {l : List Sb} {x : Sb} (h : l[0]? = some x) : sbAt l 0 = rightSb x := by unfold sbAt; rw [h]; simp
theorem sb_succ {l : List Sb} {j : Nat} {x y : Sb} (h : l[j + 1]? = some x) (g : l[j]? = some y) : sbAt l (j + 1) = (rightSb x && behind x y) := by unfold sbAt; rw [h]; simp [g]
theorem sb_wrong {l : List Sb} {k : Nat} {x : Sb} (h : l[k]? = some x) (g : rightSb x = false) : sbAt l k = false := by unfold sbAt; rw [h]; simp only [g, Bool.false_and]
end Wr
set_option maxHeartbeats 2000000 in
theorem isbroker_at {n : Int} {b : Bool} (h : Wr.broker n = b) {w : World} : Calls Tryz.prog 28 #[.int .i64 n] w fun e w' => e = .returned (.bool b) ∧ w = w' := by
  subst h
  by_cases h1 : 0 ≤ n <;> by_cases h2 : n < 8
  all_goals
    go_enter Tryz.func28, Tryz.ntmps28
    go_wp2_with fail
    go_ret
    exact ⟨by simp [Wr.broker, h1, h2], rfl⟩
set_option maxHeartbeats 2000000 in
theorem isclient_at {n : Int} {b : Bool} (h : Wr.client n = b) {w : World} : Calls Tryz.prog 30 #[.int .i64 n] w fun e w' => e = .returned (.bool b) ∧ w = w' := by
  subst h
  by_cases h1 : 1 ≤ n <;> by_cases h2 : n ≤ 6
  all_goals
    go_enter Tryz.func30, Tryz.ntmps30
    go_wp2_with fail
    go_ret
    exact ⟨by simp [Wr.client, h1, h2], rfl⟩
set_option maxHeartbeats 2000000 in
theorem isnum_at {n : Int} {b : Bool} (h : Wr.num n = b) {w : World} : Calls Tryz.prog 26 #[.int .i64 n] w fun e w' => e = .returned (.bool b) ∧ w = w' := by
  subst h
  by_cases h1 : 0 ≤ n <;> by_cases h2 : n ≤ 4611686018427387904
  all_goals
    go_enter Tryz.func26, Tryz.ntmps26
    go_wp2_with fail
    go_ret
    exact ⟨by simp [Wr.num, h1, h2], rfl⟩
set_option maxHeartbeats 2000000 in
theorem iscnt_at {n : Int} {b : Bool} (h : Wr.cnt n = b) {w : World} : Calls Tryz.prog 31 #[.int .i64 n] w fun e w' => e = .returned (.bool b) ∧ w = w' := by
  subst h
  by_cases h1 : 1 ≤ n <;> by_cases h2 : n ≤ 4611686018427387904
  all_goals
    go_enter Tryz.func31, Tryz.ntmps31
    go_wp2_with fail
    go_ret
    exact ⟨by simp [Wr.cnt, h1, h2], rfl⟩

set_option maxHeartbeats 8000000 in
theorem rightstamps_any {A : Option Addr} {n c : Nat} {l : List St} {w : World} (h : Sts w A n l) :
    Calls Tryz.prog 68 #[.slice A n c] w fun e w' => e = .returned (.bool (Wr.rightSts l)) ∧ Below w.heap.size w w' := by
  obtain rfl := h.len.symm
  have hn := h.few
  have HA := Lib.hid h
  clear h
  by_cases h200 : l.length ≤ 200
  case neg =>
    have HR : Hid (Wr.rightSts l = false) := Lib.hid (by unfold Wr.rightSts; rw [decide_eq_false h200]; rfl)
    have h200' : (l.length : Int) > 200 := by omega
    go_enter Tryz.func68, Tryz.ntmps68
    go_wp2_with fail
    go_ret
    exact ⟨by rw [HR.out]; rfl, Below.refl _ _⟩
  have HR : Hid (Wr.rightSts l = (List.range l.length).all (Wr.stAt l)) := Lib.hid (by unfold Wr.rightSts; rw [decide_eq_true h200]; rfl)
  have h200' : ¬ (l.length : Int) > 200 := by omega
  go_enter Tryz.func68, Tryz.ntmps68
  go_wp2_with fail
  go_loopw [10] (fun ii wr => ∃ k : Nat, k ≤ l.length ∧ ii = .int .i64 (k : Int) ∧ (List.range l.length).all (Wr.stAt l) = ((List.range l.length).drop k).all (Wr.stAt l) ∧ Below w.heap.size w wr) (fun ii _ => l.length - (intOf ii).toNat)
  case atStart => exact ⟨0, by omega, rfl, rfl, Below.refl _ _⟩
  case round =>
    obtain ⟨k, hk, rfl, hl, hB⟩ := hrel
    have HL := Lib.hid hl
    have HB := Lib.hid hB
    clear hl hB
    by_cases hlt : k < l.length
    · obtain ⟨g, o, y, rfl, hy, hc⟩ := HA.out.cells HB.out hlt
      have HG := Lib.hid hc
      have HY := Lib.hid hy
      clear hy hc
      go_upto_region 6 with (first | (refine wpList_load_at rfl 68 _ rfl g (o + k * 2) y.cells _ rfl HG.out Tryz.underlying68 rfl st_size ?_; dsimp only [St.cells]))
      have hn1 := one_new wr (stbox y)
      have HB1 := Lib.hid (below_then HB.out hn1)
      have HN := Lib.hid (heap_alloc_new wr (stbox y))
      clear hn1 HB HG
      dsimp only [stbox] at HB1 HN
      generalize wr.heap.size = gp at HN ⊢
      generalize wr.alloc _ = w1 at HB1 HN ⊢
      have c0 : w1.cell? ⟨gp, 0, none⟩ = some (.int .i64 y.atom) := cell_of_row _ _ 0 _ _ _ HN.out
      have c1 : w1.cell? ⟨gp, 1, none⟩ = some (.int .i64 y.n) := cell_of_row _ _ 1 _ _ _ HN.out
      cases H1 : Wr.num y.atom
      · have HM := Lib.hid (Fi.all_bad (f := Wr.stAt l) (Fi.range_at hlt) (Wr.st_wrong HY.out (by rw [H1]; rfl)))
        go_wp2_with (first | (go_at_call 26; refine (isnum_at H1).mono ?_; rintro e w' ⟨rfl, rfl⟩) | (go_at_call 31; refine (iscnt_at H2).mono ?_; rintro e w' ⟨rfl, rfl⟩))
        go_ret
        exact ⟨by rw [HR.out, HM.out]; rfl, HB1.out⟩
      cases H2 : Wr.cnt y.n
      · have HM := Lib.hid (Fi.all_bad (f := Wr.stAt l) (Fi.range_at hlt) (Wr.st_wrong HY.out (by rw [H2]; simp)))
        go_wp2_with (first | (go_at_call 26; refine (isnum_at H1).mono ?_; rintro e w' ⟨rfl, rfl⟩) | (go_at_call 31; refine (iscnt_at H2).mono ?_; rintro e w' ⟨rfl, rfl⟩))
        go_ret
        exact ⟨by rw [HR.out, HM.out]; rfl, HB1.out⟩
      have lc0 := fun x : Later w1 => later_cell c0 x
      haveI := later_some w1
      rcases k with - | j
      · have HM := Lib.hid (Fi.all_good (f := Wr.stAt l) (Fi.range_at hlt) HL.out ((Wr.st_zero HY.out).trans (by rw [H1, H2]; rfl)))
        go_upto_region 8 with (first | (go_at_call 26; refine (isnum_at H1).mono ?_; rintro e w' ⟨rfl, rfl⟩) | (go_at_call 31; refine (iscnt_at H2).mono ?_; rintro e w' ⟨rfl, rfl⟩))
        refine wp_region_later (W := w1) (by kernel_rfl) (by kernel_rfl) (Below.refl _ _) ?_
        repeat (go_big_quiet_step (fail))
        refine wpQuiet_nil ?_
        rintro _ ⟨z, rfl⟩
        go_wp2_with fail
        exact ⟨⟨1, by omega, rfl, HM.out, below_then HB1.out z.below⟩, by simp [intOf]; omega⟩
      · obtain ⟨g', o', y', hA', hy', hc'⟩ := HA.out.cells HB1.out (show j < l.length by omega)
        cases hA'
        have HY' := Lib.hid hy'
        have ld0 := fun x : Later w1 => later_cell (hc' 0 _ rfl) x
        rw [Nat.add_zero] at ld0
        have uj : IntKind.i64.wrap (((j + 1 : Nat) : Int) - 1) = (j : Int) := by rw [show ((j + 1 : Nat) : Int) - 1 = (j : Int) by omega]; exact IntWalk.i64_in _ (by omega)
        clear hy' hc'
        by_cases hw : y.atom ≤ y'.atom
        · have HM := Lib.hid (Fi.all_bad (f := Wr.stAt l) (Fi.range_at hlt) ((Wr.st_succ HY.out HY'.out).trans (by rw [H1, H2, decide_eq_false (by omega)]; rfl)))
          go_upto_region 8 with (first | (go_at_call 26; refine (isnum_at H1).mono ?_; rintro e w' ⟨rfl, rfl⟩) | (go_at_call 31; refine (iscnt_at H2).mono ?_; rintro e w' ⟨rfl, rfl⟩))
          refine wp_region_later (W := w1) (by kernel_rfl) (by kernel_rfl) (Below.refl _ _) ?_
          repeat (go_big_quiet_step (fail))
          refine wpQuiet_nil ?_
          rintro _ ⟨z, rfl⟩
          go_wp2_with fail
          go_ret
          exact ⟨by rw [HR.out, HM.out]; rfl, below_then HB1.out z.below⟩
        · have HM := Lib.hid (Fi.all_good (f := Wr.stAt l) (Fi.range_at hlt) HL.out ((Wr.st_succ HY.out HY'.out).trans (by rw [H1, H2, decide_eq_true (by omega)]; rfl)))
          go_upto_region 8 with (first | (go_at_call 26; refine (isnum_at H1).mono ?_; rintro e w' ⟨rfl, rfl⟩) | (go_at_call 31; refine (iscnt_at H2).mono ?_; rintro e w' ⟨rfl, rfl⟩))
          refine wp_region_later (W := w1) (by kernel_rfl) (by kernel_rfl) (Below.refl _ _) ?_
          repeat (go_big_quiet_step (fail))
          refine wpQuiet_nil ?_
          rintro _ ⟨z, rfl⟩
          go_wp2_with fail
          exact ⟨⟨j + 1 + 1, by omega, rfl, HM.out, below_then HB1.out z.below⟩, by simp [intOf]; omega⟩
    · have HM := Lib.hid (Fi.all_end (l := List.range l.length) (by rw [List.length_range]; exact hlt) HL.out)
      go_wp2_with fail
      go_ret
      exact ⟨by rw [HR.out, HM.out]; rfl, HB.out⟩
end Go.Proofs.YtgenmebmdpnjhaaGreat
