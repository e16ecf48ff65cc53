
/- The contracts of package trap's calls: Stop, Need, errnoOf, Run, Each. -/
import Derived.Test.YtgenmebmdpnjhaaGreatChecked
import Derived.WalkKit
import Derived.Defers
import Derived.Recover
import Derived.WalkSmall
import Derived.WalkLawsBesides
import Derived.Test.YtgenmebmdpnjhaaGreatG1a
namespace Go.Proofs.YtgenmebmdpnjhaaGreat
open Go.RowKit

theorem stop_ok (w : World) : Calls Tryz.prog 94 #[.int .i64 0] w fun e w' => e = .returned (.tuple #[]) ∧ w = w' := by
  go_enter Tryz.func94, Tryz.ntmps94
  go_wp2
  go_end0
  exact ⟨rfl, rfl⟩

theorem stop_err (n : Int) (hn : (n != 0) = true) (w : World) : Calls Tryz.prog 94 #[.int .i64 n] w fun e w' => e = .panicked [{ v := .iface 48 (.int .i64 n), recovered := false }] ∧ w = w' := by
  go_enter Tryz.func94, Tryz.ntmps94
  go_wp2
  exact ⟨rfl, rfl, rfl⟩

theorem need_ok (n : Int) (w : World) : Calls Tryz.prog 123 #[.bool true, .int .i64 n] w fun e w' => e = .returned (.tuple #[]) ∧ w = w' := by
  go_enter Tryz.func123, Tryz.ntmps123
  go_wp2
  go_end0
  exact ⟨rfl, rfl⟩

theorem need_zero (w : World) : Calls Tryz.prog 123 #[.bool false, .int .i64 0] w fun e w' => e = .returned (.tuple #[]) ∧ w = w' := by
  go_enter Tryz.func123, Tryz.ntmps123
  go_wp2_with (go_at_call 94; refine (stop_ok _).mono ?_; rintro e w' ⟨rfl, rfl⟩)
  go_end0
  exact ⟨rfl, rfl⟩

theorem need_err (n : Int) (hn : (n != 0) = true) (w : World) : Calls Tryz.prog 123 #[.bool false, .int .i64 n] w fun e w' => e = .panicked [{ v := .iface 48 (.int .i64 n), recovered := false }] ∧ w = w' := by
  go_enter Tryz.func123, Tryz.ntmps123
  go_wp2_with (go_at_call 94; refine (stop_err n hn _).mono ?_; rintro e w' ⟨rfl, rfl⟩)
  exact ⟨rfl, rfl, rfl⟩


theorem assert22_yes (W : World) (v : Value) : (Instr.typeAssert (.iface 48 v) 20 48 true).run Tryz.prog W = .ok (.tuple #[v, .bool true]) W := by kernel_rfl
theorem assert22_no (W : World) (u : TypeId) (v : Value) (h : u ≠ 48) : (Instr.typeAssert (.iface u v) 20 48 true).run Tryz.prog W = .ok (.tuple #[.int .i64 0, .bool false]) W := by
  have e : (Instr.typeAssert (.iface u v) 20 48 true).run Tryz.prog W = (if u = 48 then (pure (Value.tuple #[v, .bool true]) : Sem Value) else (do pure (Value.tuple #[← zeroValue 48, .bool false]))).run Tryz.prog W := by kernel_rfl
  have z : ((do pure (Value.tuple #[← zeroValue 48, .bool false])) : Sem Value).run Tryz.prog W = .ok (.tuple #[.int .i64 0, .bool false]) W := by kernel_rfl
  rw [e, if_neg h]
  exact z

theorem errno_is (n : Int) (w : World) : Calls Tryz.prog 119 #[.iface 48 (.int .i64 n)] w fun e w' => e = .returned (.int .i64 n) ∧ w = w' := by
  have h1 := fun W => assert22_yes W (.int .i64 n)
  go_enter Tryz.func119, Tryz.ntmps119
  go_wp2
  go_ret
  exact ⟨rfl, rfl⟩

theorem errno_not (u : TypeId) (v : Value) (hu : u ≠ 48) (w : World) : Calls Tryz.prog 119 #[.iface u v] w fun e w' => e = .panicked [{ v := .iface u v, recovered := false }] ∧ w = w' := by
  have h1 := fun W => assert22_no W u v hu
  clear hu
  go_enter Tryz.func119, Tryz.ntmps119
  go_wp2
  exact ⟨rfl, rfl, rfl⟩

/-- Run's deferred closure, its frame returning: nothing is caught. -/
theorem catch_idle (p : Addr) (w : World) :
    CallsD Tryz.prog 118 #[.pointer (some p)] .returning w fun e u' w' => e = .returned (.tuple #[]) ∧ u' = .returning ∧ w = w' := by
  refine callsD_of_wpS Tryz.func118 rfl fun c₀ cs hu => ?_
  apply wpS_seq
  apply wpS_region
  simp [wpOpsS, go_sem, recoverD, hu, Tryz.ntmps118, Exit.thenS]
  apply wpS_seq
  apply wpS_region
  simp [wpOpsS, go_sem, Exit.thenS]
  refine wpS_cond (t := false) (by simp [Act.eval, Array.replicate]) ?_
  simp only [Bool.false_eq_true, if_false]
  refine wpS_of_wp (wp_skip ?_)
  cases c₀
  simp_all [bodyPostS, results, Tryz.results118]

/-- .. panicking with an api.Errno: it is caught, the result is that. -/
theorem catch_errno (p : Addr) (x n : Int) (older : List PanicEntry) (w : World) (hc : w.cell? p = some (.int .i64 x)) (hz : w.frozen? p = false) :
    CallsD Tryz.prog 118 #[.pointer (some p)] (.panicking ({ v := .iface 48 (.int .i64 n), recovered := false } :: older)) w fun e u' w' =>
      e = .returned (.tuple #[]) ∧ u' = .panicking ({ v := .iface 48 (.int .i64 n), recovered := true } :: older) ∧ w' = w.setCell p (.int .i64 n) := by
  refine callsD_of_wpS Tryz.func118 rfl fun c₀ cs hu => ?_
  apply wpS_seq
  apply wpS_region
  simp [wpOpsS, go_sem, recoverD, hu, Tryz.ntmps118, Exit.thenS]
  apply wpS_seq
  apply wpS_region
  simp [wpOpsS, go_sem, Exit.thenS]
  refine wpS_cond (t := true) (by simp [Act.eval, Array.replicate]) ?_
  simp only [if_true]
  refine wpS_of_wp ?_
  go_wp2_with (go_at_call 119; refine (errno_is n _).mono ?_; rintro e w' ⟨rfl, rfl⟩)
  simp [bodyPostS, results, Tryz.results118]

/-- .. panicking with anything else: it panics anew with that. -/
theorem catch_other (p : Addr) (u : TypeId) (v : Value) (hut : u ≠ 48) (older : List PanicEntry) (w : World) :
    CallsD Tryz.prog 118 #[.pointer (some p)] (.panicking ({ v := .iface u v, recovered := false } :: older)) w fun e u' w' =>
      e = .panicked [{ v := .iface u v, recovered := false }] ∧ u' = .panicking ({ v := .iface u v, recovered := true } :: older) ∧ w = w' := by
  refine callsD_of_wpS Tryz.func118 rfl fun c₀ cs hu => ?_
  apply wpS_seq
  apply wpS_region
  simp [wpOpsS, go_sem, recoverD, hu, Tryz.ntmps118, Exit.thenS]
  apply wpS_seq
  apply wpS_region
  simp [wpOpsS, go_sem, Exit.thenS]
  refine wpS_cond (t := true) (by simp [Act.eval, Array.replicate]) ?_
  simp only [if_true]
  refine wpS_of_wp ?_
  go_wp2_with (go_at_call 119; refine (errno_not u v hut _).mono ?_; rintro e w' ⟨rfl, rfl⟩)
  simp [bodyPostS]

theorem run_nil (w : World) : Calls Tryz.prog 86 #[.nilFunc] w fun e w' => e = .returned (.int .i64 0) ∧ w' = w.alloc (.cells #[.int .i64 0] 48) := by
  have hnil : ∀ w : World, (binOp BinOp.eql 1 .nilFunc .nilFunc).run Tryz.prog w = .ok (.bool true) w := fun _ => by kernel_rfl
  go_enter_defers Tryz.func86, Tryz.ntmps86
  go_wp2
  simp [bodyPostD, Leaves, results, Tryz.results86, go_sem]

/-- What a function did: it returned, panicked with an api.Errno, or with something else. -/
inductive Out where
  | ok
  | err (n : Int)
  | other (u : TypeId) (v : Value)

/-- A panic's chain: its last value, ahead of elder ones, none of which ends the goroutine. -/
def Chain (v : Value) (c : List PanicEntry) : Prop := ∃ older : List PanicEntry, c = { v := v, recovered := false } :: older ∧ ∀ q ∈ older, q.goexit = false

theorem Chain.one (v : Value) : Chain v [{ v := v, recovered := false }] := ⟨[], rfl, by simp⟩

/-- How a call ends that did o: of a function without results. -/
def Ends : Out → Ending → Prop
  | .ok, e => ∃ v, e = .returned v
  | .err n, e => ∃ c, e = .panicked c ∧ Chain (.iface 48 (.int .i64 n)) c
  | .other u v, e => u ≠ 48 ∧ ∃ c, e = .panicked c ∧ Chain (.iface u v) c

/-- How Run ends. -/
def RunEnds : Out → Ending → Prop
  | .ok, e => e = .returned (.int .i64 0)
  | .err n, e => e = .returned (.int .i64 n)
  | .other u v, e => u ≠ 48 ∧ ∃ c, e = .panicked c ∧ Chain (.iface u v) c

/-- The world in which Run calls its function. -/
def runWorld (w : World) : World := w.alloc (.cells #[.int .i64 0] 48)

theorem settle_chain {v : Value} {older : List PanicEntry} (h : ∀ q ∈ older, q.goexit = false) : settle (.panicking ({ v := v, recovered := true } :: older)) = .returning := by
  have : older.dropWhile (!·.goexit) = [] := by
    induction older with
    | nil => rfl
    | cons a r ih => simp only [List.dropWhile_cons, h a List.mem_cons_self, Bool.not_false, if_true]; exact ih fun q hq => h q (List.mem_cons_of_mem _ hq)
  simp [settle, this]

/-- THE RULE OF Run: a function that did o, and left Run's own cell alone. -/
theorem run_of (F : FuncId) (cap : Array Value) (w : World) (o : Out) (Q : World → Prop)
    (hent : ∀ w, (callFunc F cap).run Tryz.prog w = .ok (.enter F cap) w)
    (h : Calls Tryz.prog F cap (runWorld w) fun e w1 => Ends o e ∧ Q w1 ∧ w1.heap[w.heap.size]? = (runWorld w).heap[w.heap.size]?) :
    Calls Tryz.prog 86 #[.func (.func F) #[] cap] w fun e w' => RunEnds o e ∧ ∃ w1, Q w1 ∧ Kept (· = w.heap.size) w1 w' := by
  have hmf : ∀ (fn : Fn) (first cap : Array Value) (w : World), (Instr.makeFunc fn first cap).run Tryz.prog w = .ok (.func fn first cap) w := fun _ _ _ _ => rfl
  have hnil : ∀ w : World, (binOp BinOp.eql 1 (.func (.func F) #[] cap) .nilFunc).run Tryz.prog w = .ok (.bool false) w := fun _ => by kernel_rfl
  go_enter_defers Tryz.func86, Tryz.ntmps86
  go_wp2_with fail
  refine Calls.mono h ?_
  rintro e w1 ⟨he, hq, hcell⟩
  have hc : w1.cell? ⟨w.heap.size, 0, none⟩ = some (.int .i64 0) := by
    rw [World.cell?_of_block (w := runWorld w) (a := ⟨w.heap.size, 0, none⟩) hcell]
    simp [runWorld, go_sem]
  have hz : w1.frozen? ⟨w.heap.size, 0, none⟩ = false := by
    rw [World.frozen?_of_block (w := runWorld w) (a := ⟨w.heap.size, 0, none⟩) hcell]
    simp [runWorld, go_sem]
  clear hcell h hent hnil
  cases o with
  | ok =>
    obtain ⟨v, rfl⟩ := he
    go_wp2
    refine leaves_cons (f := 118) (args := #[.pointer (some ⟨w.heap.size, 0, none⟩)]) (by simp) (by simp [go_sem]) ?_
    refine (catch_idle ⟨w.heap.size, 0, none⟩ _).mono ?_
    rintro e u' w'' ⟨rfl, rfl, rfl⟩
    have hs := World.cell?_setCell_same _ _ (v := .int .i64 0) hc
    simp [Leaves, settle, results, Tryz.results86, go_sem, hs]
    exact ⟨rfl, w1, hq, Kept.setCell (S := (· = w.heap.size)) _ ⟨w.heap.size, 0, none⟩ rfl _⟩
  | err n =>
    obtain ⟨c, rfl, older, rfl, hold⟩ := he
    refine leaves_cons (f := 118) (args := #[.pointer (some ⟨w.heap.size, 0, none⟩)]) (by simp) (by simp [go_sem]) ?_
    refine (catch_errno ⟨w.heap.size, 0, none⟩ 0 n older _ hc hz).mono ?_
    rintro e u' w'' ⟨rfl, rfl, rfl⟩
    have hs := World.cell?_setCell_same _ _ (v := .int .i64 n) hc
    simp [settle_chain hold, Leaves, results, Tryz.results86, go_sem, hs]
    exact ⟨rfl, w1, hq, Kept.setCell (S := (· = w.heap.size)) _ ⟨w.heap.size, 0, none⟩ rfl _⟩
  | other u v =>
    obtain ⟨hu, c, rfl, older, rfl, hold⟩ := he
    refine leaves_cons (f := 118) (args := #[.pointer (some ⟨w.heap.size, 0, none⟩)]) (by simp) (by simp [go_sem]) ?_
    refine (catch_other ⟨w.heap.size, 0, none⟩ u v hu older _).mono ?_
    rintro e u' w'' ⟨rfl, rfl, rfl⟩
    simp [Leaves, raised]
    refine ⟨⟨hu, _, rfl, _, rfl, ?_⟩, w1, hq, Kept.refl _ _⟩
    intro q hq
    cases hq with
    | head => rfl
    | tail _ hm => exact hold q hm

/-- Run of a function that did o and turned nothing that was there. -/
theorem run_below (F : FuncId) (cap : Array Value) (w : World) (o : Out)
    (hent : ∀ w, (callFunc F cap).run Tryz.prog w = .ok (.enter F cap) w)
    (h : ∀ w, Calls Tryz.prog F cap w fun e w1 => Ends o e ∧ Below w.heap.size w w1) :
    Calls Tryz.prog 86 #[.func (.func F) #[] cap] w fun e w' => RunEnds o e ∧ Below w.heap.size w w' := by
  refine (run_of F cap w o (fun w1 => Below (runWorld w).heap.size (runWorld w) w1) hent ?_).mono ?_
  · refine (h (runWorld w)).mono fun e w1 ⟨he, hb⟩ => ⟨he, hb, hb.block _ (by simp [runWorld])⟩
  · rintro e w' ⟨he, w1, hb, hk⟩
    have hs : (runWorld w).heap.size = w.heap.size + 1 := by simp [runWorld]
    have hs1 := hb.size
    refine ⟨he, ?_⟩
    have b0 : Below w.heap.size w (runWorld w) := (Below.refl _ _).alloc (Nat.le_refl _) _
    exact (b0.trans (hb.mono (by omega))).trans (hk.below (by omega) (by intro k hk e; omega))

end Go.Proofs.YtgenmebmdpnjhaaGreat
