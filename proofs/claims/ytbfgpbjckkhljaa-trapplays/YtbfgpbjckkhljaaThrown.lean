/- TrapPlays: thrown. -/
import Derived.Test.YtbfgpbjckkhljaaRunSub
namespace Go.Proofs.Ytbfgpbjckkhljaa
open Go.RowKit

theorem assert3_yes (W : World) (v : Value) : (Instr.typeAssert (.iface 3 v) 20 3 true).run Try.prog W = .ok (.tuple #[v, .bool true]) W := by kernel_rfl
theorem assert22_3 (W : World) (v : Value) : (Instr.typeAssert (.iface 22 v) 20 3 true).run Try.prog W = .ok (.tuple #[.int .i64 0, .bool false]) W := by kernel_rfl

theorem t34_idle (p : Addr) (w : World) :
    CallsD Try.prog 34 #[.pointer (some p)] .returning w fun e u' w' => e = .returned (.tuple #[]) ∧ u' = .returning ∧ w = w' := by
  refine callsD_of_wpS Try.func34 rfl fun c₀ cs hu => ?_
  apply wpS_seq
  apply wpS_region
  simp [wpOpsS, go_sem, recoverD, hu, Try.ntmps34, Exit.thenS]
  refine wpS_of_wp ?_
  change Code.wp _ _ _ { tmps := #[Value.pointer (some p), undef, undef, undef, undef, Value.nilIface, undef, undef, undef, undef, undef, undef, undef, undef, undef, undef], defers := [] } w
  go_wp2
  cases c₀
  simp_all [bodyPostS, results, Try.results34]

theorem t34_int (p : Addr) (x : Value) (n : Int) (older : List PanicEntry) (w : World) (hc : w.cell? p = some x) (hz : w.frozen? p = false) (h0 : 0 ≤ n) (h8 : n ≤ 100) :
    CallsD Try.prog 34 #[.pointer (some p)] (.panicking ({ v := .iface 3 (.int .i64 n), recovered := false } :: older)) w fun e u' w' =>
      e = .returned (.tuple #[]) ∧ u' = .panicking ({ v := .iface 3 (.int .i64 n), recovered := true } :: older) ∧ w' = w.setCell p (.int .i64 (50 + n)) := by
  have ha := fun W => assert3_yes W (.int .i64 n)
  refine callsD_of_wpS Try.func34 rfl fun c₀ cs hu => ?_
  apply wpS_seq
  apply wpS_region
  simp [wpOpsS, go_sem, recoverD, hu, Try.ntmps34, Exit.thenS]
  refine wpS_of_wp ?_
  change Code.wp _ _ _ { tmps := #[Value.pointer (some p), undef, undef, undef, undef, Value.iface 3 (Value.int IntKind.i64 n), undef, undef, undef, undef, undef, undef, undef, undef, undef, undef], defers := [] } w
  go_wp2
  simp [bodyPostS, results, Try.results34]

theorem t34_errno (p : Addr) (x : Value) (n : Int) (older : List PanicEntry) (w : World) (hc : w.cell? p = some x) (hz : w.frozen? p = false) :
    CallsD Try.prog 34 #[.pointer (some p)] (.panicking ({ v := .iface 22 (.int .i64 n), recovered := false } :: older)) w fun e u' w' =>
      e = .returned (.tuple #[]) ∧ u' = .panicking ({ v := .iface 22 (.int .i64 n), recovered := true } :: older) ∧ w' = w.setCell p (.int .i64 n) := by
  have ha := fun W => assert22_3 W (.int .i64 n)
  have hb := fun W => assert22_yes W (.int .i64 n)
  refine callsD_of_wpS Try.func34 rfl fun c₀ cs hu => ?_
  apply wpS_seq
  apply wpS_region
  simp [wpOpsS, go_sem, recoverD, hu, Try.ntmps34, Exit.thenS]
  refine wpS_of_wp ?_
  change Code.wp _ _ _ { tmps := #[Value.pointer (some p), undef, undef, undef, undef, Value.iface 22 (Value.int IntKind.i64 n), undef, undef, undef, undef, undef, undef, undef, undef, undef, undef], defers := [] } w
  go_wp2
  simp [bodyPostS, results, Try.results34]

def thrownWorld (w : World) : World := w.alloc (.cells #[.int .i64 0] 3)

theorem thrown_of (F : FuncId) (cap : Array Value) (w : World) (o : Int) (ho : OutOk o) (Q : World → Prop)
    (hent : ∀ w, (callFunc F cap).run Try.prog w = .ok (.enter F cap) w)
    (h : Calls Try.prog F cap (thrownWorld w) fun e w1 => Ends (outOf o) e ∧ Q w1 ∧ w1.heap[w.heap.size]? = (thrownWorld w).heap[w.heap.size]?) :
    Calls Try.prog 19 #[.func (.func F) #[] cap] w fun e w' => e = .returned (.int .i64 o) ∧ ∃ w1, Q w1 ∧ Kept (· = w.heap.size) w1 w' := by
  have hmf : ∀ (fn : Fn) (first cap : Array Value) (w : World), (Instr.makeFunc fn first cap).run Try.prog w = .ok (.func fn first cap) w := fun _ _ _ _ => rfl
  go_enter_defers Try.func19, Try.ntmps19
  go_wp2_with fail
  refine Calls.mono h ?_
  rintro e w1 ⟨he, hq, hcell⟩
  have hc : w1.cell? ⟨w.heap.size, 0, none⟩ = some (.int .i64 0) := by
    rw [World.cell?_of_block (w := thrownWorld w) (a := ⟨w.heap.size, 0, none⟩) hcell]
    simp [thrownWorld, go_sem]
  have hz : w1.frozen? ⟨w.heap.size, 0, none⟩ = false := by
    rw [World.frozen?_of_block (w := thrownWorld w) (a := ⟨w.heap.size, 0, none⟩) hcell]
    simp [thrownWorld, go_sem]
  clear hcell h hent
  by_cases h0 : o = 0
  · subst h0
    obtain ⟨v, rfl⟩ := he
    clear ho
    go_wp2
    refine leaves_cons (f := 34) (args := #[.pointer (some ⟨w.heap.size, 0, none⟩)]) (by simp) (by simp [go_sem]) ?_
    refine (t34_idle ⟨w.heap.size, 0, none⟩ _).mono ?_
    rintro e u' w'' ⟨rfl, rfl, rfl⟩
    have hs := World.cell?_setCell_same _ _ (v := .int .i64 0) hc
    simp [Leaves, settle, results, Try.results19, go_sem, hs]
    exact ⟨w1, hq, Kept.setCell (S := (· = w.heap.size)) _ ⟨w.heap.size, 0, none⟩ rfl _⟩
  · by_cases h50 : o < 50
    · have e1 : outOf o = .err o := by unfold outOf; rw [if_neg h0, if_pos h50]
      rw [e1] at he
      obtain ⟨c, rfl, older, rfl, hold⟩ := he
      refine leaves_cons (f := 34) (args := #[.pointer (some ⟨w.heap.size, 0, none⟩)]) (by simp) (by simp [go_sem]) ?_
      refine (t34_errno ⟨w.heap.size, 0, none⟩ _ o older _ hc hz).mono ?_
      rintro e u' w'' ⟨rfl, rfl, rfl⟩
      have hs := World.cell?_setCell_same _ _ (v := .int .i64 o) hc
      simp [settle_chain hold, Leaves, results, Try.results19, go_sem, hs]
      exact ⟨w1, hq, Kept.setCell (S := (· = w.heap.size)) _ ⟨w.heap.size, 0, none⟩ rfl _⟩
    · have e1 : outOf o = .other 3 (.int .i64 (o - 50)) := by unfold outOf; rw [if_neg h0, if_neg h50]
      have ho' : 50 ≤ o ∧ o ≤ 58 := by rcases ho with ho | ho <;> omega
      rw [e1] at he
      obtain ⟨_, c, rfl, older, rfl, hold⟩ := he
      refine leaves_cons (f := 34) (args := #[.pointer (some ⟨w.heap.size, 0, none⟩)]) (by simp) (by simp [go_sem]) ?_
      refine (t34_int ⟨w.heap.size, 0, none⟩ _ (o - 50) older _ hc hz (by omega) (by omega)).mono ?_
      have e2 : 50 + (o - 50) = o := by omega
      rw [e2]
      rintro e u' w'' ⟨rfl, rfl, rfl⟩
      have hs := World.cell?_setCell_same _ _ (v := .int .i64 o) hc
      simp [settle_chain hold, Leaves, results, Try.results19, go_sem, hs]
      exact ⟨w1, hq, Kept.setCell (S := (· = w.heap.size)) _ ⟨w.heap.size, 0, none⟩ rfl _⟩

end Go.Proofs.Ytbfgpbjckkhljaa
