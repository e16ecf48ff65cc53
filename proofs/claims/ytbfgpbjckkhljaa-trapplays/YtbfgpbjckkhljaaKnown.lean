/- TrapKnown: its closures, and the walk. -/
import Derived.Test.YtbfgpbjckkhljaaTrap
namespace Go.Proofs.Ytbfgpbjckkhljaa
open Go.RowKit

theorem k1 (w : World) : Calls Try.prog 8 #[] w fun e w1 => Ends (.err 3) e ∧ Below w.heap.size w w1 := by
  go_enter Try.func8, Try.ntmps8
  go_wp2_with (go_at_call 9; refine (stop_err 3 rfl _).mono ?_; rintro e w' ⟨rfl, rfl⟩)
  exact ⟨rfl, ⟨_, rfl, Chain.one _⟩, Below.refl _ _⟩

theorem k2 (w : World) : Calls Try.prog 11 #[] w fun e w1 => Ends .ok e ∧ Below w.heap.size w w1 := by
  go_enter Try.func11, Try.ntmps11
  go_wp2
  go_end0
  exact ⟨⟨_, rfl⟩, Below.refl _ _⟩

theorem k3 (w : World) : Calls Try.prog 12 #[] w fun e w1 => Ends (.err 6) e ∧ Below w.heap.size w w1 := by
  go_enter Try.func12, Try.ntmps12
  go_wp2_with (go_at_call 9; refine (stop_err 6 rfl _).mono ?_; rintro e w' ⟨rfl, rfl⟩)
  exact ⟨rfl, ⟨_, rfl, Chain.one _⟩, Below.refl _ _⟩

theorem k5 (w : World) : Calls Try.prog 14 #[] w fun e w1 => Ends .ok e ∧ Below w.heap.size w w1 := by
  go_enter Try.func14, Try.ntmps14
  go_wp2_with (first | (go_at_call 9; refine (stop_ok _).mono ?_; rintro e w' ⟨rfl, rfl⟩) | (go_at_call 15; refine (need_ok 1 _).mono ?_; rintro e w' ⟨rfl, rfl⟩))
  go_end0
  exact ⟨⟨_, rfl⟩, Below.refl _ _⟩

theorem k6 (w : World) : Calls Try.prog 16 #[] w fun e w1 => Ends (.err 4) e ∧ Below w.heap.size w w1 := by
  go_enter Try.func16, Try.ntmps16
  go_wp2_with (go_at_call 15; refine (need_err 4 rfl _).mono ?_; rintro e w' ⟨rfl, rfl⟩)
  exact ⟨rfl, ⟨_, rfl, Chain.one _⟩, Below.refl _ _⟩

theorem k71 (u : FrameMode) (w : World) : CallsD Try.prog 18 #[] u w fun e u' w1 => u' = u ∧ (e = .panicked [{ v := .iface 22 (.int .i64 7), recovered := false }] ∧ w = w1) := by
  go_enter_d Try.func18, Try.ntmps18
  go_wp2_with (go_at_call 9; refine (stop_err 7 rfl _).mono ?_; rintro e w' ⟨rfl, rfl⟩)
  exact ⟨rfl, rfl, rfl⟩

theorem k7 (w : World) : Calls Try.prog 17 #[] w fun e w1 => Ends (.err 7) e ∧ Below w.heap.size w w1 := by
  go_enter_defers Try.func17, Try.ntmps17
  go_wp2_with (go_at_call 9; refine (stop_err 5 rfl _).mono ?_; rintro e w' ⟨rfl, rfl⟩)
  refine leaves_cons (f := 18) (args := #[]) (by simp) (by simp [go_sem]) ?_
  refine (k71 _ _).mono ?_
  rintro e u' w'' ⟨rfl, rfl, rfl⟩
  simp [Leaves, raised]
  exact ⟨⟨_, rfl, _, rfl, by simp⟩, Below.refl _ _⟩

theorem eachKnown (b : Nat) (w : World) (h0 : w.cell? ⟨b, 0, none⟩ = some (.func (.func 11) #[] #[])) (h1 : w.cell? ⟨b, 1, none⟩ = some (.func (.func 12) #[] #[])) :
    Calls Try.prog 10 #[.slice (some ⟨b, 0, none⟩) 3 3] w fun e w' => e = .returned (.tuple #[.int .i64 1, .int .i64 6]) ∧ Below w.heap.size w w' := by
  have hb := World.block_lt_of_cell? w _ h0
  refine each_of b 0 3 3 (fun i => match i with | 0 => .func (.func 11) #[] #[] | 1 => .func (.func 12) #[] #[] | _ => .nilFunc) (fun i w' => i < 2 ∧ Below w.heap.size w w') _ (by omega) ?_ ?_ ?_ w ⟨by omega, Below.refl _ _⟩
  · rintro i w' hi ⟨h2, hB⟩
    rw [hB.cell (p := ⟨b, 0 + i, none⟩) hb]
    match i with
    | 0 => exact h0
    | 1 => exact h1
  · rintro i w' hi ⟨h2, hB⟩
    match i with
    | 0 =>
      refine (run_below 11 #[] w' .ok (fun _ => by kernel_rfl) k2).mono ?_
      rintro e w'' ⟨he, hb'⟩
      exact .inl ⟨he, by omega, hB.trans (hb'.mono hB.size)⟩
    | 1 =>
      refine (run_below 12 #[] w' (.err 6) (fun _ => by kernel_rfl) k3).mono ?_
      rintro e w'' ⟨he, hb'⟩
      exact .inr (.inl ⟨6, rfl, he, rfl, hB.trans (hb'.mono hB.size)⟩)
  · rintro w' ⟨h, _⟩
    omega

set_option maxHeartbeats 1000000 in
theorem known_walk (w : World) : Calls Try.prog 3 #[] w fun e w' => e = .returned (.bool true) ∧ Below w.heap.size w w' := by
  have hmf : ∀ (fn : Fn) (first cap : Array Value) (w : World), (Instr.makeFunc fn first cap).run Try.prog w = .ok (.func fn first cap) w := fun _ _ _ _ => rfl
  go_enter Try.func3, Try.ntmps3
  go_wp2_with fail
  refine (run_below 8 #[] _ (.err 3) (fun _ => by kernel_rfl) k1).mono ?_
  rintro e w1 ⟨he, hb1⟩
  change e = _ at he
  subst he
  go_wp2_with fail
  refine (eachKnown w1.heap.size _ (by simp) (by simp)).mono ?_
  rintro e w2 ⟨rfl, hb2⟩
  go_wp2_with fail
  refine (run_below 14 #[] _ .ok (fun _ => by kernel_rfl) k5).mono ?_
  rintro e w3 ⟨he, hb3⟩
  change e = _ at he
  subst he
  go_wp2_with fail
  refine (run_below 16 #[] _ (.err 4) (fun _ => by kernel_rfl) k6).mono ?_
  rintro e w4 ⟨he, hb4⟩
  change e = _ at he
  subst he
  go_wp2_with fail
  refine (each_nil _).mono ?_
  rintro e w5 ⟨rfl, rfl⟩
  go_wp2_with fail
  refine (run_below 17 #[] _ (.err 7) (fun _ => by kernel_rfl) k7).mono ?_
  rintro e w5 ⟨he, hb5⟩
  change e = _ at he
  subst he
  have B1 : Below (w.heap.size + 1) (w.alloc (Obj.cells #[Value.bool false] 4)) w1 := hb1.mono (by simp)
  have s1 : w.heap.size + 1 ≤ w1.heap.size := by have := hb1.size; simp at this; omega
  have B2 : Below (w.heap.size + 1) (w.alloc (Obj.cells #[Value.bool false] 4)) w2 := (B1.alloc s1 _).trans (hb2.mono (by simp; omega))
  have s2 : w.heap.size + 1 ≤ w2.heap.size := by have := B2.size; simp at this; omega
  have B3 := B2.trans (hb3.mono s2)
  have s3 : w.heap.size + 1 ≤ w3.heap.size := by have := B3.size; simp at this; omega
  have B4 := B3.trans (hb4.mono s3)
  have s4 : w.heap.size + 1 ≤ w4.heap.size := by have := B4.size; simp at this; omega
  have B5 := B4.trans (hb5.mono s4)
  have hlast : w5.cell? ⟨w.heap.size, 0, none⟩ = some (.bool false) := by rw [B5.cell (by simp)]; simp
  have B : Below w.heap.size w w5 := ((Below.refl _ _).alloc (Nat.le_refl _) _).trans (B5.mono (by omega))
  clear hb1 hb2 hb3 hb4 hb5 B1 B2 B3 B4 B5 s1 s2 s3 s4
  go_wp2_with fail
  refine (run_nil _).mono ?_
  rintro e w6 ⟨rfl, rfl⟩
  go_wp2_with fail
  go_ret
  exact ⟨rfl, B.alloc B.size _⟩

end Go.Proofs.Ytbfgpbjckkhljaa
