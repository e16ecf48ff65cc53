
/- Chapter 10's examples: ConfigKnown answers true, from whatever world. -/
import Derived.Test.YtegkphbnedbgfaaCfgHand
namespace Go.Proofs.Ytegkphbnedbgfaa
open Go.RowKit
set_option linter.unusedVariables false

theorem rc_new (w : World) (q : List Int) : Ri (w.alloc (.cells (q.map icell).toArray 3)) (some ⟨w.heap.size, 0, none⟩) q.length q :=
  ⟨rfl, .inr ⟨_, _, rfl, fun j u hj => by
    rw [World.cell?_alloc_new, Nat.zero_add, List.getElem?_toArray, List.getElem?_map, hj]; rfl⟩⟩
section
variable {W : World} {A : Option Addr} {n c : Nat} {x : Cf}
/-- The same contracts, in a later world, with the answer given. -/
theorem check_l (h : Ri W A n x.par) (hn : n ≤ 1000) {v : Int} (hv : x.check = v) (y : Later W) : Calls Try.prog 7 #[cfv A n c x] y.at_ fun e w' => e = .returned (.int .i64 v) ∧ ∃ z : Later W, w' = z.at_ :=
  calls_later (hv ▸ check_any (h.later y.below) hn)
theorem brokers_l (h : Ri W A n x.par) (hn : n ≤ 1000) {v : Int} (hv : x.brokers = v) (y : Later W) : Calls Try.prog 9 #[cfv A n c x] y.at_ fun e w' => e = .returned (.int .i64 v) ∧ ∃ z : Later W, w' = z.at_ :=
  calls_later (hv ▸ brokers_any (h.later y.below) hn)
theorem flying_l (h : Ri W A n x.par) (hn : n ≤ 1000) {v : Int} (hv : x.flying = v) (y : Later W) : Calls Try.prog 10 #[cfv A n c x] y.at_ fun e w' => e = .returned (.int .i64 v) ∧ ∃ z : Later W, w' = z.at_ :=
  calls_later (hv ▸ flying_any (h.later y.below) hn)
theorem room_l (h : Ri W A n x.par) (hn : n ≤ 1000) {v : Int} (hv : x.room = v) (y : Later W) : Calls Try.prog 8 #[cfv A n c x] y.at_ fun e w' => e = .returned (.int .i64 v) ∧ ∃ z : Later W, w' = z.at_ :=
  calls_later (hv ▸ room_any (h.later y.below) hn)
theorem rcheck_l (h : Ri W A n x.par) (hn : n ≤ 1000) {v : Int} (hv : x.check = v) (y : Later W) : Calls Try.prog 15 #[cfv A n c x] y.at_ fun e w' => e = .returned (.int .i64 v) ∧ ∃ z : Later W, w' = z.at_ :=
  calls_later (hv ▸ rcheck_any (h.later y.below) hn)
theorem rbrokers_l (h : Ri W A n x.par) (hn : n ≤ 1000) {v : Int} (hv : x.brokers = v) (y : Later W) : Calls Try.prog 16 #[cfv A n c x] y.at_ fun e w' => e = .returned (.int .i64 v) ∧ ∃ z : Later W, w' = z.at_ :=
  calls_later (hv ▸ rbrokers_any (h.later y.below) hn)
theorem rflying_l (h : Ri W A n x.par) (hn : n ≤ 1000) {v : Int} (hv : x.flying = v) (y : Later W) : Calls Try.prog 17 #[cfv A n c x] y.at_ fun e w' => e = .returned (.int .i64 v) ∧ ∃ z : Later W, w' = z.at_ :=
  calls_later (hv ▸ rflying_any (h.later y.below) hn)
theorem rroom_l (h : Ri W A n x.par) (hn : n ≤ 1000) {v : Int} (hv : x.room = v) (y : Later W) : Calls Try.prog 18 #[cfv A n c x] y.at_ fun e w' => e = .returned (.int .i64 v) ∧ ∃ z : Later W, w' = z.at_ :=
  calls_later (hv ▸ rroom_any (h.later y.below) hn)
end
theorem sl_size1 : (Try.prog.info? 22).map (·.size) = some 1 := by kernel_rfl
theorem later_row {W : World} {g : Nat} {o : Obj} (h : W.heap[g]? = some o) (y : Later W) : y.at_.heap[g]? = some o := below_row y.below h
/-- A config's six cells, in each later world. -/
structure Six (W : World) (g : Nat) (A : Option Addr) (n c : Nat) (x : Cf) : Prop where
  q0 : ∀ y : Later W, y.at_.cell? ⟨g, 0, none⟩ = some (.slice A n c)
  q1 : ∀ y : Later W, y.at_.cell? ⟨g, 1, none⟩ = some (.int .i64 x.win)
  q2 : ∀ y : Later W, y.at_.cell? ⟨g, 2, none⟩ = some (.int .i64 x.res)
  q3 : ∀ y : Later W, y.at_.cell? ⟨g, 3, none⟩ = some (.int .i64 x.que)
  q4 : ∀ y : Later W, y.at_.cell? ⟨g, 4, none⟩ = some (.int .i64 x.fli)
  q5 : ∀ y : Later W, y.at_.cell? ⟨g, 5, none⟩ = some (.int .i64 x.sta)
theorem six_later {W : World} {g : Nat} {A : Option Addr} {n c : Nat} {x : Cf} (h : W.heap[g]? = some (cfbox A n c x)) : Six W g A n c x :=
  ⟨later_cell (cfbox_cells h 0 _ rfl), later_cell (cfbox_cells h 1 _ rfl), later_cell (cfbox_cells h 2 _ rfl), later_cell (cfbox_cells h 3 _ rfl), later_cell (cfbox_cells h 4 _ rfl), later_cell (cfbox_cells h 5 _ rfl)⟩
abbrev kc : Cf := ⟨[0, 0], 1, 1, 1, 2, 0⟩
abbrev kd : Cf := ⟨[1], 0, 1, 1, 2, 0⟩
abbrev ke : Cf := ⟨[0, 0], 1, 1, 1, 2, 4611686018427387905⟩
abbrev kg : Cf := ⟨[], 8, 8, 8, 4, 4611686018427387904⟩
abbrev kz : Cf := ⟨[], 0, 0, 0, 0, 0⟩
set_option maxRecDepth 100000 in
set_option maxHeartbeats 8000000 in
theorem cknown_any (w : World) : Calls Try.prog 3 #[] w fun e w' => e = .returned (.bool true) ∧ Below w.heap.size w w' := by
  have c1 : Hid (kc.check = 0) := Lib.hid (by decide +kernel)
  have c2 : Hid (kc.room = 35) := Lib.hid (by decide +kernel)
  have c3 : Hid (kc.brokers = 3) := Lib.hid (by decide +kernel)
  have c4 : Hid (kc.flying = 6) := Lib.hid (by decide +kernel)
  have d1 : Hid (kd.check = 3) := Lib.hid (by decide +kernel)
  have d2 : Hid (kd.room = 0) := Lib.hid (by decide +kernel)
  have e1 : Hid (ke.check = 1) := Lib.hid (by decide +kernel)
  have e2 : Hid (ke.brokers = 0) := Lib.hid (by decide +kernel)
  have g1 : Hid (kg.check = 0) := Lib.hid (by decide +kernel)
  have g2 : Hid (kg.brokers = 1) := Lib.hid (by decide +kernel)
  have z1 : Hid (kz.check = 1) := Lib.hid (by decide +kernel)
  go_enter Try.func3, Try.ntmps3
  go_upto_region 2 with fail
  have hr := (rc_new w [0, 0]).later (new_below _ (cfbox (some ⟨w.heap.size, 0, none⟩) 2 2 kc))
  have hB := then_below (new_below w (.cells (([0, 0] : List Int).map icell).toArray 3)) (new_below _ (cfbox (some ⟨w.heap.size, 0, none⟩) 2 2 kc))
  have hw := heap_alloc_new (w.alloc (.cells (([0, 0] : List Int).map icell).toArray 3)) (cfbox (some ⟨w.heap.size, 0, none⟩) 2 2 kc)
  rw [show (w.alloc (.cells (([0, 0] : List Int).map icell).toArray 3)).heap.size = w.heap.size + 1 from World.size_alloc _ _] at hw
  change Ri ((w.alloc (.cells #[.int .i64 0, .int .i64 0] 3)).alloc (.cells #[.slice (some ⟨w.heap.size, 0, none⟩) 2 2, .int .i64 1, .int .i64 1, .int .i64 1, .int .i64 2, .int .i64 0] 24)) (some ⟨w.heap.size, 0, none⟩) 2 [0, 0] at hr
  change Below w.heap.size w ((w.alloc (.cells #[.int .i64 0, .int .i64 0] 3)).alloc (.cells #[.slice (some ⟨w.heap.size, 0, none⟩) 2 2, .int .i64 1, .int .i64 1, .int .i64 1, .int .i64 2, .int .i64 0] 24)) at hB
  change ((w.alloc (.cells #[.int .i64 0, .int .i64 0] 3)).alloc (.cells #[.slice (some ⟨w.heap.size, 0, none⟩) 2 2, .int .i64 1, .int .i64 1, .int .i64 1, .int .i64 2, .int .i64 0] 24)).heap[w.heap.size + 1]? = some (cfbox (some ⟨w.heap.size, 0, none⟩) 2 2 kc) at hw
  generalize (w.alloc (.cells #[.int .i64 0, .int .i64 0] 3)).alloc (.cells #[.slice (some ⟨w.heap.size, 0, none⟩) 2 2, .int .i64 1, .int .i64 1, .int .i64 1, .int .i64 2, .int .i64 0] 24) = W1 at hr hB hw ⊢
  have HR := Lib.hid hr
  have HB := Lib.hid hB
  have HW := Lib.hid hw
  clear hr hB hw
  obtain ⟨q0, q1, q2, q3, q4, q5⟩ := six_later HW.out
  haveI := later_some W1
  refine wp_plain_later (W := W1) (Below.refl _ _) ?_
  repeat (go_big_quiet_step (first | (go_at_call 7; exact check_l (x := kc) HR.out (by decide) c1.out _) | (go_at_call 8; exact room_l (x := kc) HR.out (by decide) c2.out _) | (go_at_call 9; exact brokers_l (x := kc) HR.out (by decide) c3.out _) | (go_at_call 10; exact flying_l (x := kc) HR.out (by decide) c4.out _)))
  refine wpQuiet_nil ?_
  rintro _ ⟨y, rfl⟩
  have HR2 := Lib.hid (HR.out.later y.below)
  have HB2 := Lib.hid (then_below HB.out y.below)
  have HW2 := Lib.hid (later_row HW.out y)
  have p0 := q0 y
  have p1 := q1 y
  have p2 := q2 y
  have p3 := q3 y
  have p4 := q4 y
  have p5 := q5 y
  clear q0 q1 q2 q3 q4 q5 HR HB HW
  generalize y.at_ = w2 at HR2 HB2 HW2 p0 p1 p2 p3 p4 p5 ⊢
  have s2 : w.heap.size + 1 < w2.heap.size := (Array.getElem?_eq_some_iff.1 HW2.out).1
  go_upto_region 7 with fail
  have d00 := heap_alloc_new w2 (cfbox (some ⟨w2.heap.size + 1, 0, none⟩) 1 1 kd)
  have b01 := new_below w2 (cfbox (some ⟨w2.heap.size + 1, 0, none⟩) 1 1 kd)
  have sz := World.size_alloc w2 (cfbox (some ⟨w2.heap.size + 1, 0, none⟩) 1 1 kd)
  have d02 := rc_new (w2.alloc (cfbox (some ⟨w2.heap.size + 1, 0, none⟩) 1 1 kd)) [1]
  have b02 := new_below (w2.alloc (cfbox (some ⟨w2.heap.size + 1, 0, none⟩) 1 1 kd)) (.cells (([1] : List Int).map icell).toArray 3)
  rw [sz] at d02
  have HB3 := Lib.hid (then_below (then_below HB2.out b01) b02)
  have HR3 := Lib.hid ((HR2.out.later b01).later b02)
  have HW3 := Lib.hid (below_row b02 (below_row b01 HW2.out))
  have HD3 := Lib.hid (below_row b02 d00)
  have HP3 := Lib.hid d02
  clear d00 b01 sz d02 b02 HB2 HR2 HW2 p0 p1 p2 p3 p4 p5 s2
  change Hid (Below w.heap.size w ((w2.alloc (.cells #[.slice (some ⟨w2.heap.size + 1, 0, none⟩) 1 1, .int .i64 0, .int .i64 1, .int .i64 1, .int .i64 2, .int .i64 0] 24)).alloc (.cells #[.int .i64 1] 3))) at HB3
  change Hid (Ri ((w2.alloc (.cells #[.slice (some ⟨w2.heap.size + 1, 0, none⟩) 1 1, .int .i64 0, .int .i64 1, .int .i64 1, .int .i64 2, .int .i64 0] 24)).alloc (.cells #[.int .i64 1] 3)) (some ⟨w.heap.size, 0, none⟩) 2 [0, 0]) at HR3
  change Hid (((w2.alloc (.cells #[.slice (some ⟨w2.heap.size + 1, 0, none⟩) 1 1, .int .i64 0, .int .i64 1, .int .i64 1, .int .i64 2, .int .i64 0] 24)).alloc (.cells #[.int .i64 1] 3)).heap[w.heap.size + 1]? = some (cfbox (some ⟨w.heap.size, 0, none⟩) 2 2 kc)) at HW3
  change Hid (((w2.alloc (.cells #[.slice (some ⟨w2.heap.size + 1, 0, none⟩) 1 1, .int .i64 0, .int .i64 1, .int .i64 1, .int .i64 2, .int .i64 0] 24)).alloc (.cells #[.int .i64 1] 3)).heap[w2.heap.size]? = some (cfbox (some ⟨w2.heap.size + 1, 0, none⟩) 1 1 kd)) at HD3
  change Hid (Ri ((w2.alloc (.cells #[.slice (some ⟨w2.heap.size + 1, 0, none⟩) 1 1, .int .i64 0, .int .i64 1, .int .i64 1, .int .i64 2, .int .i64 0] 24)).alloc (.cells #[.int .i64 1] 3)) (some ⟨w2.heap.size + 1, 0, none⟩) 1 [1]) at HP3
  generalize (w2.alloc (.cells #[.slice (some ⟨w2.heap.size + 1, 0, none⟩) 1 1, .int .i64 0, .int .i64 1, .int .i64 1, .int .i64 2, .int .i64 0] 24)).alloc (.cells #[.int .i64 1] 3) = w3 at HB3 HR3 HW3 HD3 HP3 ⊢
  generalize w2.heap.size = gd at HD3 HP3 ⊢
  haveI := later_some w3
  obtain ⟨q0, q1, q2, q3, q4, q5⟩ := six_later HW3.out
  have p0 := q0 ⟨w3, Below.refl _ _⟩
  have p1 := q1 ⟨w3, Below.refl _ _⟩
  have p2 := q2 ⟨w3, Below.refl _ _⟩
  have p3 := q3 ⟨w3, Below.refl _ _⟩
  have p4 := q4 ⟨w3, Below.refl _ _⟩
  have p5 := q5 ⟨w3, Below.refl _ _⟩
  clear q0 q1 q2 q3 q4 q5
  dsimp only at p0 p1 p2 p3 p4 p5
  go_upto_region 10 with fail
  have d00 := heap_alloc_new w3 (cfbox (some ⟨w.heap.size, 0, none⟩) 2 2 ke)
  have b01 := new_below w3 (cfbox (some ⟨w.heap.size, 0, none⟩) 2 2 ke)
  have sz := World.size_alloc w3 (cfbox (some ⟨w.heap.size, 0, none⟩) 2 2 ke)
  have d02 := heap_alloc_new (w3.alloc (cfbox (some ⟨w.heap.size, 0, none⟩) 2 2 ke)) (cfbox none 0 0 kg)
  have b02 := new_below (w3.alloc (cfbox (some ⟨w.heap.size, 0, none⟩) 2 2 ke)) (cfbox none 0 0 kg)
  rw [sz] at d02
  have HB4 := Lib.hid (then_below (then_below HB3.out b01) b02)
  have HR4 := Lib.hid ((HR3.out.later b01).later b02)
  have HP4 := Lib.hid ((HP3.out.later b01).later b02)
  have HD4 := Lib.hid (below_row b02 (below_row b01 HD3.out))
  have HE4 := Lib.hid (below_row b02 d00)
  have HG4 := Lib.hid d02
  clear d00 b01 sz d02 b02 HB3 HR3 HW3 HD3 HP3 p0 p1 p2 p3 p4 p5
  dsimp only [cfbox, cfcells, kd, ke, kg] at HB4 HR4 HP4 HD4 HE4 HG4
  generalize (w3.alloc _).alloc _ = w4 at HB4 HR4 HP4 HD4 HE4 HG4 ⊢
  generalize w3.heap.size = ge at HE4 HG4 ⊢
  haveI := later_some w4
  obtain ⟨q0, q1, q2, q3, q4, q5⟩ := six_later (A := some ⟨gd + 1, 0, none⟩) (n := 1) (c := 1) (x := kd) HD4.out
  obtain ⟨r0, r1, r2, r3, r4, r5⟩ := six_later (A := some ⟨w.heap.size, 0, none⟩) (n := 2) (c := 2) (x := ke) HE4.out
  obtain ⟨t0, t1, t2, t3, t4, t5⟩ := six_later (A := none) (n := 0) (c := 0) (x := kg) HG4.out
  have HN := Lib.hid (Ri.empty w4 none)
  refine wp_plain_later (W := w4) (Below.refl _ _) ?_
  repeat (go_big_quiet_step (fail))
  go_big_quiet_step (first | (go_at_call 7; exact check_l (x := kd) HP4.out (by decide) d1.out _))
  repeat (go_big_quiet_step (fail))
  go_big_quiet_step (first | (go_at_call 8; exact room_l (x := kd) HP4.out (by decide) d2.out _))
  repeat (go_big_quiet_step (fail))
  go_big_quiet_step (first | (go_at_call 7; exact check_l (x := ke) HR4.out (by decide) e1.out _))
  repeat (go_big_quiet_step (fail))
  go_big_quiet_step (first | (go_at_call 9; exact brokers_l (x := ke) HR4.out (by decide) e2.out _))
  repeat (go_big_quiet_step (fail))
  go_big_quiet_step (first | (go_at_call 7; exact check_l (x := kg) HN.out (by decide) g1.out _))
  repeat (go_big_quiet_step (fail))
  go_big_quiet_step (first | (go_at_call 9; exact brokers_l (x := kg) HN.out (by decide) g2.out _))
  repeat (go_big_quiet_step (fail))
  go_big_quiet_step (first | (go_at_call 7; exact check_l (x := kz) HN.out (by decide) z1.out _))
  repeat (go_big_quiet_step (fail))
  refine wpQuiet_nil ?_
  rintro _ ⟨y, rfl⟩
  have HB5 := Lib.hid (then_below HB4.out y.below)
  go_wp2_with fail
  go_ret
  exact ⟨rfl, HB5.out⟩
theorem cknown (w : World) : Calls Try.prog 14 #[] w fun e w' => e = .returned (.bool true) ∧ Below w.heap.size w w' := by
  go_enter Try.func14, Try.ntmps14
  go_wp2_with fail
  refine (cknown_any w).mono ?_
  rintro e w' ⟨rfl, hk⟩
  go_wp2_with fail
  go_ret
  exact ⟨rfl, hk⟩
end Go.Proofs.Ytegkphbnedbgfaa
