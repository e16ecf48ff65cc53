
/- Package config: what may be, and what comes of it: the words, the landed contracts, the document's. -/
import Derived.Test.YtegkphbnedbgfaaTreeHand
import Derived.Test.YtegkphbnedbgfaaQuiet
namespace Go.Proofs.Ytegkphbnedbgfaa
open Go.RowKit
set_option linter.unusedVariables false

/-- A config: the parents as they read, and its numbers. -/
structure Cf where
  par : List Int
  win : Int
  res : Int
  que : Int
  fli : Int
  sta : Int
/-- As a value: the row of parents beside the numbers. -/
def cfcells (A : Option Addr) (n c : Nat) (x : Cf) : List Value := [.slice A n c, .int .i64 x.win, .int .i64 x.res, .int .i64 x.que, .int .i64 x.fli, .int .i64 x.sta]
def cfv (A : Option Addr) (n c : Nat) (x : Cf) : Value := .agg (cfcells A n c x).toArray
namespace Cf
def wi (n lo hi : Int) : Bool := decide (lo ≤ n) && decide (n ≤ hi)
def nums (x : Cf) : Bool := wi x.win 1 8 && (wi x.res 1 8 && (wi x.que 1 8 && (wi x.fli 1 4 && wi x.sta 0 4611686018427387904)))
def check (x : Cf) : Int := if Tr.right x.par = true then (if x.nums = true then 0 else 1) else 3
def brokers (x : Cf) : Int := if x.check = 0 then (x.par.length : Int) + 1 else 0
def flying (x : Cf) : Int := x.brokers * x.fli
def room (x : Cf) : Int := if x.brokers = 0 then 0 else x.flying * (x.brokers + 1) + 6 + x.brokers + 2
/-- Where the numbers are wrong first. -/
def Ways (x : Cf) : Prop :=
  (wi x.win 1 8 = false ∧ x.nums = false) ∨ (wi x.win 1 8 = true ∧ wi x.res 1 8 = false ∧ x.nums = false) ∨
  (wi x.win 1 8 = true ∧ wi x.res 1 8 = true ∧ wi x.que 1 8 = false ∧ x.nums = false) ∨
  (wi x.win 1 8 = true ∧ wi x.res 1 8 = true ∧ wi x.que 1 8 = true ∧ wi x.fli 1 4 = false ∧ x.nums = false) ∨
  (wi x.win 1 8 = true ∧ wi x.res 1 8 = true ∧ wi x.que 1 8 = true ∧ wi x.fli 1 4 = true ∧ wi x.sta 0 4611686018427387904 = false ∧ x.nums = false) ∨
  (wi x.win 1 8 = true ∧ wi x.res 1 8 = true ∧ wi x.que 1 8 = true ∧ wi x.fli 1 4 = true ∧ wi x.sta 0 4611686018427387904 = true ∧ x.nums = true)
theorem ways (x : Cf) : Ways x := by
  unfold Ways nums
  cases wi x.win 1 8 <;> cases wi x.res 1 8 <;> cases wi x.que 1 8 <;> cases wi x.fli 1 4 <;> cases wi x.sta 0 4611686018427387904 <;> simp
theorem wi_true {n lo hi : Int} : wi n lo hi = true ↔ lo ≤ n ∧ n ≤ hi := by simp [wi]
theorem check_ways (x : Cf) : (Tr.right x.par = false ∧ x.check = 3) ∨ (Tr.right x.par = true ∧ x.nums = false ∧ x.check = 1) ∨ (Tr.right x.par = true ∧ x.nums = true ∧ x.check = 0) := by
  unfold check
  cases Tr.right x.par <;> cases x.nums <;> simp
theorem fine {x : Cf} (h : x.check = 0) : Tr.right x.par = true ∧ x.nums = true := by
  rcases x.check_ways with h' | h' | h' <;> first | exact ⟨h'.1, h'.2.1⟩ | (exfalso; omega)
theorem bounds {x : Cf} (h : x.check = 0) : x.par.length ≤ 7 ∧ 1 ≤ x.fli ∧ x.fli ≤ 4 := by
  obtain ⟨h1, h2⟩ := fine h
  have h7 := Tr.right_len h1
  simp only [nums, Bool.and_eq_true, wi_true] at h2
  exact ⟨h7, h2.2.2.2.1.1, h2.2.2.2.1.2⟩
/-- The three counts: either way. -/
theorem brokers_ways (x : Cf) : (x.check = 0 ∧ x.brokers = (x.par.length : Int) + 1 ∧ x.par.length ≤ 7 ∧ 1 ≤ x.fli ∧ x.fli ≤ 4) ∨ (x.check ≠ 0 ∧ x.brokers = 0) := by
  unfold brokers
  by_cases h : x.check = 0
  · obtain ⟨h1, h2, h3⟩ := bounds h
    exact .inl ⟨h, if_pos h, h1, h2, h3⟩
  · exact .inr ⟨h, if_neg h⟩
theorem brokers_lt (x : Cf) : 0 ≤ x.brokers ∧ x.brokers ≤ 8 := by
  rcases x.brokers_ways with h | h <;> omega
theorem flying_lt (x : Cf) : 0 ≤ x.flying ∧ x.flying ≤ 32 := by
  unfold flying
  rcases x.brokers_ways with ⟨-, h, h1, h2, h3⟩ | ⟨-, h⟩
  · rw [h]
    have := Int.mul_le_mul (a := (x.par.length : Int) + 1) (b := x.fli) (c := 8) (d := 4) (by omega) h3 (by omega) (by omega)
    have := Int.mul_nonneg (a := (x.par.length : Int) + 1) (b := x.fli) (by omega) (by omega)
    omega
  · rw [h]; simp
theorem room_lt (x : Cf) : 0 ≤ x.flying * (x.brokers + 1) ∧ x.flying * (x.brokers + 1) ≤ 288 := by
  have h := x.flying_lt
  have h2 := x.brokers_lt
  have := Int.mul_le_mul (a := x.flying) (b := x.brokers + 1) (c := 32) (d := 9) h.2 (by omega) (by omega) (by omega)
  have := Int.mul_nonneg (a := x.flying) (b := x.brokers + 1) h.1 (by omega)
  omega
end Cf
theorem cf_later {w w' : World} (h : Below w.heap.size w w') {p : Addr} {v : Value} (hc : w.cell? p = some v) : w'.cell? p = some v := (h.cell (World.block_lt_of_cell? w _ hc)).trans hc
theorem within_at {n lo hi : Int} {b : Bool} (h : Cf.wi n lo hi = b) (w : World) : Calls Try.prog 24 #[.int .i64 n, .int .i64 lo, .int .i64 hi] w fun e w' => e = .returned (.bool b) ∧ w = w' := by
  subst h
  by_cases h1 : lo ≤ n
  · by_cases h2 : n ≤ hi
    · go_enter Try.func24, Try.ntmps24
      go_wp2_with fail
      go_ret
      exact ⟨by simp [Cf.wi, h1, h2], rfl⟩
    · go_enter Try.func24, Try.ntmps24
      go_wp2_with fail
      go_ret
      exact ⟨by simp [Cf.wi, h1, h2], rfl⟩
  · go_enter Try.func24, Try.ntmps24
    go_wp2_with fail
    go_ret
    exact ⟨by unfold Cf.wi; rw [decide_eq_false (p := lo ≤ n) (by omega)]; rfl, rfl⟩
theorem between_at {n lo hi : Int} {b : Bool} (h : Cf.wi n lo hi = b) (w : World) : Calls Try.prog 23 #[.int .i64 n, .int .i64 lo, .int .i64 hi] w fun e w' => e = .returned (.bool b) ∧ w = w' := by
  subst h
  by_cases h1 : lo ≤ n
  · by_cases h2 : n ≤ hi
    · go_enter Try.func23, Try.ntmps23
      go_wp2_with fail
      go_ret
      exact ⟨by simp [Cf.wi, h1, h2], rfl⟩
    · go_enter Try.func23, Try.ntmps23
      go_wp2_with fail
      go_ret
      exact ⟨by simp [Cf.wi, h1, h2], rfl⟩
  · go_enter Try.func23, Try.ntmps23
    go_wp2_with fail
    go_ret
    exact ⟨by unfold Cf.wi; rw [decide_eq_false (p := lo ≤ n) (by omega)]; rfl, rfl⟩
set_option maxRecDepth 100000 in
set_option maxHeartbeats 4000000 in
theorem numbers_any (A : Option Addr) (n c : Nat) (x : Cf) (w : World) : Calls Try.prog 20 #[cfv A n c x] w fun e w' => e = .returned (.bool x.nums) ∧ Below w.heap.size w w' := by
  have W := x.ways
  unfold cfv cfcells
  unfold Cf.Ways at W
  generalize x.win = a1 at W ⊢
  generalize x.res = a2 at W ⊢
  generalize x.que = a3 at W ⊢
  generalize x.fli = a4 at W ⊢
  generalize x.sta = a5 at W ⊢
  generalize x.nums = r at W ⊢
  rcases W with ⟨h1, rfl⟩ | ⟨h1, h2, rfl⟩ | ⟨h1, h2, h3, rfl⟩ | ⟨h1, h2, h3, h4, rfl⟩ | ⟨h1, h2, h3, h4, h5, rfl⟩ | ⟨h1, h2, h3, h4, h5, rfl⟩
  all_goals
    go_enter Try.func20, Try.ntmps20
    go_wp2_with (first | (go_at_call 24; refine (within_at (by assumption) _).mono ?_; rintro e w' ⟨rfl, rfl⟩))
    go_ret
    exact ⟨rfl, new_below _ _⟩
theorem numbers_at {A : Option Addr} {n c : Nat} {x : Cf} {b : Bool} (h : x.nums = b) (w : World) : Calls Try.prog 20 #[cfv A n c x] w fun e w' => e = .returned (.bool b) ∧ Below w.heap.size w w' := h ▸ numbers_any A n c x w
theorem right_at {A : Option Addr} {n c : Nat} {l : List Int} {b : Bool} {w : World} (h : Ri w A n l) (hn : n ≤ 1000) (hb : Tr.right l = b) :
    Calls Try.prog 19 #[.slice A n c] w fun e w' => e = .returned (.bool b) ∧ w = w' := hb ▸ right_any h hn
theorem rright_at {A : Option Addr} {n c : Nat} {l : List Int} {b : Bool} {w : World} (h : Ri w A n l) (hn : n ≤ 1000) (hb : Tr.right l = b) :
    Calls Try.prog 22 #[.slice A n c] w fun e w' => e = .returned (.bool b) ∧ w = w' := hb ▸ rright_any h hn
set_option maxRecDepth 100000 in
set_option maxHeartbeats 4000000 in
theorem check_any {A : Option Addr} {n c : Nat} {x : Cf} {w : World} (h : Ri w A n x.par) (hn : n ≤ 1000) : Calls Try.prog 7 #[cfv A n c x] w fun e w' => e = .returned (.int .i64 x.check) ∧ Below w.heap.size w w' := by
  have HR : Hid (∀ o, Ri (w.alloc o) A n x.par) := Lib.hid fun o => h.later (new_below _ _)
  have HN : Hid (∀ w, Calls Try.prog 20 #[.agg #[.slice A n c, .int .i64 x.win, .int .i64 x.res, .int .i64 x.que, .int .i64 x.fli, .int .i64 x.sta]] w fun e w' => e = .returned (.bool x.nums) ∧ Below w.heap.size w w') := Lib.hid fun w => numbers_any A n c x w
  clear h
  have W := x.check_ways
  unfold cfv cfcells
  generalize x.win = a1 at HN ⊢
  generalize x.res = a2 at HN ⊢
  generalize x.que = a3 at HN ⊢
  generalize x.fli = a4 at HN ⊢
  generalize x.sta = a5 at HN ⊢
  generalize x.nums = r at W HN ⊢
  generalize x.check = v at W ⊢
  rcases W with ⟨h1, rfl⟩ | ⟨h1, rfl, rfl⟩ | ⟨h1, rfl, rfl⟩
  all_goals
    have H1 := Lib.hid h1
    clear h1
    go_enter Try.func7, Try.ntmps7
    go_wp2_with (first | (go_at_call 19; refine (right_at (HR.out _) hn H1.out).mono ?_; rintro e w' ⟨rfl, rfl⟩) | (go_at_call 20; refine (HN.out _).mono ?_; rintro e w' ⟨rfl, hb⟩; have HB := Lib.hid hb; clear hb))
    go_ret
    first
      | exact ⟨rfl, new_below _ _⟩
      | exact ⟨rfl, then_below (new_below _ _) HB.out⟩
theorem check_at {A : Option Addr} {n c : Nat} {x : Cf} {w : World} {v : Int} (h : Ri w A n x.par) (hn : n ≤ 1000) (hv : x.check = v) : Calls Try.prog 7 #[cfv A n c x] w fun e w' => e = .returned (.int .i64 v) ∧ Below w.heap.size w w' := hv ▸ check_any h hn
set_option maxRecDepth 100000 in
set_option maxHeartbeats 4000000 in
theorem brokers_any {A : Option Addr} {n c : Nat} {x : Cf} {w : World} (h : Ri w A n x.par) (hn : n ≤ 1000) : Calls Try.prog 9 #[cfv A n c x] w fun e w' => e = .returned (.int .i64 x.brokers) ∧ Below w.heap.size w w' := by
  obtain rfl := h.1.symm
  have HC : Hid (∀ o v, x.check = v → Calls Try.prog 7 #[.agg #[.slice A x.par.length c, .int .i64 x.win, .int .i64 x.res, .int .i64 x.que, .int .i64 x.fli, .int .i64 x.sta]] (w.alloc o) fun e w' => e = .returned (.int .i64 v) ∧ Below (w.alloc o).heap.size (w.alloc o) w') := Lib.hid fun o v hv => check_at (h.later (new_below _ _)) hn hv
  clear h
  have W := x.brokers_ways
  unfold cfv cfcells
  generalize x.brokers = b at W ⊢
  generalize x.par.length = n at hn HC W ⊢
  rcases W with ⟨h1, rfl, h7, -, -⟩ | ⟨h1, rfl⟩
  · have HV := Lib.hid h1
    clear h1
    go_enter Try.func9, Try.ntmps9
    go_wp2_with fail
    have hC : ∀ j v, [Value.slice A n c, .int .i64 x.win, .int .i64 x.res, .int .i64 x.que, .int .i64 x.fli, .int .i64 x.sta][j]? = some v → (w.alloc (.cells #[.slice A n c, .int .i64 x.win, .int .i64 x.res, .int .i64 x.que, .int .i64 x.fli, .int .i64 x.sta] 24)).cell? ⟨w.heap.size, 0 + j, none⟩ = some v := cells_row (heap_alloc_new w (.cells ([.slice A n c, .int .i64 x.win, .int .i64 x.res, .int .i64 x.que, .int .i64 x.fli, .int .i64 x.sta] : List Value).toArray 24 (0, 0)))
    refine (HC.out _ _ HV.out).mono ?_
    rintro e w' ⟨rfl, hb⟩
    have q0 := cf_later hb (hC 0 _ rfl)
    have HB1 := Lib.hid (then_below (new_below _ _) hb)
    clear hC hb
    go_wp2_with fail
    go_ret
    exact ⟨rfl, HB1.out⟩
  · replace h1 : ¬ x.check = 0 := h1
    generalize x.check = v at h1 HC
    go_enter Try.func9, Try.ntmps9
    go_wp2_with (first | (go_at_call 7; refine (HC.out _ _ rfl).mono ?_; rintro e w' ⟨rfl, hb⟩; have HB := Lib.hid hb; clear hb))
    have HB1 := Lib.hid (then_below (new_below _ _) HB.out)
    go_ret
    exact ⟨rfl, HB1.out⟩
set_option maxRecDepth 100000 in
set_option maxHeartbeats 4000000 in
theorem flying_any {A : Option Addr} {n c : Nat} {x : Cf} {w : World} (h : Ri w A n x.par) (hn : n ≤ 1000) : Calls Try.prog 10 #[cfv A n c x] w fun e w' => e = .returned (.int .i64 x.flying) ∧ Below w.heap.size w w' := by
  have HC : Hid (∀ w', Below w.heap.size w w' → Calls Try.prog 9 #[.agg #[.slice A n c, .int .i64 x.win, .int .i64 x.res, .int .i64 x.que, .int .i64 x.fli, .int .i64 x.sta]] w' fun e w'' => e = .returned (.int .i64 x.brokers) ∧ Below w'.heap.size w' w'') := Lib.hid fun w' hb => brokers_any (h.later hb) hn
  clear h
  have hm : IntKind.i64.wrap (x.brokers * x.fli) = x.flying := IntWalk.i64_in _ (by have := x.flying_lt; unfold Cf.flying at this; omega)
  unfold cfv cfcells
  generalize x.brokers = b at hm HC ⊢
  generalize x.flying = y at hm ⊢
  generalize x.win = a1 at HC ⊢
  generalize x.res = a2 at HC ⊢
  generalize x.que = a3 at HC ⊢
  generalize x.fli = a4 at hm HC ⊢
  generalize x.sta = a5 at HC ⊢
  go_enter Try.func10, Try.ntmps10
  go_upto_region 1 with fail
  have hC : ∀ j v, [Value.slice A n c, .int .i64 a1, .int .i64 a2, .int .i64 a3, .int .i64 a4, .int .i64 a5][j]? = some v → (w.alloc (.cells #[.slice A n c, .int .i64 a1, .int .i64 a2, .int .i64 a3, .int .i64 a4, .int .i64 a5] 24)).cell? ⟨w.heap.size, 0 + j, none⟩ = some v := cells_row (heap_alloc_new w (.cells ([.slice A n c, .int .i64 a1, .int .i64 a2, .int .i64 a3, .int .i64 a4, .int .i64 a5] : List Value).toArray 24 (0, 0)))
  have hB := new_below w (.cells #[.slice A n c, .int .i64 a1, .int .i64 a2, .int .i64 a3, .int .i64 a4, .int .i64 a5] 24)
  generalize w.alloc (.cells #[.slice A n c, .int .i64 a1, .int .i64 a2, .int .i64 a3, .int .i64 a4, .int .i64 a5] 24) = W at hC hB ⊢
  have HB := Lib.hid hB
  have q0 := fun x : Later W => later_cell (hC 0 _ rfl) x
  have q1 := fun x : Later W => later_cell (hC 1 _ rfl) x
  have q2 := fun x : Later W => later_cell (hC 2 _ rfl) x
  have q3 := fun x : Later W => later_cell (hC 3 _ rfl) x
  have q4 := fun x : Later W => later_cell (hC 4 _ rfl) x
  have q5 := fun x : Later W => later_cell (hC 5 _ rfl) x
  clear hC hB
  haveI := later_some W
  refine wp_region_later (W := W) (by kernel_rfl) (by kernel_rfl) (Below.refl _ _) ?_
  repeat (go_big_quiet_step (first | (go_at_call 9; exact calls_later (HC.out _ (then_below HB.out (Later.below _))))))
  refine wpQuiet_nil ?_
  rintro _ ⟨x, rfl⟩
  have HB1 := Lib.hid (then_below HB.out x.below)
  go_wp2_with fail
  go_ret
  exact ⟨rfl, HB1.out⟩
set_option maxRecDepth 100000 in
set_option maxHeartbeats 4000000 in
theorem room_any {A : Option Addr} {n c : Nat} {x : Cf} {w : World} (h : Ri w A n x.par) (hn : n ≤ 1000) : Calls Try.prog 8 #[cfv A n c x] w fun e w' => e = .returned (.int .i64 x.room) ∧ Below w.heap.size w w' := by
  have HC : Hid (∀ w', Below w.heap.size w w' → Calls Try.prog 9 #[.agg #[.slice A n c, .int .i64 x.win, .int .i64 x.res, .int .i64 x.que, .int .i64 x.fli, .int .i64 x.sta]] w' fun e w'' => e = .returned (.int .i64 x.brokers) ∧ Below w'.heap.size w' w'') := Lib.hid fun w' hb => brokers_any (h.later hb) hn
  have HF : Hid (∀ w', Below w.heap.size w w' → Calls Try.prog 10 #[.agg #[.slice A n c, .int .i64 x.win, .int .i64 x.res, .int .i64 x.que, .int .i64 x.fli, .int .i64 x.sta]] w' fun e w'' => e = .returned (.int .i64 x.flying) ∧ Below w'.heap.size w' w'') := Lib.hid fun w' hb => flying_any (h.later hb) hn
  clear h
  have hl := x.room_lt
  have hb := x.brokers_lt
  have hr : x.room = if x.brokers = 0 then 0 else x.flying * (x.brokers + 1) + 6 + x.brokers + 2 := rfl
  unfold cfv cfcells
  generalize x.brokers = b at hr hl hb HC ⊢
  generalize x.flying = f at hr hl HF ⊢
  generalize x.win = a1 at HC HF ⊢
  generalize x.res = a2 at HC HF ⊢
  generalize x.que = a3 at HC HF ⊢
  generalize x.fli = a4 at HC HF ⊢
  generalize x.sta = a5 at HC HF ⊢
  generalize x.room = r at hr ⊢
  have hB := fun o => new_below w o
  by_cases h0 : b = 0
  · rw [if_pos h0] at hr
    subst hr
    subst h0
    have HBN := Lib.hid hB
    clear hB
    go_enter Try.func8, Try.ntmps8
    go_wp2_with (first | (go_at_call 9; refine (HC.out _ (HBN.out _)).mono ?_; rintro e w' ⟨rfl, hb⟩; have HB := Lib.hid (then_below (HBN.out _) hb); clear hb))
    go_ret
    exact ⟨rfl, HB.out⟩
  · rw [if_neg h0] at hr
    have hm : IntKind.i64.wrap (f * (b + 1)) = f * (b + 1) := IntWalk.i64_in _ (by omega)
    have HBN := Lib.hid hB
    clear hB
    go_enter Try.func8, Try.ntmps8
    go_wp2_with fail
    have hC : ∀ j v, [Value.slice A n c, .int .i64 a1, .int .i64 a2, .int .i64 a3, .int .i64 a4, .int .i64 a5][j]? = some v → (w.alloc (.cells #[.slice A n c, .int .i64 a1, .int .i64 a2, .int .i64 a3, .int .i64 a4, .int .i64 a5] 24)).cell? ⟨w.heap.size, 0 + j, none⟩ = some v := cells_row (heap_alloc_new w (.cells ([.slice A n c, .int .i64 a1, .int .i64 a2, .int .i64 a3, .int .i64 a4, .int .i64 a5] : List Value).toArray 24 (0, 0)))
    refine (HC.out _ (HBN.out _)).mono ?_
    rintro e w' ⟨rfl, hb⟩
    have HB := Lib.hid (then_below (HBN.out _) hb)
    have q0 := cf_later hb (hC 0 _ rfl)
    have q1 := cf_later hb (hC 1 _ rfl)
    have q2 := cf_later hb (hC 2 _ rfl)
    have q3 := cf_later hb (hC 3 _ rfl)
    have q4 := cf_later hb (hC 4 _ rfl)
    have q5 := cf_later hb (hC 5 _ rfl)
    clear hC hb
    go_wp2_with fail
    refine (HF.out _ HB.out).mono ?_
    rintro e w2 ⟨rfl, hb⟩
    have HB2 := Lib.hid (then_below HB.out hb)
    clear hb q0 q1 q2 q3 q4 q5
    go_wp2_with fail
    go_ret
    exact ⟨by rw [hr]; rfl, HB2.out⟩
set_option maxRecDepth 100000 in
set_option maxHeartbeats 4000000 in
theorem rcheck_any {A : Option Addr} {n c : Nat} {x : Cf} {w : World} (h : Ri w A n x.par) (hn : n ≤ 1000) : Calls Try.prog 15 #[cfv A n c x] w fun e w' => e = .returned (.int .i64 x.check) ∧ Below w.heap.size w w' := by
  have HR : Hid (∀ o, Ri (w.alloc o) A n x.par) := Lib.hid fun o => h.later (new_below _ _)
  clear h
  have W := x.check_ways
  have Z := x.ways
  unfold cfv cfcells
  unfold Cf.Ways at Z
  generalize x.win = a1 at Z ⊢
  generalize x.res = a2 at Z ⊢
  generalize x.que = a3 at Z ⊢
  generalize x.fli = a4 at Z ⊢
  generalize x.sta = a5 at Z ⊢
  generalize x.nums = r at W Z ⊢
  generalize x.check = v at W ⊢
  rcases W with ⟨h0, rfl⟩ | ⟨h0, rfl, rfl⟩ | ⟨h0, rfl, rfl⟩
  · have H0 := Lib.hid h0
    clear h0 Z
    go_enter Try.func15, Try.ntmps15
    go_wp2_with (first | (go_at_call 22; refine (rright_at (HR.out _) hn H0.out).mono ?_; rintro e w' ⟨rfl, rfl⟩))
    go_ret
    exact ⟨rfl, new_below _ _⟩
  all_goals
    have H0 := Lib.hid h0
    clear h0
    rcases Z with ⟨h1, hz⟩ | ⟨h1, h2, hz⟩ | ⟨h1, h2, h3, hz⟩ | ⟨h1, h2, h3, h4, hz⟩ | ⟨h1, h2, h3, h4, h5, hz⟩ | ⟨h1, h2, h3, h4, h5, hz⟩
    all_goals first
      | (exfalso; cases hz; done)
      | (clear hz
         go_enter Try.func15, Try.ntmps15
         go_wp2_with (first | (go_at_call 22; refine (rright_at (HR.out _) hn H0.out).mono ?_; rintro e w' ⟨rfl, rfl⟩) | (go_at_call 23; refine (between_at (by assumption) _).mono ?_; rintro e w' ⟨rfl, rfl⟩))
         go_ret
         exact ⟨rfl, new_below _ _⟩)
theorem rcheck_at {A : Option Addr} {n c : Nat} {x : Cf} {w : World} {v : Int} (h : Ri w A n x.par) (hn : n ≤ 1000) (hv : x.check = v) : Calls Try.prog 15 #[cfv A n c x] w fun e w' => e = .returned (.int .i64 v) ∧ Below w.heap.size w w' := hv ▸ rcheck_any h hn
set_option maxRecDepth 100000 in
set_option maxHeartbeats 4000000 in
theorem rbrokers_any {A : Option Addr} {n c : Nat} {x : Cf} {w : World} (h : Ri w A n x.par) (hn : n ≤ 1000) : Calls Try.prog 16 #[cfv A n c x] w fun e w' => e = .returned (.int .i64 x.brokers) ∧ Below w.heap.size w w' := by
  obtain rfl := h.1.symm
  have HC : Hid (∀ o v, x.check = v → Calls Try.prog 15 #[.agg #[.slice A x.par.length c, .int .i64 x.win, .int .i64 x.res, .int .i64 x.que, .int .i64 x.fli, .int .i64 x.sta]] (w.alloc o) fun e w' => e = .returned (.int .i64 v) ∧ Below (w.alloc o).heap.size (w.alloc o) w') := Lib.hid fun o v hv => rcheck_at (h.later (new_below _ _)) hn hv
  clear h
  have W := x.brokers_ways
  unfold cfv cfcells
  generalize x.brokers = b at W ⊢
  generalize x.par.length = n at hn HC W ⊢
  rcases W with ⟨h1, rfl, h7, -, -⟩ | ⟨h1, rfl⟩
  · have HV := Lib.hid h1
    clear h1
    go_enter Try.func16, Try.ntmps16
    go_wp2_with fail
    have hC : ∀ j v, [Value.slice A n c, .int .i64 x.win, .int .i64 x.res, .int .i64 x.que, .int .i64 x.fli, .int .i64 x.sta][j]? = some v → (w.alloc (.cells #[.slice A n c, .int .i64 x.win, .int .i64 x.res, .int .i64 x.que, .int .i64 x.fli, .int .i64 x.sta] 24)).cell? ⟨w.heap.size, 0 + j, none⟩ = some v := cells_row (heap_alloc_new w (.cells ([.slice A n c, .int .i64 x.win, .int .i64 x.res, .int .i64 x.que, .int .i64 x.fli, .int .i64 x.sta] : List Value).toArray 24 (0, 0)))
    refine (HC.out _ _ HV.out).mono ?_
    rintro e w' ⟨rfl, hb⟩
    have q0 := cf_later hb (hC 0 _ rfl)
    have HB1 := Lib.hid (then_below (new_below _ _) hb)
    clear hC hb
    go_wp2_with fail
    go_ret
    exact ⟨rfl, HB1.out⟩
  · replace h1 : ¬ x.check = 0 := h1
    generalize x.check = v at h1 HC
    go_enter Try.func16, Try.ntmps16
    go_wp2_with (first | (go_at_call 15; refine (HC.out _ _ rfl).mono ?_; rintro e w' ⟨rfl, hb⟩; have HB := Lib.hid hb; clear hb))
    have HB1 := Lib.hid (then_below (new_below _ _) HB.out)
    go_ret
    exact ⟨rfl, HB1.out⟩
set_option maxRecDepth 100000 in
set_option maxHeartbeats 4000000 in
theorem rflying_any {A : Option Addr} {n c : Nat} {x : Cf} {w : World} (h : Ri w A n x.par) (hn : n ≤ 1000) : Calls Try.prog 17 #[cfv A n c x] w fun e w' => e = .returned (.int .i64 x.flying) ∧ Below w.heap.size w w' := by
  have HC : Hid (∀ w', Below w.heap.size w w' → Calls Try.prog 16 #[.agg #[.slice A n c, .int .i64 x.win, .int .i64 x.res, .int .i64 x.que, .int .i64 x.fli, .int .i64 x.sta]] w' fun e w'' => e = .returned (.int .i64 x.brokers) ∧ Below w'.heap.size w' w'') := Lib.hid fun w' hb => rbrokers_any (h.later hb) hn
  clear h
  have hm : IntKind.i64.wrap (x.brokers * x.fli) = x.flying := IntWalk.i64_in _ (by have := x.flying_lt; unfold Cf.flying at this; omega)
  unfold cfv cfcells
  generalize x.brokers = b at hm HC ⊢
  generalize x.flying = y at hm ⊢
  generalize x.win = a1 at HC ⊢
  generalize x.res = a2 at HC ⊢
  generalize x.que = a3 at HC ⊢
  generalize x.fli = a4 at hm HC ⊢
  generalize x.sta = a5 at HC ⊢
  go_enter Try.func17, Try.ntmps17
  go_upto_region 1 with fail
  have hC : ∀ j v, [Value.slice A n c, .int .i64 a1, .int .i64 a2, .int .i64 a3, .int .i64 a4, .int .i64 a5][j]? = some v → (w.alloc (.cells #[.slice A n c, .int .i64 a1, .int .i64 a2, .int .i64 a3, .int .i64 a4, .int .i64 a5] 24)).cell? ⟨w.heap.size, 0 + j, none⟩ = some v := cells_row (heap_alloc_new w (.cells ([.slice A n c, .int .i64 a1, .int .i64 a2, .int .i64 a3, .int .i64 a4, .int .i64 a5] : List Value).toArray 24 (0, 0)))
  have hB := new_below w (.cells #[.slice A n c, .int .i64 a1, .int .i64 a2, .int .i64 a3, .int .i64 a4, .int .i64 a5] 24)
  generalize w.alloc (.cells #[.slice A n c, .int .i64 a1, .int .i64 a2, .int .i64 a3, .int .i64 a4, .int .i64 a5] 24) = W at hC hB ⊢
  have HB := Lib.hid hB
  have q0 := fun x : Later W => later_cell (hC 0 _ rfl) x
  have q1 := fun x : Later W => later_cell (hC 1 _ rfl) x
  have q2 := fun x : Later W => later_cell (hC 2 _ rfl) x
  have q3 := fun x : Later W => later_cell (hC 3 _ rfl) x
  have q4 := fun x : Later W => later_cell (hC 4 _ rfl) x
  have q5 := fun x : Later W => later_cell (hC 5 _ rfl) x
  clear hC hB
  haveI := later_some W
  refine wp_region_later (W := W) (by kernel_rfl) (by kernel_rfl) (Below.refl _ _) ?_
  repeat (go_big_quiet_step (first | (go_at_call 16; exact calls_later (HC.out _ (then_below HB.out (Later.below _))))))
  refine wpQuiet_nil ?_
  rintro _ ⟨x, rfl⟩
  have HB1 := Lib.hid (then_below HB.out x.below)
  go_wp2_with fail
  go_ret
  exact ⟨rfl, HB1.out⟩
set_option maxRecDepth 100000 in
set_option maxHeartbeats 4000000 in
theorem rroom_any {A : Option Addr} {n c : Nat} {x : Cf} {w : World} (h : Ri w A n x.par) (hn : n ≤ 1000) : Calls Try.prog 18 #[cfv A n c x] w fun e w' => e = .returned (.int .i64 x.room) ∧ Below w.heap.size w w' := by
  have HC : Hid (∀ w', Below w.heap.size w w' → Calls Try.prog 16 #[.agg #[.slice A n c, .int .i64 x.win, .int .i64 x.res, .int .i64 x.que, .int .i64 x.fli, .int .i64 x.sta]] w' fun e w'' => e = .returned (.int .i64 x.brokers) ∧ Below w'.heap.size w' w'') := Lib.hid fun w' hb => rbrokers_any (h.later hb) hn
  have HF : Hid (∀ w', Below w.heap.size w w' → Calls Try.prog 17 #[.agg #[.slice A n c, .int .i64 x.win, .int .i64 x.res, .int .i64 x.que, .int .i64 x.fli, .int .i64 x.sta]] w' fun e w'' => e = .returned (.int .i64 x.flying) ∧ Below w'.heap.size w' w'') := Lib.hid fun w' hb => rflying_any (h.later hb) hn
  clear h
  have hl := x.room_lt
  have hb := x.brokers_lt
  have hr : x.room = if x.brokers = 0 then 0 else x.flying * (x.brokers + 1) + 6 + x.brokers + 2 := rfl
  unfold cfv cfcells
  generalize x.brokers = b at hr hl hb HC ⊢
  generalize x.flying = f at hr hl HF ⊢
  generalize x.win = a1 at HC HF ⊢
  generalize x.res = a2 at HC HF ⊢
  generalize x.que = a3 at HC HF ⊢
  generalize x.fli = a4 at HC HF ⊢
  generalize x.sta = a5 at HC HF ⊢
  generalize x.room = r at hr ⊢
  have hB := fun o => new_below w o
  by_cases h0 : b = 0
  · rw [if_pos h0] at hr
    subst hr
    subst h0
    have HBN := Lib.hid hB
    clear hB
    go_enter Try.func18, Try.ntmps18
    go_wp2_with (first | (go_at_call 16; refine (HC.out _ (HBN.out _)).mono ?_; rintro e w' ⟨rfl, hb⟩; have HB := Lib.hid (then_below (HBN.out _) hb); clear hb))
    go_ret
    exact ⟨rfl, HB.out⟩
  · rw [if_neg h0] at hr
    have hm : IntKind.i64.wrap (f * (b + 1)) = f * (b + 1) := IntWalk.i64_in _ (by omega)
    have HBN := Lib.hid hB
    clear hB
    go_enter Try.func18, Try.ntmps18
    go_wp2_with fail
    have hC : ∀ j v, [Value.slice A n c, .int .i64 a1, .int .i64 a2, .int .i64 a3, .int .i64 a4, .int .i64 a5][j]? = some v → (w.alloc (.cells #[.slice A n c, .int .i64 a1, .int .i64 a2, .int .i64 a3, .int .i64 a4, .int .i64 a5] 24)).cell? ⟨w.heap.size, 0 + j, none⟩ = some v := cells_row (heap_alloc_new w (.cells ([.slice A n c, .int .i64 a1, .int .i64 a2, .int .i64 a3, .int .i64 a4, .int .i64 a5] : List Value).toArray 24 (0, 0)))
    refine (HC.out _ (HBN.out _)).mono ?_
    rintro e w' ⟨rfl, hb⟩
    have HB := Lib.hid (then_below (HBN.out _) hb)
    have q0 := cf_later hb (hC 0 _ rfl)
    have q1 := cf_later hb (hC 1 _ rfl)
    have q2 := cf_later hb (hC 2 _ rfl)
    have q3 := cf_later hb (hC 3 _ rfl)
    have q4 := cf_later hb (hC 4 _ rfl)
    have q5 := cf_later hb (hC 5 _ rfl)
    clear hC hb
    go_wp2_with fail
    refine (HF.out _ HB.out).mono ?_
    rintro e w2 ⟨rfl, hb⟩
    have HB2 := Lib.hid (then_below HB.out hb)
    clear hb q0 q1 q2 q3 q4 q5
    go_wp2_with fail
    go_ret
    exact ⟨by rw [hr]; rfl, HB2.out⟩
end Go.Proofs.Ytegkphbnedbgfaa
