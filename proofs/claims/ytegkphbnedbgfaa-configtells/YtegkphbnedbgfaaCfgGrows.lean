
/- ConfigGrows: one broker more, or one more event at a time for each, is more room. -/
import Derived.Test.YtegkphbnedbgfaaCfgKnown
import Derived.Test.YtegkphbnedbgfaaAppLies
namespace Go.Proofs.Ytegkphbnedbgfaa
open Go.RowKit
set_option linter.unusedVariables false

namespace Cf
/-- With other parents. -/
abbrev wth (x : Cf) (L : List Int) : Cf := ⟨L, x.win, x.res, x.que, x.fli, x.sta⟩
theorem check_to {x : Cf} {u : Int} (h : x.check = 0) (hn : (x.par.length : Int) + 1 ≤ 7) (h0 : 0 ≤ u) (h1 : u ≤ (x.par.length : Int)) : (x.wth (x.par ++ [u])).check = 0 := by
  obtain ⟨h2, h3⟩ := fine h
  have hr : Tr.right (x.par ++ [u]) = true := Tr.right_of (Tr.right_snoc (by unfold Tr.right at h2; simp only [Bool.and_eq_true] at h2; exact h2.2) h0 h1) (by rw [List.length_append, List.length_singleton]; omega)
  unfold check
  rw [if_pos hr, if_pos (show nums (x.wth (x.par ++ [u])) = true from h3)]
theorem brokers_of {x : Cf} (h : x.check = 0) : x.brokers = (x.par.length : Int) + 1 := if_pos h
theorem room_of {x : Cf} (h : x.check = 0) : x.room = ((x.par.length : Int) + 1) * x.fli * ((x.par.length : Int) + 2) + 6 + ((x.par.length : Int) + 1) + 2 := by
  unfold room flying
  rw [brokers_of h, if_neg (by omega), show (x.par.length : Int) + 1 + 1 = (x.par.length : Int) + 2 by omega]
theorem grown {x y : Cf} (hx : x.check = 0) (hy : y.check = 0) (hl : y.par.length = x.par.length + 1) (hf : y.fli = x.fli) : y.brokers = x.brokers + 1 ∧ ¬ y.room ≤ x.room := by
  obtain ⟨-, h1, -⟩ := bounds hx
  rw [brokers_of hx, brokers_of hy, room_of hx, room_of hy, hl, hf]
  refine ⟨by omega, ?_⟩
  have e : (((x.par.length + 1 : Nat) : Int) + 1) = (x.par.length : Int) + 2 := by omega
  have e2 : (((x.par.length + 1 : Nat) : Int) + 2) = (x.par.length : Int) + 3 := by omega
  rw [e, e2]
  generalize x.fli = f at h1
  have hn : (0 : Int) ≤ (x.par.length : Int) := by omega
  generalize (x.par.length : Int) = n at hn
  have k1 : (n + 1) * f * (n + 2) ≤ (n + 2) * f * (n + 3) := by
    refine Int.mul_le_mul ?_ (by omega) (by omega) (Int.mul_nonneg (by omega) (by omega))
    exact Int.mul_le_mul (by omega) (Int.le_refl _) (by omega) (by omega)
  omega
theorem same_room {x y : Cf} (hx : x.check = 0) (hy : y.check = 0) (hl : y.par = x.par) (hf : y.fli = x.fli) : y.room = x.room ∧ y.flying = x.flying := by
  refine ⟨by rw [room_of hx, room_of hy, hl, hf], ?_⟩
  unfold flying
  rw [brokers_of hx, brokers_of hy, hl, hf]
theorem more_room {x y : Cf} (hx : x.check = 0) (hy : y.check = 0) (hl : y.par = x.par) (hf : y.fli = x.fli + 1) : y.room = x.room + x.brokers * (x.brokers + 1) := by
  rw [room_of hx, room_of hy, brokers_of hx, hl, hf]
  generalize (x.par.length : Int) = n
  generalize x.fli = f
  rw [show n + 1 + 1 = n + 2 by omega, Int.mul_add (n + 1) f 1, Int.add_mul, Int.mul_one]
  generalize (n + 1) * f * (n + 2) = p
  generalize (n + 1) * (n + 2) = q
  omega
/-- The other numbers turned. -/
theorem check_other {x : Cf} (h : x.check = 0) : (Cf.mk x.par 1 8 1 x.fli 0).check = 0 := by
  obtain ⟨h2, h3⟩ := fine h
  simp only [nums, Bool.and_eq_true, wi_true] at h3
  unfold check
  rw [if_pos h2, if_pos (by simp only [nums, Bool.and_eq_true, wi_true]; omega)]
theorem check_more {x : Cf} (h : x.check = 0) (hf : x.fli + 1 ≤ 4) : (Cf.mk x.par x.win x.res x.que (x.fli + 1) x.sta).check = 0 := by
  obtain ⟨h2, h3⟩ := fine h
  simp only [nums, Bool.and_eq_true, wi_true] at h3
  unfold check
  rw [if_pos h2, if_pos (by simp only [nums, Bool.and_eq_true, wi_true]; omega)]
end Cf
theorem kept_read3 {W z : World} {b g : Nat} (h : Kept (fun i => i = b ∨ i = g ∨ W.heap.size ≤ i) W z) {p : Addr} {v : Value} (hc : W.cell? p = some v) (hp : p.block ≠ b) (hg : p.block ≠ g) : z.cell? p = some v :=
  (h.cell (cell_lt hc) (fun e => by have := cell_lt hc; rcases e with e | e | e <;> omega)).trans hc
theorem kept3 {W z : World} {b g : Nat} (h : Kept (fun i => i = b ∨ W.heap.size ≤ i) W z) : Kept (fun i => i = b ∨ i = g ∨ W.heap.size ≤ i) W z := h.mono fun i _ e => e.elim .inl fun h => .inr (.inr h)
/-- What is left behind: the row of d's parents, own and one longer; all else as it was. -/
def Grown (W : World) (b g : Nat) (A : Option Addr) (n c : Nat) (x : Cf) (u : Int) (z : World) : Prop :=
  ∃ A2 c2, z.heap[g]? = some (cfbox A2 (n + 1) c2 (x.wth (x.par ++ [u]))) ∧ Ri z A2 (n + 1) (x.par ++ [u]) ∧ Kept (fun i => i = b ∨ i = g ∨ W.heap.size ≤ i) W z
theorem Gs.done {W z z' : World} {b g : Nat} {A A2 : Option Addr} {n c n2 c2 : Nat} {x : Cf} {u : Int} {U : Option (Nat × Int)} (hn : x.par.length = n) (h : Gs W b z (some (.slice A2 n2 c2, ([] ++ x.par) ++ [u])) U) (hg : W.heap[g]? = some (cfbox A n c x)) (hb : g ≠ b)
    (hz : z' = z.setRow g (part (cfcells A n c x) 0 [.slice A2 n2 c2]).toArray) : n2 = n + 1 ∧ Grown W b g A n c x u z' := by
  subst hz
  have hlt : g < W.heap.size := (Array.getElem?_eq_some_iff.1 hg).1
  have hgz : z.heap[g]? = some (cfbox A n c x) := h.keep.rowc hg (fun e => by rcases e with e | e <;> omega)
  have ho := h.row _ _ rfl
  obtain ⟨A3, c3, e, -, hr, hA⟩ := ho.reads
  have hl : (([] ++ x.par) ++ [u]).length = n + 1 := by simp [hn]
  rw [hl] at e hr
  cases e
  obtain ⟨h1, h2⟩ := set_config (w := z) (g := g) (p := 0) (A := A) (n := n) (c := c) (x := x) (A' := A2) (n' := n + 1) (c' := c2) (x' := x.wth (x.par ++ [u])) (cs := [.slice A2 (n + 1) c2]) rfl hgz
  refine ⟨rfl, A2, c2, h1, ?_, (kept3 h.keep).trans h2 fun i _ e => .inr (.inl e)⟩
  have : Ri z A2 (n + 1) (x.par ++ [u]) := by simpa using hr
  refine this.kept h2 fun ad e e2 => ?_
  have e2 : ad.block = g := e2
  rcases hA with ⟨e3, -⟩ | ⟨g3, e3, hg3, -⟩
  · rw [e3] at e; cases e
  · rw [e3] at e; cases e; dsimp only at e2; omega
set_option maxRecDepth 100000 in
set_option maxHeartbeats 16000000 in
theorem cgrows_walk (w : World) (A0 : Option Addr) (n0 c0 : Nat) (z0 : List Int) (h0 : IsRow .i64 w A0 n0 c0 z0) :
    Calls Try.prog 5 #[.slice A0 n0 c0] w fun e w' => e = .returned (.bool true) ∧ Below w.heap.size w w' := by
  have HFN := Lib.hid (fun t => feed_new (cap := c0) h0.draws t)
  clear h0
  go_enter Try.func5, Try.ntmps5
  go_wp2_with fail
  refine (feedconfig_any (a := 0) 7 (by omega) (by omega) _ (by omega) (HFN.out _)).mono ?_
  rintro e w1 ⟨A, c, x, rfl, hri, hck, hlen, hA, hnil, hf, hk⟩
  have HX := Lib.hid hck
  have hAb := hri.block
  have HB1 := Lib.hid ((new_below w _).trans (hk.below (new_below w _).size (fun k hk e => by omega)))
  have hAf : ∀ ad, A = some ad → x.par.length ≠ 0 → w.heap.size < ad.block ∧ ad.block < w1.heap.size := fun ad e hn => by
    have h1 := hA ad e hn
    have h2 := hAb ad e hn
    rw [World.size_alloc] at h1
    omega
  have HNil := Lib.hid hnil
  have hw1 : w.heap.size < w1.heap.size := hf.lt
  -- t4 := c
  have hn := new_below w1 (cfbox A x.par.length c x)
  have HR := Lib.hid (hri.later hn)
  have HF := Lib.hid (hf.below hn)
  have HB2 := Lib.hid (then_below HB1.out hn)
  have HC2 := Lib.hid (heap_alloc_new w1 (cfbox A x.par.length c x))
  have hs2 : (w1.alloc (cfbox A x.par.length c x)).heap.size = w1.heap.size + 1 := World.size_alloc _ _
  clear hck hri hA hnil hf hk hAb hn HFN HB1
  dsimp only [cfbox, cfcells] at HR HF HB2 HC2 hs2
  dsimp only [cfv, cfcells]
  go_upto_region 3 with fail
  generalize w1.alloc _ = w2 at HR HF HB2 HC2 hs2 ⊢
  generalize w1.heap.size = g4 at hAf hw1 HC2 hs2 ⊢
  have HAf := Lib.hid hAf
  clear hAf
  obtain ⟨q0, q1, q2, q3, q4, q5⟩ := six_later (A := A) (n := x.par.length) (c := c) (x := x) HC2.out
  haveI := later_some w2
  have hx7 : x.par.length ≤ 6 := by omega
  refine wp_plain_later (W := w2) (Below.refl _ _) ?_
  repeat (go_big_quiet_step (fail))
  go_big_quiet_step (first | (go_at_call 14; exact calls_later (cknown _)))
  repeat (go_big_quiet_step (fail))
  go_big_quiet_step (first | (go_at_call 7; exact check_l (x := x) HR.out (by omega) HX.out _))
  repeat (go_big_quiet_step (fail))
  refine wpQuiet_nil ?_
  rintro _ ⟨y, rfl⟩
  have HR := Lib.hid (HR.out.later y.below)
  have HF := Lib.hid (HF.out.below y.below)
  have HB3 := Lib.hid (then_below HB2.out y.below)
  have HC3 := Lib.hid (later_row HC2.out y)
  have p0 := q0 y
  have p1 := q1 y
  have p2 := q2 y
  have p3 := q3 y
  have p4 := q4 y
  have p5 := q5 y
  have hs3 := y.below.size
  clear q0 q1 q2 q3 q4 q5 HB2 HC2
  generalize y.at_ = w3 at HR HF HB3 HC3 p0 p1 p2 p3 p4 p5 hs3 ⊢
  go_upto_region 6 with fail
  -- d := c
  have hn := new_below w3 (cfbox A x.par.length c x)
  have HR := Lib.hid (HR.out.later hn)
  have HF := Lib.hid (HF.out.below hn)
  have HB4 := Lib.hid (then_below HB3.out hn)
  have HC4 := Lib.hid (below_row hn HC3.out)
  have HD4 := Lib.hid (heap_alloc_new w3 (cfbox A x.par.length c x))
  have hs4 : (w3.alloc (cfbox A x.par.length c x)).heap.size = w3.heap.size + 1 := World.size_alloc _ _
  clear hn HB3 HC3 p0 p1 p2 p3 p4 p5
  dsimp only [cfbox, cfcells] at HR HF HB4 HC4 HD4 hs4
  generalize w3.alloc _ = W at HR HF HB4 HC4 HD4 hs4 ⊢
  generalize w3.heap.size = g5 at hs3 HD4 hs4 ⊢
  have h45 : g4 < g5 := by omega
  have hbw : w.heap.size < W.heap.size := by omega
  have hg5 : g5 < W.heap.size := by omega
  clear hs4 hs2 hs3
  have hwp : IntKind.i64.wrap ((x.par.length : Int) + 1) = (x.par.length : Int) + 1 := IntWalk.i64_in _ (by omega)
  have HAne : Hid (∀ ad, A = some ad → x.par.length ≠ 0 → ad.block ≠ w.heap.size) := Lib.hid fun ad e hn => by have := HAf.out ad e hn; omega
  go_cut [] (fun wx => ∃ u : Int, 0 ≤ u ∧ u ≤ (x.par.length : Int) ∧ Grown W w.heap.size g5 A x.par.length c x u wx)
  case first =>
    have HP := Lib.hid (cfbox_cells (A := A) (n := x.par.length) (c := c) (x := x) HC4.out 0 _ rfl)
    refine held_begin (fun z => Kept (fun i => i = w.heap.size ∨ i = g5 ∨ W.heap.size ≤ i) W z) (by kernel_rfl) ?_
    have HG := Lib.hid (Gs.start (W := W) (b := w.heap.size) hbw)
    have HFd := Lib.hid (HF.out.below (drew_below W))
    refine held_read (i := 1) (o := { dst := some 22, op := Op.fieldAddr 24 (Operand.tmp 4) 0, type := 0, pos := "law.go:63", after := #[], guard := none }) (v := ?_) rfl (by kernel_rfl) (by kernel_rfl) (by kernel_rfl) (fun _ _ _ h => h) (by rfl) (kept3 HG.out.keep) ?_ ?_
    rotate_left
    · (intro x hx; have e1 := kept_read3 hx HP.out (by show ¬ g4 = w.heap.size; omega) (by show ¬ g4 = g5; omega); go_simp; try with_reducible rfl)
    try simp only [Act.put, List.setIfInBounds_toArray, List.set_cons_zero, List.set_cons_succ]
    refine held_read (i := 2) (o := { dst := some 23, op := Op.load 22 (Operand.tmp 22), type := 22, pos := "law.go:63", after := #[{ on := 1, ground := Ground.data }], guard := none }) (v := ?_) rfl (by kernel_rfl) (by kernel_rfl) (by kernel_rfl) (fun _ _ _ h => h) (by rfl) (kept3 HG.out.keep) ?_ ?_
    rotate_left
    · (intro x hx; have e1 := kept_read3 hx HP.out (by show ¬ g4 = w.heap.size; omega) (by show ¬ g4 = g5; omega); go_simp; try with_reducible rfl)
    try simp only [Act.put, List.setIfInBounds_toArray, List.set_cons_zero, List.set_cons_succ]
    refine held_read (i := 4) (o := { dst := some 25, op := Op.move (Operand.tmp 3), type := 29, pos := "law.go:63", after := #[], guard := none }) (v := ?_) rfl (by kernel_rfl) (by kernel_rfl) (by kernel_rfl) (fun _ _ _ h => h) (by rfl) (kept3 HG.out.keep) ?_ ?_
    rotate_left
    · (intro x hx; have e1 := kept_read3 hx HP.out (by show ¬ g4 = w.heap.size; omega) (by show ¬ g4 = g5; omega); go_simp; try with_reducible rfl)
    try simp only [Act.put, List.setIfInBounds_toArray, List.set_cons_zero, List.set_cons_succ]
    refine held_read (i := 5) (o := { dst := some 26, op := Op.fieldAddr 24 (Operand.tmp 4) 0, type := 0, pos := "law.go:63", after := #[], guard := none }) (v := ?_) rfl (by kernel_rfl) (by kernel_rfl) (by kernel_rfl) (fun _ _ _ h => h) (by rfl) (kept3 HG.out.keep) ?_ ?_
    rotate_left
    · (intro x hx; have e1 := kept_read3 hx HP.out (by show ¬ g4 = w.heap.size; omega) (by show ¬ g4 = g5; omega); go_simp; try with_reducible rfl)
    try simp only [Act.put, List.setIfInBounds_toArray, List.set_cons_zero, List.set_cons_succ]
    refine held_read (i := 6) (o := { dst := some 27, op := Op.load 22 (Operand.tmp 26), type := 22, pos := "law.go:63", after := #[{ on := 5, ground := Ground.data }], guard := none }) (v := ?_) rfl (by kernel_rfl) (by kernel_rfl) (by kernel_rfl) (fun _ _ _ h => h) (by rfl) (kept3 HG.out.keep) ?_ ?_
    rotate_left
    · (intro x hx; have e1 := kept_read3 hx HP.out (by show ¬ g4 = w.heap.size; omega) (by show ¬ g4 = g5; omega); go_simp; try with_reducible rfl)
    try simp only [Act.put, List.setIfInBounds_toArray, List.set_cons_zero, List.set_cons_succ]
    refine held_read (i := 7) (o := { dst := some 28, op := Op.call { callee := Callee.builtin Builtin.len, args := #[Operand.tmp 27], argTypes := #[22] }, type := 3, pos := "law.go:63", after := #[{ on := 6, ground := Ground.data }], guard := none }) (v := ?_) rfl (by kernel_rfl) (by kernel_rfl) (by kernel_rfl) (fun _ _ _ h => h) (by rfl) (kept3 HG.out.keep) ?_ ?_
    rotate_left
    · (intro x hx; have e1 := kept_read3 hx HP.out (by show ¬ g4 = w.heap.size; omega) (by show ¬ g4 = g5; omega); go_simp; try with_reducible rfl)
    try simp only [Act.put, List.setIfInBounds_toArray, List.set_cons_zero, List.set_cons_succ]
    refine held_read (i := 8) (o := { dst := some 29, op := Op.binOp BinOp.add 3 (Operand.tmp 28) (Operand.const (Value.int IntKind.i64 1)) 3, type := 3, pos := "law.go:63", after := #[{ on := 7, ground := Ground.data }], guard := none }) (v := ?_) rfl (by kernel_rfl) (by kernel_rfl) (by kernel_rfl) (fun _ _ _ h => h) (by rfl) (kept3 HG.out.keep) ?_ ?_
    rotate_left
    · (intro x hx; have e1 := kept_read3 hx HP.out (by show ¬ g4 = w.heap.size; omega) (by show ¬ g4 = g5; omega); go_simp; try with_reducible rfl)
    try simp only [Act.put, List.setIfInBounds_toArray, List.set_cons_zero, List.set_cons_succ]
    refine held_call (i := 0) (o := { dst := some 21, op := Op.buildSlice 22 0 #[], type := 22, pos := "law.go:63", after := #[], guard := none }) rfl (by kernel_rfl) (by rfl) (fun K hK => ?_)
    go_simp
    replace HG := Lib.hid HG.out.new0
    try (replace HFd := Lib.hid (HFd.out.below (new_below _ (.cells #[] 3))))
    refine hK.out _ _ (kept3 HG.out.keep) ?_
    clear hK K
    try simp only [Act.put, List.setIfInBounds_toArray, List.set_cons_zero, List.set_cons_succ]
    refine held_call (i := 3) (o := { dst := some 24, op := Op.call { callee := Callee.builtin Builtin.append, args := #[Operand.tmp 21, Operand.tmp 23], argTypes := #[22, 22] }, type := 22, pos := "law.go:63", after := #[{ on := 0, ground := Ground.data }, { on := 2, ground := Ground.data }], guard := none }) rfl (by kernel_rfl) (by rfl) (fun K hK => ?_)
    refine step_owni_row _ _ rfl W.heap.size _ _ rfl (HG.out.row _ _ rfl) A x.par.length c rfl HNil.out x.par (HG.out.ri HR.out HAne.out) (by simp; omega) ?_
    intro v1 z1 hv1 hk1 hl1
    try (replace HFd := Lib.hid (HG.out.feed HFd.out (by omega) hk1))
    replace HG := Lib.hid (HG.out.grow hv1 hk1 hl1)
    refine hK.out _ _ (kept3 HG.out.keep) ?_
    clear hK K hv1 hk1 hl1
    try simp only [Act.put, List.setIfInBounds_toArray, List.set_cons_zero, List.set_cons_succ]
    refine held_call (i := 9) (o := { dst := some 30, op := Op.call { callee := Callee.value (Operand.func 11), args := #[Operand.tmp 25, Operand.tmp 29], argTypes := #[29, 3] }, type := 3, pos := "law.go:63", after := #[{ on := 4, ground := Ground.data }, { on := 8, ground := Ground.data }, { on := 3, ground := Ground.chain }], guard := none }) rfl (by kernel_rfl) (by rfl) (fun K hK => ?_)
    go_simp
    refine (next_any ((x.par.length : Int) + 1) (by omega) (by omega) _ (by omega) HFd.out).mono ?_
    rintro e z2 ⟨u, hu, rfl, -, hk2, -⟩
    replace HG := Lib.hid (HG.out.next hk2)
    refine hK.out _ _ (kept3 HG.out.keep) ?_
    clear hK K hk2 HFd
    try simp only [Act.put, List.setIfInBounds_toArray, List.set_cons_zero, List.set_cons_succ]
    refine held_call (i := 10) (o := { dst := some 31, op := Op.buildSlice 22 1 #[(0, Operand.tmp 30)], type := 22, pos := "law.go:63", after := #[{ on := 9, ground := Ground.data }], guard := none }) rfl (by kernel_rfl) (by rfl) (fun K hK => ?_)
    go_simp
    replace HG := Lib.hid (HG.out.newu (u : Int))
    refine hK.out _ _ (kept3 HG.out.keep) ?_
    clear hK K
    try simp only [Act.put, List.setIfInBounds_toArray, List.set_cons_zero, List.set_cons_succ]
    refine held_call (i := 11) (o := { dst := some 32, op := Op.call { callee := Callee.builtin Builtin.append, args := #[Operand.tmp 24, Operand.tmp 31], argTypes := #[22, 22] }, type := 22, pos := "law.go:63", after := #[{ on := 3, ground := Ground.data }, { on := 10, ground := Ground.data }, { on := 9, ground := Ground.chain }], guard := none }) rfl (by kernel_rfl) (by rfl) (fun K hK => ?_)
    refine step_owni_row _ _ rfl W.heap.size _ _ rfl (HG.out.row _ _ rfl) _ 1 1 rfl (fun h => by cases h) [(u : Int)] (HG.out.one _ _ rfl).2 (by simp; omega) ?_
    intro v3 z3 hv3 hk3 hl3
    replace HG := Lib.hid (HG.out.grow hv3 hk3 hl3)
    refine hK.out _ _ (kept3 HG.out.keep) ?_
    clear hK K hv3 hk3 hl3
    try simp only [Act.put, List.setIfInBounds_toArray, List.set_cons_zero, List.set_cons_succ]
    refine held_read (i := 12) (o := { dst := some 33, op := Op.fieldAddr 24 (Operand.tmp 5) 0, type := 0, pos := "law.go:63", after := #[{ on := 0, ground := Ground.phase }, { on := 1, ground := Ground.phase }, { on := 2, ground := Ground.phase }, { on := 3, ground := Ground.phase }, { on := 4, ground := Ground.phase }, { on := 5, ground := Ground.phase }, { on := 6, ground := Ground.phase }, { on := 7, ground := Ground.phase }, { on := 8, ground := Ground.phase }, { on := 9, ground := Ground.phase }, { on := 10, ground := Ground.phase }, { on := 11, ground := Ground.phase }], guard := none }) (v := ?_) rfl (by kernel_rfl) (by kernel_rfl) (by kernel_rfl) (fun _ _ _ h => h) (by rfl) (kept3 HG.out.keep) ?_ ?_
    rotate_left
    · (intro x hx; have e1 := kept_read3 hx HP.out (by show ¬ g4 = w.heap.size; omega) (by show ¬ g4 = g5; omega); go_simp; try with_reducible rfl)
    try simp only [Act.put, List.setIfInBounds_toArray, List.set_cons_zero, List.set_cons_succ]
    refine held_call (i := 13) (o := { dst := none, op := Op.store 22 (Operand.tmp 33) (Operand.tmp 32), type := 0, pos := "law.go:63", after := #[{ on := 12, ground := Ground.data }, { on := 11, ground := Ground.data }, { on := 11, ground := Ground.chain }, { on := 0, ground := Ground.phase }, { on := 1, ground := Ground.phase }, { on := 2, ground := Ground.phase }, { on := 3, ground := Ground.phase }, { on := 4, ground := Ground.phase }, { on := 5, ground := Ground.phase }, { on := 6, ground := Ground.phase }, { on := 7, ground := Ground.phase }, { on := 8, ground := Ground.phase }, { on := 9, ground := Ground.phase }, { on := 10, ground := Ground.phase }, { on := 11, ground := Ground.phase }], guard := none }) rfl (by kernel_rfl) (by rfl) (fun K hK => ?_)
    obtain ⟨A2, c2, rfl, -, -, -⟩ := (HG.out.row _ _ rfl).reads
    have hEND := HG.out.done rfl HD4.out (by omega) rfl
    refine step_store_part 22 _ _ rfl g5 0 _ [.slice A2 (([] ++ x.par) ++ [(u : Int)]).length c2] rfl rfl rfl 24 (cfcells A x.par.length c x) (HG.out.keep.rowc HD4.out (fun e => by rcases e with e | e <;> omega)) sl_size1 (show (1 : Nat) ≤ 6 by decide) (fun u hu => by rw [List.mem_singleton.1 hu]; rfl) ?_
    refine hK.out _ _ (by obtain ⟨-, A3, c3, -, -, hk⟩ := hEND; exact hk) ?_
    clear hK K
    try simp only [Act.put]
    refine wpAnyH_done (by kernel_rfl) ?_ _
    go_wp2_with fail
    go_meet
    exact ⟨u, by omega, by omega, hEND.2⟩
  case rest =>
  obtain ⟨u, hu0, hu1, A2, c2, hd5, hr5, hk5⟩ := hcut
  have hD := Cf.check_to HX.out (by omega) hu0 hu1
  have HD := Lib.hid hd5
  have HRd := Lib.hid hr5
  have HC := Lib.hid (hk5.rowc HC4.out (fun e => by rcases e with e | e | e <;> omega))
  have HRc := Lib.hid (HR.out.keep hk5 (fun ad e hn e2 => by have := HAf.out ad e hn; rcases e2 with e2 | e2 | e2 <;> omega))
  have HB := Lib.hid (HB4.out.trans (hk5.below (Nat.le_of_lt hbw) (fun k hk e => by rcases e with e | e | e <;> omega)))
  have hs5 := hk5.size
  clear hd5 hr5 hk5 HC4 HD4 HR HB4 HF HAne
  generalize wc = w5 at HD HRd HC HRc HB hs5 ⊢
  have p0 := cfbox_cells (A := A) (n := x.par.length) (c := c) (x := x) HC.out 0 _ rfl
  have p1 := cfbox_cells (A := A) (n := x.par.length) (c := c) (x := x) HC.out 1 _ rfl
  have p2 := cfbox_cells (A := A) (n := x.par.length) (c := c) (x := x) HC.out 2 _ rfl
  have p3 := cfbox_cells (A := A) (n := x.par.length) (c := c) (x := x) HC.out 3 _ rfl
  have p4 := cfbox_cells (A := A) (n := x.par.length) (c := c) (x := x) HC.out 4 _ rfl
  have p5 := cfbox_cells (A := A) (n := x.par.length) (c := c) (x := x) HC.out 5 _ rfl
  simp only [Nat.zero_add] at p0 p1 p2 p3 p4 p5
  go_upto_region 9 with fail
  -- e: the other numbers turned
  have hn := new_below w5 (cfbox A x.par.length c ⟨x.par, 1, 8, 1, x.fli, 0⟩)
  have HE6 := Lib.hid (heap_alloc_new w5 (cfbox A x.par.length c ⟨x.par, 1, 8, 1, x.fli, 0⟩))
  have HD6 := Lib.hid (below_row hn HD.out)
  have HRd6 := Lib.hid (HRd.out.later hn)
  have HC6 := Lib.hid (below_row hn HC.out)
  have HRc6 := Lib.hid (HRc.out.later hn)
  have HB6 := Lib.hid (then_below HB.out hn)
  clear hn HD HRd HC HRc HB p0 p1 p2 p3 p4 p5
  dsimp only [cfbox, cfcells] at HE6 HD6 HRd6 HC6 HRc6 HB6
  generalize w5.alloc _ = w6 at HE6 HD6 HRd6 HC6 HRc6 HB6 ⊢
  generalize w5.heap.size = g6 at HE6 hs5 ⊢
  obtain ⟨q0, q1, q2, q3, q4, q5⟩ := six_later (A := A) (n := x.par.length) (c := c) (x := x) HC6.out
  obtain ⟨r0, r1, r2, r3, r4, r5⟩ := six_later (A := A2) (n := x.par.length + 1) (c := c2) (x := x.wth (x.par ++ [u])) HD6.out
  obtain ⟨t0, t1, t2, t3, t4, t5⟩ := six_later (A := A) (n := x.par.length) (c := c) (x := ⟨x.par, 1, 8, 1, x.fli, 0⟩) HE6.out
  haveI := later_some w6
  have hG := Cf.grown (x := x) (y := x.wth (x.par ++ [u])) HX.out hD (by simp) rfl
  have hS := Cf.same_room (x := x) (y := ⟨x.par, 1, 8, 1, x.fli, 0⟩) HX.out (Cf.check_other HX.out) rfl rfl
  obtain ⟨rd, hrd⟩ : ∃ r, (x.wth (x.par ++ [u])).room = r := ⟨_, rfl⟩
  obtain ⟨rc, hrc⟩ : ∃ r, x.room = r := ⟨_, rfl⟩
  obtain ⟨bc, hbc⟩ : ∃ r, x.brokers = r := ⟨_, rfl⟩
  obtain ⟨fc, hfc⟩ : ∃ r, x.flying = r := ⟨_, rfl⟩
  have hb8 := x.brokers_lt
  rw [hbc] at hb8
  rw [hrd, hrc, hbc] at hG
  rw [hrc, hfc] at hS
  have hle : decide (rd ≤ rc) = false := decide_eq_false hG.2
  have hlt := hG.2
  have HRD := Lib.hid hrd
  have HRC := Lib.hid hrc
  have HBC := Lib.hid hbc
  have HFC := Lib.hid hfc
  have HG := Lib.hid hG
  have HS := Lib.hid hS
  have HDK := Lib.hid hD
  clear hrd hrc hbc hfc hG hS hD
  refine wp_region_later (W := w6) (by kernel_rfl) (by kernel_rfl) (Below.refl _ _) ?_
  repeat (go_big_quiet_step (fail))
  go_big_quiet_step (first | (go_at_call 8; exact room_l (x := x.wth (x.par ++ [u])) HRd6.out (by omega) HRD.out _))
  repeat (go_big_quiet_step (fail))
  go_big_quiet_step (first | (go_at_call 8; exact room_l (x := x) HRc6.out (by omega) HRC.out _))
  repeat (go_big_quiet_step (fail))
  go_big_quiet_step (first | (go_at_call 9; exact brokers_l (x := x.wth (x.par ++ [u])) HRd6.out (by omega) HG.out.1 _))
  repeat (go_big_quiet_step (fail))
  go_big_quiet_step (first | (go_at_call 9; exact brokers_l (x := x) HRc6.out (by omega) HBC.out _))
  repeat (go_big_quiet_step (fail))
  go_big_quiet_step (first | (go_at_call 8; exact room_l (x := ⟨x.par, 1, 8, 1, x.fli, 0⟩) HRc6.out (by omega) HS.out.1 _))
  repeat (go_big_quiet_step (fail))
  go_big_quiet_step (first | (go_at_call 8; exact room_l (x := x) HRc6.out (by omega) HRC.out _))
  repeat (go_big_quiet_step (fail))
  go_big_quiet_step (first | (go_at_call 10; exact flying_l (x := ⟨x.par, 1, 8, 1, x.fli, 0⟩) HRc6.out (by omega) HS.out.2 _))
  repeat (go_big_quiet_step (fail))
  go_big_quiet_step (first | (go_at_call 10; exact flying_l (x := x) HRc6.out (by omega) HFC.out _))
  repeat (go_big_quiet_step (fail))
  refine wpQuiet_nil ?_
  rintro _ ⟨y, rfl⟩
  have HC7 := Lib.hid (later_row HC6.out y)
  have HRc7 := Lib.hid (HRc6.out.later y.below)
  have HB7 := Lib.hid (then_below HB6.out y.below)
  have p0 := q0 y
  have p1 := q1 y
  have p2 := q2 y
  have p3 := q3 y
  have p4 := q4 y
  have p5 := q5 y
  clear q0 q1 q2 q3 q4 q5 r0 r1 r2 r3 r4 r5 t0 t1 t2 t3 t4 t5 HE6 HD6 HRd6 HC6 HRc6 HB6 HRD HG HS HDK
  generalize y.at_ = w7 at HC7 HRc7 HB7 p0 p1 p2 p3 p4 p5 ⊢
  have hfl := (Cf.bounds HX.out).2
  have hrl := x.room_lt
  have hrr : x.room = x.flying * (x.brokers + 1) + 6 + x.brokers + 2 := by
    unfold Cf.room; rw [if_neg (by rw [Cf.brokers_of HX.out]; omega)]
  have hm : IntKind.i64.wrap (bc * x.fli) = fc := by
    have := x.flying_lt
    rw [← HFC.out, ← HBC.out]
    exact IntWalk.i64_in _ (by unfold Cf.flying at this; omega)
  obtain ⟨m, hmm⟩ : ∃ m, bc * (bc + 1) = m := ⟨_, rfl⟩
  have hm2 : 0 ≤ m ∧ m ≤ 72 := by
    have h1 := Int.mul_le_mul (a := bc) (b := bc + 1) (c := 8) (d := 9) (by omega) (by omega) (by omega) (by omega)
    have h2 := Int.mul_nonneg (a := bc) (b := bc + 1) (by omega) (by omega)
    omega
  have hm3 : IntKind.i64.wrap (bc * (bc + 1)) = m := by rw [hmm]; exact IntWalk.i64_in _ (by omega)
  have hrb : 0 ≤ rc ∧ rc ≤ 304 := by rw [← HRC.out, hrr, HBC.out]; rw [HBC.out] at hrl; omega
  have hm4 : IntKind.i64.wrap (rc + m) = rc + m := IntWalk.i64_in _ (by omega)
  clear hrl hrr
  go_upto_region 13 with fail
  -- g: one more at a time
  have hn := new_below w7 (cfbox A x.par.length c ⟨x.par, x.win, x.res, x.que, x.fli + 1, x.sta⟩)
  have HG8 := Lib.hid (heap_alloc_new w7 (cfbox A x.par.length c ⟨x.par, x.win, x.res, x.que, x.fli + 1, x.sta⟩))
  have HC8 := Lib.hid (below_row hn HC7.out)
  have HRc8 := Lib.hid (HRc7.out.later hn)
  have HB8 := Lib.hid (then_below HB7.out hn)
  clear hn HC7 HRc7 HB7 p0 p1 p2 p3 p4 p5
  dsimp only [cfbox, cfcells] at HG8 HC8 HRc8 HB8
  generalize w7.alloc _ = w8 at HG8 HC8 HRc8 HB8 ⊢
  generalize w7.heap.size = g7 at HG8 ⊢
  obtain ⟨q0, q1, q2, q3, q4, q5⟩ := six_later (A := A) (n := x.par.length) (c := c) (x := x) HC8.out
  obtain ⟨t0, t1, t2, t3, t4, t5⟩ := six_later (A := A) (n := x.par.length) (c := c) (x := ⟨x.par, x.win, x.res, x.que, x.fli + 1, x.sta⟩) HG8.out
  haveI := later_some w8
  by_cases h4 : x.fli + 1 > 4
  · have h4' : decide (x.fli + 1 > 4) = true := decide_eq_true h4
    refine wp_region_later (W := w8) (by kernel_rfl) (by kernel_rfl) (Below.refl _ _) ?_
    repeat (go_big_quiet_step (fail))
    go_big_quiet_step (first | (go_at_call 10; exact flying_l (x := x) HRc8.out (by omega) HFC.out _))
    repeat (go_big_quiet_step (fail))
    go_big_quiet_step (first | (go_at_call 9; exact brokers_l (x := x) HRc8.out (by omega) HBC.out _))
    repeat (go_big_quiet_step (fail))
    refine wpQuiet_nil ?_
    rintro _ ⟨y, rfl⟩
    have HB9 := Lib.hid (then_below HB8.out y.below)
    go_wp2_with fail
    go_ret
    exact ⟨rfl, HB9.out⟩
  · have h4' : decide (x.fli + 1 > 4) = false := decide_eq_false h4
    have hM := Cf.more_room (x := x) (y := ⟨x.par, x.win, x.res, x.que, x.fli + 1, x.sta⟩) HX.out (Cf.check_more HX.out (by omega)) rfl rfl
    rw [HRC.out, HBC.out, hmm] at hM
    have HM := Lib.hid hM
    clear hM
    refine wp_region_later (W := w8) (by kernel_rfl) (by kernel_rfl) (Below.refl _ _) ?_
    repeat (go_big_quiet_step (fail))
    go_big_quiet_step (first | (go_at_call 10; exact flying_l (x := x) HRc8.out (by omega) HFC.out _))
    repeat (go_big_quiet_step (fail))
    go_big_quiet_step (first | (go_at_call 9; exact brokers_l (x := x) HRc8.out (by omega) HBC.out _))
    repeat (go_big_quiet_step (fail))
    go_big_quiet_step (first | (go_at_call 8; exact room_l (x := ⟨x.par, x.win, x.res, x.que, x.fli + 1, x.sta⟩) HRc8.out (by omega) HM.out _))
    repeat (go_big_quiet_step (fail))
    go_big_quiet_step (first | (go_at_call 8; exact room_l (x := x) HRc8.out (by omega) HRC.out _))
    repeat (go_big_quiet_step (fail))
    go_big_quiet_step (first | (go_at_call 9; exact brokers_l (x := x) HRc8.out (by omega) HBC.out _))
    repeat (go_big_quiet_step (fail))
    go_big_quiet_step (first | (go_at_call 9; exact brokers_l (x := x) HRc8.out (by omega) HBC.out _))
    repeat (go_big_quiet_step (fail))
    refine wpQuiet_nil ?_
    rintro _ ⟨y, rfl⟩
    have HB9 := Lib.hid (then_below HB8.out y.below)
    go_wp2_with fail
    go_ret
    exact ⟨rfl, HB9.out⟩
end Go.Proofs.Ytegkphbnedbgfaa
