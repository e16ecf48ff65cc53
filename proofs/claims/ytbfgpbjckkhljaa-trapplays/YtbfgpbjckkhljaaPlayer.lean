/- TrapPlays: a player in memory; more, step. -/
import Derived.Test.YtbfgpbjckkhljaaPlay
import Derived.Test.YtbfgpbjckkhljaaPasses
import Derived.Deep.QuietTactic
import Derived.BigQuiet
import Derived.Laws.EntriesVeiled
import Derived.Deep.AppendLies
import Derived.Deep.RegionHeld3
namespace Go.Proofs.Ytbfgpbjckkhljaa
open Go.RowKit

/-- The steps that came in: b, off, len; what they are. -/
structure Arg where
  ao : Option Addr
  b : Nat
  off : Nat
  len : Nat
  cap : Nat
  z : Nat → Int × Int

/-- A player at block A, its marks' row from base on. -/
structure PL (g : Arg) (A base : Nat) (v : Value) (at' : Nat) (log : List Int) (W : World) : Prop where
  l : W.cell? ⟨A, 0, none⟩ = some (.slice g.ao g.len g.cap)
  ix : W.cell? ⟨A, 1, none⟩ = some (.int .i64 at')
  lg : W.cell? ⟨A, 2, none⟩ = some v
  own : W.ownsRow base 3 1 v log.length (log.map (Value.int .i64))
  fz : ∀ i, W.frozen? ⟨A, i, none⟩ = false
  nA : v.ownBlock ≠ some A
  bA : g.b ≠ A
  bB : g.b < base
  baseW : base ≤ W.heap.size
  lies : 0 < g.len → g.ao = some ⟨g.b, g.off, none⟩
  arg : ∀ i, i < g.len → W.cell? ⟨g.b, g.off + i * 2, none⟩ = some (.int .i64 (g.z i).1) ∧ W.cell? ⟨g.b, g.off + i * 2 + 1, none⟩ = some (.int .i64 (g.z i).2)

theorem heap_drew' (w : World) : w.drew.heap = w.heap := rfl
theorem Kept.drew {S : Nat → Prop} {a w : World} (h : Kept S a w) : Kept S a w.drew := ⟨h.os, h.tape, h.output, h.size, h.block⟩

theorem PL.drewN {g : Arg} {A base : Nat} {v : Value} {a : Nat} {log : List Int} {W : World} (h : PL g A base v a log W) (q : Nat) : PL g A base v a log (W.drewN q) :=
  ⟨h.l, h.ix, h.lg, h.own, h.fz, h.nA, h.bA, h.bB, h.baseW, h.lies, h.arg⟩

theorem grownBy_of_kept {A : Nat} {W W' : World} (hk : Kept (· = A) W W') : W.grownBy W' (some A) := ⟨hk.os, hk.tape, hk.output, hk.size, fun j hj hs => hk.block j hj (fun e => hs (by rw [e]))⟩

/-- A player of which only 'at' has turned. -/
theorem PL.moved {g : Arg} {A base : Nat} {v : Value} {a a' : Nat} {log : List Int} {W W' : World} (h : PL g A base v a log W) (hk : Kept (· = A) W W')
    (h0 : W'.cell? ⟨A, 0, none⟩ = W.cell? ⟨A, 0, none⟩) (h1 : W'.cell? ⟨A, 1, none⟩ = some (.int .i64 a')) (h2 : W'.cell? ⟨A, 2, none⟩ = W.cell? ⟨A, 2, none⟩) (hf : ∀ i, W'.frozen? ⟨A, i, none⟩ = W.frozen? ⟨A, i, none⟩) :
    PL g A base v a' log W' := by
  refine ⟨h0.trans h.l, h1, h2.trans h.lg, h.own.kept (grownBy_of_kept hk) (.inr h.nA), fun i => (hf i).trans (h.fz i), h.nA, h.bA, h.bB, Nat.le_trans h.baseW hk.size, h.lies, ?_⟩
  intro i hi
  obtain ⟨p, q⟩ := h.arg i hi
  exact ⟨(hk.cell (p := ⟨g.b, g.off + i * 2, none⟩) (World.block_lt_of_cell? W _ p) h.bA).trans p, (hk.cell (p := ⟨g.b, g.off + i * 2 + 1, none⟩) (World.block_lt_of_cell? W _ q) h.bA).trans q⟩

theorem more_yes (g : Arg) (A base : Nat) (v : Value) (a : Nat) (log : List Int) (W : World) (h : PL g A base v a log W) (hn : a < min g.len 50) :
    Calls Try.prog 35 #[.pointer (some ⟨A, 0, none⟩)] W fun e W' => e = .returned (.bool true) ∧ ∃ q, W' = W.drewN q := by
  have hl := h.l
  have hi := h.ix
  clear h
  have hd : a < g.len := by omega
  have hd2 : decide ((a : Int) < 50) = true := by simp; omega
  clear hn
  go_enter Try.func35, Try.ntmps35
  go_wp2_with fail
  go_quiet (fail)
  go_wp2
  go_ret
  exact ⟨rfl, _, rfl⟩

theorem more_no (g : Arg) (A base : Nat) (v : Value) (a : Nat) (log : List Int) (W : World) (h : PL g A base v a log W) (hn : ¬ a < min g.len 50) :
    Calls Try.prog 35 #[.pointer (some ⟨A, 0, none⟩)] W fun e W' => e = .returned (.bool false) ∧ ∃ q, W' = W.drewN q := by
  have hl := h.l
  have hi := h.ix
  clear h
  by_cases h1 : a < g.len
  · have hd2 : decide ((a : Int) < 50) = false := by simp; omega
    clear hn
    go_enter Try.func35, Try.ntmps35
    go_wp2_with fail
    go_quiet (fail)
    go_wp2
    go_ret
    exact ⟨rfl, _, rfl⟩
  · have hd : decide (a < g.len) = false := by simp; omega
    clear hn
    go_enter Try.func35, Try.ntmps35
    go_wp2_with fail
    go_quiet (fail)
    go_wp2
    go_ret
    exact ⟨rfl, _, rfl⟩

/-- The step that a raw one is. -/
def Arg.f (g : Arg) (i : Nat) : Int × Int := ((g.z i).1 % 9, (g.z i).2 % 9)

set_option maxRecDepth 100000 in
set_option maxHeartbeats 2000000 in
theorem step_any (g : Arg) (A base : Nat) (v : Value) (a : Nat) (log : List Int) (W : World) (h : PL g A base v a log W) (hn : a < min g.len 50) :
    Calls Try.prog 36 #[.pointer (some ⟨A, 0, none⟩)] W fun e W' => e = .returned (.agg #[.int .i64 (g.f a).1, .int .i64 (g.f a).2]) ∧ PL g A base v (a + 1) log W' ∧ Kept (· = A) W W' := by
  have hl := h.l
  have hi := h.ix
  have hf := h.fz 1
  have hao := h.lies (by omega)
  obtain ⟨a1, a2⟩ := h.arg a (by omega)
  obtain ⟨x, hx⟩ : ∃ x, x = (g.z a).1 := ⟨_, rfl⟩
  obtain ⟨y, hy⟩ : ∃ y, y = (g.z a).2 := ⟨_, rfl⟩
  rw [← hx] at a1
  rw [← hy] at a2
  rw [hao] at hl
  have i0 : (0 : Int) ≤ (a : Int) := by omega
  have i1 : (a : Int) < (g.len : Int) := by omega
  have i2 : (a : Int) < 50 := by omega
  have n1 := World.new_ne W _ hl
  have n2 := World.new_ne W _ hi
  have n3 := World.new_ne W _ a1
  have n4 := World.new_ne W _ a2
  have lA := World.block_lt_of_cell? W _ hi
  have HX := Lib.hid hx
  have HY := Lib.hid hy
  have HP := Lib.hid h
  clear hx hy h hao hn
  go_enter Try.func36, Try.ntmps36
  go_wp2_with fail
  go_region_held3 (fun w' => w'.cell? ⟨A, 0, none⟩ = some (.slice (some ⟨g.b, g.off, none⟩) g.len g.cap) ∧ w'.cell? ⟨A, 1, none⟩ = some (.int .i64 a) ∧ w'.cell? ⟨g.b, g.off + a * 2, none⟩ = some (.int .i64 x) ∧ w'.cell? ⟨g.b, g.off + a * 2 + 1, none⟩ = some (.int .i64 y)) (go_keep) (fail)
  go_wp2_with fail
  generalize hW3 : (((W.setCell { block := A, off := 1 } (Value.int IntKind.i64 (↑a + 1))).alloc (Obj.cells #[Value.int IntKind.i64 0, Value.int IntKind.i64 0] 45)).alloc (Obj.cells #[Value.int IntKind.i64 x, Value.int IntKind.i64 y] 45)).drew = W3
  have c1 : W3.cell? ⟨W.heap.size + 1, 0, none⟩ = some (.int .i64 x) := by rw [← hW3]; simp [go_sem]
  have c2 : W3.cell? ⟨W.heap.size + 1, 1, none⟩ = some (.int .i64 y) := by rw [← hW3]; simp [go_sem]
  have c3 : W3.cell? ⟨W.heap.size, 0, none⟩ = some (.int .i64 0) := by rw [← hW3]; simp [go_sem]
  have c4 : W3.cell? ⟨W.heap.size, 1, none⟩ = some (.int .i64 0) := by rw [← hW3]; simp [go_sem]
  have c5 : W3.frozen? ⟨W.heap.size, 0, none⟩ = false := by rw [← hW3]; simp [go_sem]
  have c6 : W3.frozen? ⟨W.heap.size, 1, none⟩ = false := by rw [← hW3]; simp [go_sem]
  have HW3 := Lib.hid hW3
  clear hW3 n1 n2 n3 n4 a1 a2 hl hi hf
  go_region_held3 (fun w' => w'.cell? ⟨W.heap.size + 1, 0, none⟩ = some (.int .i64 x) ∧ w'.cell? ⟨W.heap.size + 1, 1, none⟩ = some (.int .i64 y)) (go_keep) (first | (go_at_call 24; refine (pick_any _ _ (by omega) (by omega) _).mono ?_; rintro e w' ⟨rfl, rfl⟩))
  go_wp2_with fail
  generalize hW4 : ((W3.setCell { block := W.heap.size, off := 0 } (Value.int IntKind.i64 (x % 9))).setCell { block := W.heap.size, off := 1 } (Value.int IntKind.i64 (y % 9))).drew = W4
  have e1 : W4.cell? ⟨W.heap.size, 0, none⟩ = some (.int .i64 (x % 9)) := by
    rw [← hW4]; simp only [World.cell?_drew]; rw [World.cell?_setCell_other _ _ _ _ (by simp)]; exact World.cell?_setCell_same _ _ _ c3
  have e2 : W4.cell? ⟨W.heap.size, 1, none⟩ = some (.int .i64 (y % 9)) := by
    rw [← hW4]; simp only [World.cell?_drew]; refine World.cell?_setCell_same _ _ _ (u := .int .i64 0) ?_; rw [World.cell?_setCell_other _ _ _ _ (by simp)]; exact c4
  have hA4 : W4.heap[A]? = (W.setCell ⟨A, 1, none⟩ (.int .i64 ((a : Int) + 1))).heap[A]? := by
    rw [← hW4, ← HW3.out]
    simp only [heap_drew']
    rw [Below.heap_setCell _ _ _ _ (by simp; omega), Below.heap_setCell _ _ _ _ (by simp; omega)]
    simp only [heap_drew']
    rw [Below.heap_alloc _ _ _ (by simp; omega), Below.heap_alloc _ _ _ (by simp; omega)]
  have hk4 : Kept (· = A) W W4 := by
    rw [← hW4, ← HW3.out]
    have k1 : Kept (· = A) W (W.setCell ⟨A, 1, none⟩ (.int .i64 ((a : Int) + 1))) := Kept.setCell (S := (· = A)) W ⟨A, 1, none⟩ rfl _
    have k2 := ((k1.trans (Kept.alloc (fun _ => False) _ (.cells #[Value.int IntKind.i64 0, Value.int IntKind.i64 0] 45)) (fun _ _ h => h.elim)).trans (Kept.alloc (fun _ => False) _ (.cells #[Value.int IntKind.i64 x, Value.int IntKind.i64 y] 45)) (fun _ _ h => h.elim)).drew
    have k3 := k2.trans (Kept.setCell (S := (· = W.heap.size)) _ ⟨W.heap.size, 0, none⟩ rfl (.int .i64 (x % 9))) (fun i hi e => by omega)
    exact (k3.trans (Kept.setCell (S := (· = W.heap.size)) _ ⟨W.heap.size, 1, none⟩ rfl (.int .i64 (y % 9))) (fun i hi e => by omega)).drew
  have HPL : PL g A base v (a + 1) log W4 := by
    refine HP.out.moved hk4 ?_ ?_ ?_ ?_
    · exact (World.cell?_of_block (a := ⟨A, 0, none⟩) hA4).trans (World.cell?_setCell_other _ _ _ _ (by simp))
    · exact (World.cell?_of_block (a := ⟨A, 1, none⟩) hA4).trans (World.cell?_setCell_same _ _ _ HP.out.ix)
    · exact (World.cell?_of_block (a := ⟨A, 2, none⟩) hA4).trans (World.cell?_setCell_other _ _ _ _ (by simp))
    · intro i
      exact (World.frozen?_of_block (a := ⟨A, i, none⟩) hA4).trans (by simp)
  exact bodyPost_ret (v := .agg #[.int .i64 (x % 9), .int .i64 (y % 9)]) (by simp [results, Try.results36, go_sem, e1, e2]) rfl ⟨by rw [HX.out, HY.out]; rfl, HPL, hk4⟩

theorem PL.alloc {g : Arg} {A base : Nat} {v : Value} {a : Nat} {log : List Int} {W : World} (h : PL g A base v a log W) (o : Obj) : PL g A base v a log (W.alloc o) := by
  have hA := World.block_lt_of_cell? W _ h.ix
  refine h.moved (Kept.alloc _ W o) ?_ ?_ ?_ ?_
  · exact World.cell?_alloc_lt W o ⟨A, 0, none⟩ hA
  · exact (World.cell?_alloc_lt W o ⟨A, 1, none⟩ hA).trans h.ix
  · exact World.cell?_alloc_lt W o ⟨A, 2, none⟩ hA
  · intro i; exact World.frozen?_of_block (a := ⟨A, i, none⟩) (Below.heap_alloc _ _ _ hA)

/-- What a player's call leaves: of the blocks that were there the player's own and its marks' row may have turned; the marks' row is that one or a new one. -/
structure Went (A : Nat) (v v' : Value) (W W' : World) : Prop where
  kept : Kept (fun k => k = A ∨ v.ownBlock = some k) W W'
  own : v'.ownBlock = v.ownBlock ∨ ∃ k, v'.ownBlock = some k ∧ W.heap.size ≤ k

theorem Went.refl (A : Nat) (v : Value) (W : World) : Went A v v W W := ⟨Kept.refl _ _, .inl rfl⟩
theorem Went.trans {A : Nat} {v v1 v2 : Value} {W W1 W2 : World} (h : Went A v v1 W W1) (k : Went A v1 v2 W1 W2) : Went A v v2 W W2 := by
  refine ⟨h.kept.trans k.kept ?_, ?_⟩
  · rintro i hi (e | e)
    · exact .inl e
    · rcases h.own with h1 | ⟨j, h1, h2⟩
      · exact .inr (h1 ▸ e)
      · rw [h1] at e; cases e; omega
  · rcases k.own with k1 | ⟨j, k1, k2⟩
    · rw [k1]; exact h.own
    · exact .inr ⟨j, k1, Nat.le_trans h.kept.size k2⟩
theorem Went.of_kept {A : Nat} {v : Value} {W W' : World} (h : Kept (· = A) W W') : Went A v v W W' := ⟨h.mono (fun _ _ e => .inl e), .inl rfl⟩
theorem Went.drewN {A : Nat} {v v' : Value} {W W' : World} (h : Went A v v' W W') (q : Nat) : Went A v v' W (W'.drewN q) := ⟨⟨h.kept.os, h.kept.tape, h.kept.output, h.kept.size, h.kept.block⟩, h.own⟩
/-- A cell of a block that is not the player's. -/
theorem Went.cell {A : Nat} {v v' : Value} {W W' : World} (h : Went A v v' W W') {p : Addr} {u : Value} (hc : W.cell? p = some u) (hA : p.block ≠ A) (hv : v.ownBlock ≠ some p.block) : W'.cell? p = some u :=
  (h.kept.cell (World.block_lt_of_cell? W _ hc) (fun e => e.elim hA hv)).trans hc

/-- A mark is laid behind the others. -/
theorem PL.marked {g : Arg} {A base : Nat} {v : Value} {a : Nat} {log : List Int} {W w1 : World} {m : Int} {gg cap : Nat} (h : PL g A base v a log W)
    (hown : w1.ownsRow base 3 1 (.slice (some ⟨gg, 0, none⟩) (log.length + 1) cap) (log.length + 1) (log.map (Value.int .i64) ++ [.int .i64 m]))
    (hg : (W.alloc (.cells #[.int .i64 m] 3)).grownBy w1 v.ownBlock) (hat : v.ownBlock = some gg ∨ gg = W.heap.size + 1) :
    PL g A base (.slice (some ⟨gg, 0, none⟩) (log.length + 1) cap) a (log ++ [m]) (w1.setCell ⟨A, 2, none⟩ (.slice (some ⟨gg, 0, none⟩) (log.length + 1) cap)) ∧
      Went A v (.slice (some ⟨gg, 0, none⟩) (log.length + 1) cap) W (w1.setCell ⟨A, 2, none⟩ (.slice (some ⟨gg, 0, none⟩) (log.length + 1) cap)) := by
  have hA : A < W.heap.size := World.block_lt_of_cell? W _ h.ix
  have hgA : gg ≠ A := by
    rcases hat with e | e
    · intro e'; subst e'; exact h.nA e
    · omega
  have hAsame : w1.heap[A]? = W.heap[A]? := (hg.block A (by simp; omega) (fun e => h.nA e.symm)).trans (Below.heap_alloc _ _ _ hA)
  have k1 : Kept (fun k => v.ownBlock = some k) W w1 := (Kept.alloc _ W (.cells #[.int .i64 m] 3)).trans (T := fun k => v.ownBlock = some k) ⟨hg.os, hg.tape, hg.output, hg.size, fun k hk hs => hg.block k hk (fun e => hs e.symm)⟩ (fun _ _ h => h)
  have hlg1 : w1.cell? ⟨A, 2, none⟩ = some v := (World.cell?_of_block (a := ⟨A, 2, none⟩) hAsame).trans h.lg
  have hown2 : (w1.setCell ⟨A, 2, none⟩ (.slice (some ⟨gg, 0, none⟩) (log.length + 1) cap)).ownsRow base 3 1 (.slice (some ⟨gg, 0, none⟩) (log.length + 1) cap) (log.length + 1) (log.map (Value.int .i64) ++ [.int .i64 m]) :=
    hown.kept (row := some A) (grownBy_of_kept (Kept.setCell (S := (· = A)) w1 ⟨A, 2, none⟩ rfl _)) (.inr (by simp [Value.ownBlock]; omega))
  have k2 : Kept (fun k => k = A ∨ v.ownBlock = some k) W (w1.setCell ⟨A, 2, none⟩ (.slice (some ⟨gg, 0, none⟩) (log.length + 1) cap)) :=
    (k1.mono (fun _ _ e => .inr e)).trans (Kept.setCell (S := (· = A)) w1 ⟨A, 2, none⟩ rfl _) (fun _ _ e => .inl e)
  have hbv : v.ownBlock ≠ some g.b := fun e => by have := (h.own.lt _ e).1; have := h.bB; omega
  refine ⟨⟨?_, ?_, World.cell?_setCell_same _ _ _ hlg1, by simpa using hown2, ?_, ?_, h.bA, h.bB, Nat.le_trans h.baseW k2.size, h.lies, ?_⟩, k2, ?_⟩
  · rw [World.cell?_setCell_other _ _ _ _ (by simp)]; exact (World.cell?_of_block (a := ⟨A, 0, none⟩) hAsame).trans h.l
  · rw [World.cell?_setCell_other _ _ _ _ (by simp)]; exact (World.cell?_of_block (a := ⟨A, 1, none⟩) hAsame).trans h.ix
  · intro i; simp only [World.frozen?_setCell]; exact (World.frozen?_of_block (a := ⟨A, i, none⟩) hAsame).trans (h.fz i)
  · simp [Value.ownBlock]; omega
  · intro i hi
    obtain ⟨p, q⟩ := h.arg i hi
    exact ⟨(k2.cell (p := ⟨g.b, g.off + i * 2, none⟩) (World.block_lt_of_cell? W _ p) (fun e => e.elim h.bA hbv)).trans p, (k2.cell (p := ⟨g.b, g.off + i * 2 + 1, none⟩) (World.block_lt_of_cell? W _ q) (fun e => e.elim h.bA hbv)).trans q⟩
  · rcases hat with e | e
    · exact .inl (by rw [e]; rfl)
    · exact .inr ⟨gg, rfl, by omega⟩

end Go.Proofs.Ytbfgpbjckkhljaa
