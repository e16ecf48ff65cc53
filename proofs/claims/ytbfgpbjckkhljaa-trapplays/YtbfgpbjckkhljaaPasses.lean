/- TrapPasses: its closures. -/
import Derived.Test.YtbfgpbjckkhljaaCountsWalk
namespace Go.Proofs.Ytbfgpbjckkhljaa
open Go.RowKit

theorem Try.info3 : (Try.prog.info? 3).map (fun i => (i.zero, i.size, i.bytes)) = some (some (.int .i64 0), 1, 8) := by kernel_rfl

theorem owned_some {base : Nat} {v : Value} {n : Nat} {xs : List Value} {e : TypeId} {w : World} (h : w.ownsRow base e 1 v (n + 1) xs) : ∃ g cap, v = .slice (some ⟨g, 0, none⟩) (n + 1) cap := by
  rcases h with ⟨_, ⟨_, h0⟩ | ⟨g, cap, _, rfl, _⟩⟩
  · omega
  · exact ⟨g, cap, rfl⟩

theorem ownsRow_base {base base' : Nat} {e : TypeId} {k : Nat} {v : Value} {n : Nat} {xs : List Value} {w : World} (h : w.ownsRow base e k v n xs) (hb : base' ≤ base) : w.ownsRow base' e k v n xs := by
  obtain ⟨h1, h2⟩ := h
  exact ⟨h1, h2.imp id fun ⟨g, cap, cur, a, b, c⟩ => ⟨g, cap, cur, a, Nat.le_trans hb b, c⟩⟩

/-- Behind an append to a slice that the call owns: a cell of another block stands. -/
theorem behind_append {base : Nat} {p : Addr} {v u x : Value} {n : Nat} {xs : List Value} {t : TypeId} {w w1 : World} (hown : w.ownsRow base 3 1 v n xs) (hp : w.cell? p = some u) (hz : w.frozen? p = false) (hb : p.block < base)
    (hg : (w.alloc (.cells #[x] t)).grownBy w1 v.ownBlock) : w1.cell? p = some u ∧ w1.frozen? p = false ∧ Kept (fun j => base ≤ j) w w1 := by
  have hlt := World.block_lt_of_cell? w _ hp
  have hne : some p.block ≠ v.ownBlock := fun e => by have := (hown.lt _ e.symm).1; omega
  have hsame : w1.heap[p.block]? = w.heap[p.block]? := (hg.block p.block (by simp; omega) hne).trans (Below.heap_alloc _ _ _ hlt)
  refine ⟨(World.cell?_of_block hsame).trans hp, (World.frozen?_of_block hsame).trans hz, ?_⟩
  refine (Kept.alloc _ w _).trans (b := w.alloc (.cells #[x] t)) (T := fun j => base ≤ j) ⟨hg.os, hg.tape, hg.output, hg.size, fun k hk hs => hg.block k hk fun e => ?_⟩ (fun _ _ h => h)
  exact hs ((hown.lt k e.symm).1)

theorem d26 (base : Nat) (p q : Addr) (v : Value) (n : Nat) (xs : List Value) (k : Int) (u : FrameMode) (w : World)
    (hp : w.cell? p = some v) (hown : w.ownsRow base 3 1 v n xs) (hq : w.cell? q = some (.int .i64 k)) (hz : w.frozen? p = false) (hb : p.block < base) (hbw : base ≤ w.heap.size) (hn : n ≤ 1000) :
    CallsD Try.prog 26 #[.pointer (some p), .pointer (some q)] u w fun e u' w' => u' = u ∧ (e = .returned (.tuple #[]) ∧
      ∃ v', w'.cell? p = some v' ∧ w'.ownsRow base 3 1 v' (n + 1) (xs ++ [.int .i64 k]) ∧ w'.frozen? p = false ∧ Kept (fun j => j = p.block ∨ base ≤ j) w w') := by
  obtain ⟨i0, hi, hz0, hz1, hz2⟩ := info_parts Try.info3
  go_enter_d Try.func26, Try.ntmps26
  go_wp2_with (at_builtin; refine wpList_append_own _ rfl _ _ 31 rfl base 3 i0 (.int .i64 0) 1 8 Try.underlying31 hi hz0 hz1 hz2 rfl (by decide) _ _ _ rfl (hown.alloc _) ⟨w.heap.size, 0, none⟩ 1 1 [.int .i64 k] rfl rfl (one_new _ _ _ _ rfl) (by intro u hu; simp at hu; subst hu; rfl) (by unfold maxLen; omega) (by omega) (by simp; omega) ?_; intro v' w1 hown' hgrow _; obtain ⟨g, cap', hv'⟩ := owned_some hown'; subst hv'; obtain ⟨hp1, hz1', hk1⟩ := behind_append hown hp hz hb hgrow)
  go_end0
  refine ⟨rfl, _, World.cell?_setCell_same _ _ _ hp1, ownsRow_setCell_below hown' hb _, by simpa using hz1', ?_⟩
  exact (hk1.mono (fun i _ h => .inr h)).trans (Kept.setCell (S := fun j => j = p.block ∨ base ≤ j) w1 p (.inl rfl) _) (fun _ _ h => h)

/-- What nest captured. -/
def pt (b : Nat) : Value := .pointer (some ⟨b, 0, none⟩)

/-- What TrapPasses has laid, and leaves. -/
structure PSt (B : Nat) (s : ByteArray) (d : Int) (W : World) : Prop where
  str : W.cell? ⟨B, 0, none⟩ = some (.string s)
  dp : W.cell? ⟨B + 1, 0, none⟩ = some (.int .i64 d)
  nst : W.cell? ⟨B + 3, 0, none⟩ = some (.func (.func 25) #[] #[.pointer (some ⟨B + 2, 0, none⟩), .pointer (some ⟨B + 1, 0, none⟩), .pointer (some ⟨B, 0, none⟩), .pointer (some ⟨B + 3, 0, none⟩)])

theorem PSt.kept {B : Nat} {s : ByteArray} {d : Int} {W W' : World} {S : Nat → Prop} (h : PSt B s d W) (hk : Kept S W W') (h0 : ¬ S B) (h1 : ¬ S (B + 1)) (h3 : ¬ S (B + 3)) : PSt B s d W' :=
  ⟨(hk.cell (p := ⟨B, 0, none⟩) (World.block_lt_of_cell? W _ h.str) h0).trans h.str, (hk.cell (p := ⟨B + 1, 0, none⟩) (World.block_lt_of_cell? W _ h.dp) h1).trans h.dp, (hk.cell (p := ⟨B + 3, 0, none⟩) (World.block_lt_of_cell? W _ h.nst) h3).trans h.nst⟩

def textOf (s : ByteArray) : ByteArray := ⟨#[116, 101, 120, 116, 32]⟩ ++ s

def down (k : Int) : Nat → List Value
  | 0 => [.int .i64 k]
  | m + 1 => down (k + 1) m ++ [.int .i64 k]

theorem nest_last (B : Nat) (s : ByteArray) (d : Int) (W : World) (h : PSt B s d W) (ho : W.cell? ⟨B + 2, 0, none⟩ = some (.slice none 0 0)) (hz : W.frozen? ⟨B + 2, 0, none⟩ = false) (hs : s.size + 5 ≤ 140737488355328) :
    Calls Try.prog 25 #[.int .i64 d, .pointer (some ⟨B + 2, 0, none⟩), .pointer (some ⟨B + 1, 0, none⟩), .pointer (some ⟨B, 0, none⟩), .pointer (some ⟨B + 3, 0, none⟩)] W fun e W' =>
      (∃ c, e = .panicked c ∧ Chain (.iface 9 (.string (textOf s))) c) ∧ ∃ v', W'.cell? ⟨B + 2, 0, none⟩ = some v' ∧ W'.ownsRow W.heap.size 3 1 v' 1 (down d 0) ∧ W'.frozen? ⟨B + 2, 0, none⟩ = false ∧ Kept (· = B + 2) W W' := by
  have hmf : ∀ (fn : Fn) (first cap : Array Value) (w : World), (Instr.makeFunc fn first cap).run Try.prog w = .ok (.func fn first cap) w := fun _ _ _ _ => rfl
  have hdp : ∀ o, (W.alloc o).cell? ⟨B + 1, 0, none⟩ = some (.int .i64 d) := fun o => (World.cell?_alloc_lt W o ⟨B + 1, 0, none⟩ (World.block_lt_of_cell? W _ h.dp)).trans h.dp
  have hst : ∀ o, (W.alloc o).cell? ⟨B, 0, none⟩ = some (.string s) := fun o => (World.cell?_alloc_lt W o ⟨B, 0, none⟩ (World.block_lt_of_cell? W _ h.str)).trans h.str
  go_enter_defers Try.func25, Try.ntmps25
  go_wp2
  refine leaves_cons (f := 26) (args := #[.pointer (some ⟨B + 2, 0, none⟩), .pointer (some ⟨W.heap.size, 0, none⟩)]) (by simp) (by simp [go_sem]) ?_
  have hB := World.block_lt_of_cell? W _ ho
  refine (d26 W.heap.size ⟨B + 2, 0, none⟩ ⟨W.heap.size, 0, none⟩ (.slice none 0 0) 0 [] d _ _ ?_ (World.ownsRow_nil _ _ _ _) (by simp) ?_ hB (by simp) (by omega)).mono ?_
  · exact (World.cell?_alloc_lt W _ ⟨B + 2, 0, none⟩ hB).trans ho
  · exact ((Kept.alloc (fun _ => False) W _).frozen (p := ⟨B + 2, 0, none⟩) hB id).trans hz
  rintro e u' w' ⟨rfl, rfl, v', h1, h2, h3, h4⟩
  refine ⟨⟨_, rfl, Chain.one _⟩, v', h1, h2, h3, ?_⟩
  exact (Kept.alloc _ W _).trans h4 (fun i hi h => h.elim id (fun h => by omega))

theorem f27 (B kc : Nat) (k : Int) (s : ByteArray) (d : Int) (W : World) (R : Ending → World → Prop) (h : PSt B s d W) (hk : W.cell? ⟨kc, 0, none⟩ = some (.int .i64 k)) (h0 : 0 ≤ k) (h1 : k ≤ 1000)
    (hn : Calls Try.prog 25 #[.int .i64 (k + 1), .pointer (some ⟨B + 2, 0, none⟩), .pointer (some ⟨B + 1, 0, none⟩), .pointer (some ⟨B, 0, none⟩), .pointer (some ⟨B + 3, 0, none⟩)] W fun e W' => (∃ c, e = .panicked c ∧ Chain (.iface 9 (.string (textOf s))) c) ∧ R e W') :
    Calls Try.prog 27 #[.pointer (some ⟨B + 3, 0, none⟩), .pointer (some ⟨kc, 0, none⟩)] W fun e W' => Ends (.other 9 (.string (textOf s))) e ∧ R e W' := by
  have hns := h.nst
  go_enter Try.func27, Try.ntmps27
  go_wp2_with fail
  refine hn.mono ?_
  rintro e W' ⟨⟨c, rfl, hc⟩, hR⟩
  exact ⟨rfl, ⟨by decide, c, rfl, hc⟩, hR⟩

theorem nest_all (B : Nat) (s : ByteArray) (d : Int) (hd : d ≤ 12) (hs : s.size + 5 ≤ 140737488355328) : ∀ (m : Nat) (k : Int) (W : World), k + m = d → 0 ≤ k → PSt B s d W → W.cell? ⟨B + 2, 0, none⟩ = some (.slice none 0 0) → W.frozen? ⟨B + 2, 0, none⟩ = false → 
    Calls Try.prog 25 #[.int .i64 k, .pointer (some ⟨B + 2, 0, none⟩), .pointer (some ⟨B + 1, 0, none⟩), .pointer (some ⟨B, 0, none⟩), .pointer (some ⟨B + 3, 0, none⟩)] W fun e W' =>
      (∃ c, e = .panicked c ∧ Chain (.iface 9 (.string (textOf s))) c) ∧ ∃ v', W'.cell? ⟨B + 2, 0, none⟩ = some v' ∧ W'.ownsRow W.heap.size 3 1 v' (m + 1) (down k m) ∧ W'.frozen? ⟨B + 2, 0, none⟩ = false ∧ Kept (· = B + 2) W W' := by
  intro m
  induction m with
  | zero =>
    intro k W hk h0 h ho hz
    obtain rfl : k = d := by simpa using hk
    exact nest_last B s k W h ho hz hs
  | succ m ih =>
    intro k W hk h0 h ho hz
    have hne : (k == d) = false := by simp; omega
    have hB := World.block_lt_of_cell? W _ ho
    have hmf : ∀ (fn : Fn) (first cap : Array Value) (w : World), (Instr.makeFunc fn first cap).run Try.prog w = .ok (.func fn first cap) w := fun _ _ _ _ => rfl
    have hdp : ∀ o, (W.alloc o).cell? ⟨B + 1, 0, none⟩ = some (.int .i64 d) := fun o => (World.cell?_alloc_lt W o ⟨B + 1, 0, none⟩ (World.block_lt_of_cell? W _ h.dp)).trans h.dp
    have HK := Lib.hid hk
    clear hk
    go_enter_defers Try.func25, Try.ntmps25
    go_wp2_with fail
    obtain ⟨W1, hW1⟩ : ∃ W1, W1 = W.alloc (.cells #[.int .i64 k] 3) := ⟨_, rfl⟩
    rw [← hW1]
    have hs1 : W1.heap.size = W.heap.size + 1 := by rw [hW1]; simp
    have hsr : (runWorld W1).heap.size = W.heap.size + 2 := by simp [runWorld, hs1]
    have hkr : Kept (fun _ => False) W (runWorld W1) := by
      rw [hW1]; exact (Kept.alloc _ W _).trans (Kept.alloc (fun _ => False) _ _) (fun _ _ h => h)
    have hck : (runWorld W1).cell? ⟨W.heap.size, 0, none⟩ = some (.int .i64 k) := by
      refine (World.cell?_alloc_lt W1 _ ⟨W.heap.size, 0, none⟩ (by simp [hs1])).trans ?_
      rw [hW1]; simp
    have hP := h.kept hkr id id id
    refine (run_of 27 #[.pointer (some ⟨B + 3, 0, none⟩), .pointer (some ⟨W.heap.size, 0, none⟩)] W1 (.other 9 (.string (textOf s)))
      (fun w1 => ∃ v', w1.cell? ⟨B + 2, 0, none⟩ = some v' ∧ w1.ownsRow (W.heap.size + 2) 3 1 v' (m + 1) (down (k + 1) m) ∧ w1.frozen? ⟨B + 2, 0, none⟩ = false ∧ Kept (· = B + 2) (runWorld W1) w1) (fun _ => by kernel_rfl) ?_).mono ?_
    · refine (f27 B W.heap.size k s d (runWorld W1) (fun _ w1 => ∃ v', w1.cell? ⟨B + 2, 0, none⟩ = some v' ∧ w1.ownsRow (W.heap.size + 2) 3 1 v' (m + 1) (down (k + 1) m) ∧ w1.frozen? ⟨B + 2, 0, none⟩ = false ∧ Kept (· = B + 2) (runWorld W1) w1) hP hck h0 (by have := HK.out; omega) ?_).mono ?_
      · rw [← hsr]
        exact ih (k + 1) (runWorld W1) (by have := HK.out; omega) (by omega) hP ((hkr.cell (p := ⟨B + 2, 0, none⟩) hB id).trans ho) ((hkr.frozen (p := ⟨B + 2, 0, none⟩) hB id).trans hz)
      · rintro e w1 ⟨he, v', a1, a2, a3, a4⟩
        refine ⟨he, ⟨v', a1, a2, a3, a4⟩, a4.block _ (by omega) (by have hB2 : B + 2 < W.heap.size := hB; omega)⟩
    · rintro e W2 ⟨⟨_, c, rfl, older, rfl, hold⟩, w1, ⟨v', a1, a2, a3, a4⟩, hk2⟩
      have hB' : B + 2 < W.heap.size := hB
      have b1 : B + 2 < w1.heap.size := World.block_lt_of_cell? w1 _ a1
      have n1 : ¬ B + 2 = W1.heap.size := by omega
      have c1 : W2.cell? ⟨B + 2, 0, none⟩ = some v' := (hk2.cell (p := ⟨B + 2, 0, none⟩) b1 n1).trans a1
      have c2 : W2.frozen? ⟨B + 2, 0, none⟩ = false := (hk2.frozen (p := ⟨B + 2, 0, none⟩) b1 n1).trans a3
      have c3 : W2.ownsRow (W.heap.size + 2) 3 1 v' (m + 1) (down (k + 1) m) := a2.kept (row := some W1.heap.size) ⟨hk2.os, hk2.tape, hk2.output, hk2.size, fun j hj hs => hk2.block j hj (fun e => hs (by rw [e]))⟩ (.inr fun e => by have := (a2.lt _ e).1; omega)
      have c4 : W2.cell? ⟨W.heap.size, 0, none⟩ = some (.int .i64 k) := by
        have q1 : w1.cell? ⟨W.heap.size, 0, none⟩ = some (.int .i64 k) := (a4.cell (p := ⟨W.heap.size, 0, none⟩) (by simp; omega) (by simp; omega)).trans hck
        exact (hk2.cell (p := ⟨W.heap.size, 0, none⟩) (World.block_lt_of_cell? w1 _ q1) (by simp; omega)).trans q1
      have c5 : Kept (· = B + 2) W W2 := ((hkr.mono (fun _ _ h => h.elim)).trans a4 (fun _ _ h => h)).trans hk2 (fun i hi e => by omega)
      have hsz : W.heap.size ≤ W2.heap.size := c5.size
      refine leaves_cons (f := 26) (args := #[.pointer (some ⟨B + 2, 0, none⟩), .pointer (some ⟨W.heap.size, 0, none⟩)]) (by simp) (by simp [go_sem]) ?_
      refine (d26 W.heap.size ⟨B + 2, 0, none⟩ ⟨W.heap.size, 0, none⟩ v' (m + 1) _ k _ _ c1 (ownsRow_base c3 (by omega)) c4 c2 hB' hsz (by have := HK.out; omega)).mono ?_
      rintro e u' w' ⟨rfl, rfl, v2, h1, h2, h3, h4⟩
      refine ⟨⟨_, rfl, older, rfl, hold⟩, v2, h1, h2, h3, ?_⟩
      exact c5.trans h4 (fun i hi h => h.elim id (fun h => by omega))

theorem f30 (B : Nat) (s : ByteArray) (d : Int) (W : World) (R : Ending → World → Prop) (h : PSt B s d W)
    (hn : Calls Try.prog 25 #[.int .i64 0, .pointer (some ⟨B + 2, 0, none⟩), .pointer (some ⟨B + 1, 0, none⟩), .pointer (some ⟨B, 0, none⟩), .pointer (some ⟨B + 3, 0, none⟩)] W fun e W' => (∃ c, e = .panicked c ∧ Chain (.iface 9 (.string (textOf s))) c) ∧ R e W') :
    Calls Try.prog 30 #[.pointer (some ⟨B + 3, 0, none⟩)] W fun e W' => Ends (.other 9 (.string (textOf s))) e ∧ R e W' := by
  have hns := h.nst
  go_enter Try.func30, Try.ntmps30
  go_wp2_with fail
  refine hn.mono ?_
  rintro e W' ⟨⟨c, rfl, hc⟩, hR⟩
  exact ⟨rfl, ⟨by decide, c, rfl, hc⟩, hR⟩

theorem assert9_yes (W : World) (v : Value) : (Instr.typeAssert (.iface 9 v) 20 9 true).run Try.prog W = .ok (.tuple #[v, .bool true]) W := by kernel_rfl

theorem d29 (p : Addr) (t : ByteArray) (x : Value) (older : List PanicEntry) (w : World) (hc : w.cell? p = some x) (hz : w.frozen? p = false) :
    CallsD Try.prog 29 #[.pointer (some p)] (.panicking ({ v := .iface 9 (.string t), recovered := false } :: older)) w fun e u' w' =>
      e = .returned (.tuple #[]) ∧ u' = .panicking ({ v := .iface 9 (.string t), recovered := true } :: older) ∧ w' = w.setCell p (.string t) := by
  refine callsD_of_wpS Try.func29 rfl fun c₀ cs hu => ?_
  apply wpS_seq
  apply wpS_region
  simp [wpOpsS, go_sem, recoverD, hu, Try.ntmps29, Exit.thenS, assert9_yes]
  apply wpS_seq
  apply wpS_region
  simp [wpOpsS, go_sem, Exit.thenS]
  refine wpS_cond (t := true) (by simp [Act.eval, Array.replicate]) ?_
  simp only [if_true]
  refine wpS_of_wp ?_
  go_wp2
  simp [bodyPostS, results, Try.results29]

theorem f28 (B : Nat) (s : ByteArray) (d : Int) (m : Nat) (hd : d ≤ 12) (hm : (m : Int) = d) (hs : s.size + 5 ≤ 140737488355328) (W : World) (x : Value) (h : PSt B s d W) (ho : W.cell? ⟨B + 2, 0, none⟩ = some (.slice none 0 0)) (hz : W.frozen? ⟨B + 2, 0, none⟩ = false)
    (hg : W.cell? ⟨B + 4, 0, none⟩ = some x) (hgz : W.frozen? ⟨B + 4, 0, none⟩ = false) :
    Calls Try.prog 28 #[.pointer (some ⟨B + 4, 0, none⟩), .pointer (some ⟨B + 3, 0, none⟩)] W fun e W' => e = .returned (.tuple #[]) ∧
      W'.cell? ⟨B + 4, 0, none⟩ = some (.string (textOf s)) ∧ (∃ v', W'.cell? ⟨B + 2, 0, none⟩ = some v' ∧ W'.ownsRow W.heap.size 3 1 v' (m + 1) (down 0 m)) ∧ Kept (fun j => j = B + 2 ∨ j = B + 4) W W' := by
  have hmf : ∀ (fn : Fn) (first cap : Array Value) (w : World), (Instr.makeFunc fn first cap).run Try.prog w = .ok (.func fn first cap) w := fun _ _ _ _ => rfl
  have hB4 : B + 4 < W.heap.size := World.block_lt_of_cell? W _ hg
  have hsr : (runWorld W).heap.size = W.heap.size + 1 := by simp [runWorld]
  have hkr : Kept (fun _ => False) W (runWorld W) := Kept.alloc _ W _
  have hP := h.kept hkr id id id
  go_enter_defers Try.func28, Try.ntmps28
  go_wp2_with fail
  refine (run_of 30 #[.pointer (some ⟨B + 3, 0, none⟩)] W (.other 9 (.string (textOf s)))
      (fun w1 => ∃ v', w1.cell? ⟨B + 2, 0, none⟩ = some v' ∧ w1.ownsRow (W.heap.size + 1) 3 1 v' (m + 1) (down 0 m) ∧ w1.frozen? ⟨B + 2, 0, none⟩ = false ∧ Kept (· = B + 2) (runWorld W) w1) (fun _ => by kernel_rfl) ?_).mono ?_
  · refine (f30 B s d (runWorld W) (fun _ w1 => ∃ v', w1.cell? ⟨B + 2, 0, none⟩ = some v' ∧ w1.ownsRow (W.heap.size + 1) 3 1 v' (m + 1) (down 0 m) ∧ w1.frozen? ⟨B + 2, 0, none⟩ = false ∧ Kept (· = B + 2) (runWorld W) w1) hP ?_).mono ?_
    · rw [← hsr]
      exact nest_all B s d hd hs m 0 (runWorld W) (by omega) (by omega) hP ((hkr.cell (p := ⟨B + 2, 0, none⟩) (by simp; omega) id).trans ho) ((hkr.frozen (p := ⟨B + 2, 0, none⟩) (by simp; omega) id).trans hz)
    · rintro e w1 ⟨he, v', a1, a2, a3, a4⟩
      exact ⟨he, ⟨v', a1, a2, a3, a4⟩, a4.block _ (by omega) (by omega)⟩
  · rintro e W2 ⟨⟨_, c, rfl, older, rfl, hold⟩, w1, ⟨v', a1, a2, a3, a4⟩, hk2⟩
    have b1 : B + 2 < w1.heap.size := World.block_lt_of_cell? w1 _ a1
    have n1 : ¬ B + 2 = W.heap.size := by omega
    have c1 : W2.cell? ⟨B + 2, 0, none⟩ = some v' := (hk2.cell (p := ⟨B + 2, 0, none⟩) b1 n1).trans a1
    have c3 : W2.ownsRow (W.heap.size + 1) 3 1 v' (m + 1) (down 0 m) := a2.kept (row := some W.heap.size) ⟨hk2.os, hk2.tape, hk2.output, hk2.size, fun j hj hs => hk2.block j hj (fun e => hs (by rw [e]))⟩ (.inr fun e => by have := (a2.lt _ e).1; omega)
    have c5 : Kept (· = B + 2) W W2 := ((hkr.mono (fun _ _ h => h.elim)).trans a4 (fun _ _ h => h)).trans hk2 (fun i hi e => by omega)
    have g1 : W2.cell? ⟨B + 4, 0, none⟩ = some x := (c5.cell (p := ⟨B + 4, 0, none⟩) hB4 (by simp)).trans hg
    have g2 : W2.frozen? ⟨B + 4, 0, none⟩ = false := (c5.frozen (p := ⟨B + 4, 0, none⟩) hB4 (by simp)).trans hgz
    refine leaves_cons (f := 29) (args := #[.pointer (some ⟨B + 4, 0, none⟩)]) (by simp) (by simp [go_sem]) ?_
    refine (d29 ⟨B + 4, 0, none⟩ (textOf s) x older W2 g1 g2).mono ?_
    rintro e u' w' ⟨rfl, rfl, rfl⟩
    simp [settle_chain hold, Leaves, results, Try.results28]
    refine ⟨World.cell?_setCell_same _ _ _ g1, ⟨v', ?_, ?_⟩, ?_⟩
    · rw [World.cell?_setCell_other _ _ _ _ (by simp)]; exact c1
    · exact ownsRow_base (ownsRow_setCell_below c3 (by simp; omega) _) (by omega)
    · exact (c5.mono (fun _ _ h => .inl h)).trans (Kept.setCell (S := fun j => j = B + 2 ∨ j = B + 4) W2 ⟨B + 4, 0, none⟩ (.inr rfl) _) (fun _ _ h => h)

end Go.Proofs.Ytbfgpbjckkhljaa
