/- TrapCounts: Pick, the closures, the walk. -/
import Derived.Test.YtbfgpbjckkhljaaKnown
import Derived.Lib.Hide
namespace Go.Proofs.Ytbfgpbjckkhljaa
open Go.RowKit

theorem tmod_fix (n m : Int) (hm : 0 < m) : (n.tmod m < 0 → n.tmod m + m = n % m) ∧ (¬ n.tmod m < 0 → n.tmod m = n % m) ∧ -m < n.tmod m ∧ n.tmod m < m := by
  have h1 : n.tmod m = n % m - ((if 0 ≤ n ∨ m ∣ n then 0 else m.natAbs : Nat) : Int) := Int.tmod_eq_emod
  have h2 := Int.emod_nonneg n (by omega : m ≠ 0)
  have h3 := Int.emod_lt_of_pos n hm
  have h5 : (m.natAbs : Int) = m := by omega
  by_cases h : 0 ≤ n ∨ m ∣ n
  · rw [if_pos h] at h1
    refine ⟨?_, ?_, ?_, ?_⟩ <;> omega
  · rw [if_neg h] at h1
    refine ⟨?_, ?_, ?_, ?_⟩ <;> omega

theorem pick_any (n m : Int) (h0 : 1 ≤ m) (h1 : m ≤ 100000) (w : World) : Calls Try.prog 24 #[.int .i64 n, .int .i64 m] w fun e w' => e = .returned (.int .i64 (n % m)) ∧ w = w' := by
  obtain ⟨a, b, c, d⟩ := tmod_fix n m (by omega)
  have HA := Lib.hid a
  have HB := Lib.hid b
  clear a b
  by_cases hlt : n.tmod m < 0
  · have H := HA.out hlt
    go_enter Try.func24, Try.ntmps24
    go_wp2
    go_ret
    exact ⟨rfl, rfl⟩
  · have H := HB.out hlt
    go_enter Try.func24, Try.ntmps24
    go_wp2
    go_ret
    exact ⟨rfl, rfl⟩

theorem c31_no (p q : Addr) (c v : Int) (w : World) (hp : w.cell? p = some (.int .i64 c)) (hz : w.frozen? p = false) (hq : (w.setCell p (.int .i64 (c + 1))).cell? q = some (.int .i64 v)) (h0 : 0 ≤ c) (h1 : c ≤ 1000) (hv : v ≤ 0) :
    Calls Try.prog 31 #[.pointer (some p), .pointer (some q)] w fun e w' => Ends .ok e ∧ w' = w.setCell p (.int .i64 (c + 1)) := by
  go_enter Try.func31, Try.ntmps31
  go_wp2_with (go_at_call 9; refine (stop_ok _).mono ?_; rintro e w' ⟨rfl, rfl⟩)
  go_end0
  exact ⟨⟨_, rfl⟩, rfl⟩

theorem c31_yes (p q : Addr) (c v : Int) (w : World) (hp : w.cell? p = some (.int .i64 c)) (hz : w.frozen? p = false) (hq : (w.setCell p (.int .i64 (c + 1))).cell? q = some (.int .i64 v)) (h0 : 0 ≤ c) (h1 : c ≤ 1000) (hv : 0 < v) :
    Calls Try.prog 31 #[.pointer (some p), .pointer (some q)] w fun e w' => Ends (.err v) e ∧ w' = w.setCell p (.int .i64 (c + 1)) := by
  have hb : (v != 0) = true := by simp; omega
  go_enter Try.func31, Try.ntmps31
  go_wp2_with (go_at_call 9; refine (stop_err v hb _).mono ?_; rintro e w' ⟨rfl, rfl⟩)
  exact ⟨rfl, ⟨_, rfl, Chain.one _⟩, rfl⟩

/-- A raw number's error: from -6 to 5. -/
def cv (z : Int) : Int := z % 12 - 6
/-- The closure over the counter's block and its own error's block. -/
def clo (B b : Nat) : Value := .func (.func 31) #[] #[.pointer (some ⟨B, 0, none⟩), .pointer (some ⟨b, 0, none⟩)]
/-- The first place below k with an error, or -1; and that error, or 0. -/
def fst (f : Nat → Int) : Nat → Int
  | 0 => -1
  | k + 1 => if fst f k < 0 ∧ 0 < f k then k else fst f k
def fstE (f : Nat → Int) : Nat → Int
  | 0 => 0
  | k + 1 => if fst f k < 0 ∧ 0 < f k then f k else fstE f k

theorem fst_bd (f : Nat → Int) (k : Nat) : -1 ≤ fst f k ∧ fst f k < k := by
  induction k with
  | zero => simp [fst]
  | succ k ih => simp only [fst]; split <;> omega

theorem fst_neg (f : Nat → Int) (k : Nat) (h : fst f k < 0) : fstE f k = 0 ∧ ∀ j, j < k → f j ≤ 0 := by
  induction k with
  | zero => simp [fstE]
  | succ k ih =>
    simp only [fst, fstE] at h ⊢
    split at h
    · omega
    · rename_i hn
      rw [if_neg hn]
      have := ih h
      refine ⟨this.1, fun j hj => ?_⟩
      by_cases e : j = k
      · subst e; omega
      · exact this.2 j (by omega)

theorem fst_pos (f : Nat → Int) (k : Nat) (h : ¬ fst f k < 0) : ∃ j, j < k ∧ fst f k = j ∧ fstE f k = f j ∧ 0 < f j ∧ ∀ i, i < j → f i ≤ 0 := by
  induction k with
  | zero => simp [fst] at h
  | succ k ih =>
    simp only [fst, fstE] at h ⊢
    split at h
    · rename_i hc
      rw [if_pos hc, if_pos hc]
      exact ⟨k, by omega, rfl, rfl, hc.2, (fst_neg f k hc.1).2⟩
    · rename_i hn
      rw [if_neg hn, if_neg hn]
      obtain ⟨j, h1, h2⟩ := ih h
      exact ⟨j, by omega, h2⟩

theorem fst_none (f : Nat → Int) (k : Nat) (h : ∀ j, j < k → f j ≤ 0) : fst f k < 0 := by
  induction k with
  | zero => simp [fst]
  | succ k ih =>
    have := h k (by omega)
    simp only [fst]
    rw [if_neg (by omega)]
    exact ih fun j hj => h j (by omega)

theorem fst_at (f : Nat → Int) (i k : Nat) (h : ∀ j, j < i → f j ≤ 0) (hp : 0 < f i) (hi : i < k) : fst f k = i ∧ fstE f k = f i := by
  induction k with
  | zero => omega
  | succ k ih =>
    simp only [fst, fstE]
    by_cases e : i = k
    · subst e
      have := fst_none f i h
      rw [if_pos ⟨this, hp⟩, if_pos ⟨this, hp⟩]
      exact ⟨rfl, rfl⟩
    · obtain ⟨a, b⟩ := ih (by omega)
      rw [if_neg (by omega), if_neg (by omega)]
      exact ⟨a, b⟩

/-- What Each is handed: the row of closures, each over its own block. -/
structure Fns (B : Nat) (bs : List Nat) (f : Nat → Int) (g : Nat) (W : World) : Prop where
  row : ∀ j, j < bs.length → W.cell? ⟨g, 0 + j, none⟩ = some (clo B (bs.getD j 0))
  val : ∀ j, j < bs.length → W.cell? ⟨bs.getD j 0, 0, none⟩ = some (.int .i64 (f j))
  gB : g ≠ B
  bB : ∀ j, j < bs.length → bs.getD j 0 ≠ B

set_option maxHeartbeats 1000000 in
theorem each_counts (B g cap : Nat) (bs : List Nat) (f : Nat → Int) (W : World) (hn : bs.length ≤ 20) (F : Fns B bs f g W) (hc : W.cell? ⟨B, 0, none⟩ = some (.int .i64 0)) (hz : W.frozen? ⟨B, 0, none⟩ = false) :
    Calls Try.prog 10 #[.slice (some ⟨g, 0, none⟩) bs.length cap] W fun e w' =>
      (fst f bs.length < 0 ∧ e = .returned (.tuple #[.int .i64 bs.length, .int .i64 0]) ∧ w'.cell? ⟨B, 0, none⟩ = some (.int .i64 bs.length) ∨
       ¬ fst f bs.length < 0 ∧ e = .returned (.tuple #[.int .i64 (fst f bs.length), .int .i64 (fstE f bs.length)]) ∧ w'.cell? ⟨B, 0, none⟩ = some (.int .i64 (fst f bs.length + 1))) ∧ Kept (· = B) W w' := by
  have hBW := World.block_lt_of_cell? W _ hc
  refine each_of g 0 bs.length cap (fun i => clo B (bs.getD i 0)) (fun i w' => (∀ j, j < i → f j ≤ 0) ∧ w'.cell? ⟨B, 0, none⟩ = some (.int .i64 i) ∧ w'.frozen? ⟨B, 0, none⟩ = false ∧ Kept (· = B) W w') _ (by omega) ?_ ?_ ?_ W ⟨by simp, hc, hz, Kept.refl _ _⟩
  · rintro i w' hi ⟨_, _, _, hk⟩
    have h := F.row i hi
    rw [hk.cell (p := ⟨g, 0 + i, none⟩) (World.block_lt_of_cell? W _ h) F.gB]
    exact h
  · rintro i w' hi ⟨hle, hci, hzi, hk⟩
    have hv := F.val i hi
    have hbw := World.block_lt_of_cell? W _ hv
    have hBw : B < w'.heap.size := World.block_lt_of_cell? w' _ hci
    have hne : B ≠ bs.getD i 0 := fun e => F.bB i hi e.symm
    have hvi : w'.cell? ⟨bs.getD i 0, 0, none⟩ = some (.int .i64 (f i)) := (hk.cell (p := ⟨bs.getD i 0, 0, none⟩) hbw (F.bB i hi)).trans hv
    have hci2 : (runWorld w').cell? ⟨B, 0, none⟩ = some (.int .i64 i) := (World.cell?_alloc_lt w' _ ⟨B, 0, none⟩ hBw).trans hci
    have hzi2 : (runWorld w').frozen? ⟨B, 0, none⟩ = false := ((Kept.alloc (fun _ => False) w' _).frozen (p := ⟨B, 0, none⟩) hBw id).trans hzi
    have hvi2 : ((runWorld w').setCell ⟨B, 0, none⟩ (.int .i64 ((i : Int) + 1))).cell? ⟨bs.getD i 0, 0, none⟩ = some (.int .i64 (f i)) := by
      rw [World.cell?_setCell_other _ _ _ _ (fun h => hne (congrArg Addr.block h))]
      exact (World.cell?_alloc_lt w' _ ⟨bs.getD i 0, 0, none⟩ (World.block_lt_of_cell? w' _ hvi)).trans hvi
    have post : ∀ w1 w2, w1 = (runWorld w').setCell ⟨B, 0, none⟩ (.int .i64 ((i : Int) + 1)) → Kept (· = w'.heap.size) w1 w2 →
        w2.cell? ⟨B, 0, none⟩ = some (.int .i64 ((i : Int) + 1)) ∧ w2.frozen? ⟨B, 0, none⟩ = false ∧ Kept (· = B) W w2 := by
      rintro w1 w2 rfl hk2
      have hB1 : B < ((runWorld w').setCell ⟨B, 0, none⟩ (.int .i64 ((i : Int) + 1))).heap.size := by simp [runWorld]; omega
      have hB2 : ¬ B = w'.heap.size := by omega
      refine ⟨?_, ?_, ?_⟩
      · rw [hk2.cell (p := ⟨B, 0, none⟩) hB1 hB2]
        exact World.cell?_setCell_same _ _ _ hci2
      · rw [hk2.frozen (p := ⟨B, 0, none⟩) hB1 hB2]
        simpa using hzi2
      · have hs := hk.size
        have k1 : Kept (· = B) W (runWorld w') := hk.trans (Kept.alloc (fun _ => False) w' _) (fun _ _ h => h.elim)
        have k2 := k1.trans (Kept.setCell (S := (· = B)) (runWorld w') ⟨B, 0, none⟩ rfl (.int .i64 ((i : Int) + 1))) (fun _ _ h => h)
        exact k2.trans hk2 (fun k hk e => by omega)
    have keep : ((runWorld w').setCell ⟨B, 0, none⟩ (.int .i64 ((i : Int) + 1))).heap[w'.heap.size]? = (runWorld w').heap[w'.heap.size]? := Below.heap_setCell _ _ _ _ (by simp; omega)
    by_cases hp : 0 < f i
    · refine (run_of 31 _ w' (.err (f i)) (fun w1 => w1 = (runWorld w').setCell ⟨B, 0, none⟩ (.int .i64 ((i : Int) + 1))) (fun _ => by kernel_rfl) ?_).mono ?_
      · refine (c31_yes ⟨B, 0, none⟩ ⟨bs.getD i 0, 0, none⟩ i (f i) (runWorld w') hci2 hzi2 hvi2 (by omega) (by omega) hp).mono ?_
        rintro e w1 ⟨he, rfl⟩
        exact ⟨he, rfl, keep⟩
      · rintro e w2 ⟨he, w1, h1, hk2⟩
        obtain ⟨q1, q2, q3⟩ := post w1 w2 h1 hk2
        obtain ⟨a1, a2⟩ := fst_at f i bs.length hle hp hi
        refine .inr (.inl ⟨f i, by simp; omega, he, .inr ⟨by omega, ?_, ?_⟩, q3⟩)
        · rw [a1, a2]
        · rw [a1]; exact q1
    · refine (run_of 31 _ w' .ok (fun w1 => w1 = (runWorld w').setCell ⟨B, 0, none⟩ (.int .i64 ((i : Int) + 1))) (fun _ => by kernel_rfl) ?_).mono ?_
      · refine (c31_no ⟨B, 0, none⟩ ⟨bs.getD i 0, 0, none⟩ i (f i) (runWorld w') hci2 hzi2 hvi2 (by omega) (by omega) (by omega)).mono ?_
        rintro e w1 ⟨he, rfl⟩
        exact ⟨he, rfl, keep⟩
      · rintro e w2 ⟨he, w1, h1, hk2⟩
        obtain ⟨q1, q2, q3⟩ := post w1 w2 h1 hk2
        refine .inl ⟨he, ?_, by simpa using q1, q2, q3⟩
        intro j hj
        by_cases e : j = i
        · subst e; omega
        · exact hle j (by omega)
  · rintro w' ⟨hle, hci, hzi, hk⟩
    exact ⟨.inl ⟨fst_none f _ hle, rfl, hci⟩, hk⟩

/-- What holds at the head of TrapCounts' loop. -/
structure CRel (B : Nat) (f : Nat → Int) (w wr : World) (v : Value) (bs : List Nat) : Prop where
  own : wr.ownsRow (B + 1) 1 1 v bs.length (bs.map (clo B))
  val : ∀ j, j < bs.length → wr.cell? ⟨bs.getD j 0, 0, none⟩ = some (.int .i64 (f j))
  bB : ∀ j, j < bs.length → B < bs.getD j 0
  cnt : wr.cell? ⟨B, 0, none⟩ = some (.int .i64 0)
  frz : wr.frozen? ⟨B, 0, none⟩ = false
  bel : Below B w wr

theorem CRel.apart {B : Nat} {f : Nat → Int} {w wr : World} {v : Value} {bs : List Nat} (h : CRel B f w wr v bs) (j : Nat) (hj : j < bs.length) : v.ownBlock ≠ some (bs.getD j 0) := by
  intro e
  have h0 := h.own.cells e 0 (clo B (bs.getD 0 0)) (by rw [List.getElem?_map]; cases bs with | nil => simp at hj | cons a r => simp)
  have h1 := h.val j hj
  have : (⟨bs.getD j 0, 0, none⟩ : Addr).add 0 = ⟨bs.getD j 0, 0, none⟩ := rfl
  rw [this, h1] at h0
  simp [clo] at h0

theorem CRel.step {B : Nat} {f : Nat → Int} {w wr w1 : World} {v v1 : Value} {bs : List Nat} (h : CRel B f w wr v bs) (o : Obj)
    (hown : w1.ownsRow (B + 1) 1 1 v1 (bs.length + 1) (bs.map (clo B) ++ [clo B wr.heap.size]))
    (hg : ((wr.alloc (.cells #[.int .i64 (f bs.length)] 3)).alloc o).grownBy w1 v.ownBlock) :
    CRel B f w w1 v1 (bs ++ [wr.heap.size]) := by
  have hB := World.block_lt_of_cell? wr _ h.cnt
  have hBv : v.ownBlock ≠ some B := fun e => by have := (h.own.lt B e).1; omega
  have hsv : v.ownBlock ≠ some wr.heap.size := fun e => by have := (h.own.lt _ e).2; omega
  have old : ∀ (a : Addr) (u : Value), wr.cell? a = some u → v.ownBlock ≠ some a.block → w1.cell? a = some u := by
    intro a u hc hne
    have hlt := World.block_lt_of_cell? wr _ hc
    refine hg.cell ?_ (fun e => hne e.symm)
    rw [World.cell?_alloc_lt _ _ _ (by simp; omega), World.cell?_alloc_lt _ _ _ hlt]
    exact hc
  have getl : ∀ j, j < bs.length → (bs ++ [wr.heap.size]).getD j 0 = bs.getD j 0 := by
    intro j hj
    simp [List.getD, List.getElem?_append_left hj]
  have getn : (bs ++ [wr.heap.size]).getD bs.length 0 = wr.heap.size := by simp [List.getD]
  refine ⟨by simpa using hown, ?_, ?_, ?_, ?_, ?_⟩
  · intro j hj
    simp at hj
    by_cases e : j = bs.length
    · subst e
      rw [getn]
      refine hg.cell ?_ (fun e => hsv e.symm)
      rw [World.cell?_alloc_lt _ _ _ (by simp)]
      simp
    · rw [getl j (by omega)]
      exact old _ _ (h.val j (by omega)) (h.apart j (by omega))
  · intro j hj
    simp at hj
    by_cases e : j = bs.length
    · subst e
      rw [getn]
      exact hB
    · rw [getl j (by omega)]
      exact h.bB j (by omega)
  · exact old _ _ h.cnt hBv
  · rw [World.frozen?_of_block (w := wr.alloc (.cells #[.int .i64 (f bs.length)] 3)|>.alloc o) (a := ⟨B, 0, none⟩) (hg.block B (by simp; simp at hB; omega) (fun e => hBv e.symm))]
    rw [← h.frz]
    refine World.frozen?_of_block (a := ⟨B, 0, none⟩) ?_
    simp at hB
    rw [Below.heap_alloc _ _ _ (by simp; omega), Below.heap_alloc _ _ _ (by omega)]
  · simp at hB
    exact ((h.bel.alloc (by omega) _).alloc (by simp; omega) _).grown hg (by simp; omega) (fun k e => by have := (h.own.lt k e).1; omega)

theorem Try.info1 : (Try.prog.info? 1).map (fun i => (i.zero, i.size, i.bytes)) = some (some .nilFunc, 1, 8) := by kernel_rfl

theorem known_any (w : World) : Calls Try.prog 23 #[] w fun e w' => e = .returned (.bool true) ∧ Below w.heap.size w w' := by
  go_enter Try.func23, Try.ntmps23
  go_wp2_with (go_at_call 3; refine (known_walk _).mono ?_; rintro e w' ⟨rfl, hb⟩)
  go_ret
  exact ⟨rfl, hb⟩

end Go.Proofs.Ytbfgpbjckkhljaa
