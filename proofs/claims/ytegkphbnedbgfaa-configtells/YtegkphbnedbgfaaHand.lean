
/- What the statements draw from: Pick, Feed.Next. -/
import Derived.Test.YtegkphbnedbgfaaChecked
import Derived.Test.YtegkphbnedbgfaaKept
import Derived.Lib.Hide
import Derived.IntWalk
import Derived.Deep.QuietTactic
import Derived.BigQuiet
import Derived.OpenShut
namespace Go.Proofs.Ytegkphbnedbgfaa
open Go.RowKit Go.ChangeShapes

theorem pick_emod (n m : Int) (hm : 1 ≤ m) : (if n.tmod m < 0 then n.tmod m + m else n.tmod m) = n % m := by
  have e := Int.mul_tdiv_add_tmod n m
  have h1 : n.tmod m < m := Int.tmod_lt_of_pos n (by omega)
  have h2 : -m < n.tmod m := by
    have := Int.tmod_lt_of_pos (-n) (b := m) (by omega); rw [Int.neg_tmod] at this; omega
  split
  · refine ((Int.ediv_emod_unique (a := n) (b := m) (r := n.tmod m + m) (q := n.tdiv m - 1) (by omega)).2 ⟨?_, by omega, by omega⟩).2.symm
    rw [Int.mul_sub, Int.mul_one]; omega
  · exact ((Int.ediv_emod_unique (a := n) (b := m) (r := n.tmod m) (q := n.tdiv m) (by omega)).2 ⟨by omega, by omega, by omega⟩).2.symm

theorem pick_any (n m : Int) (hm : 1 ≤ m) (hm2 : m ≤ 4611686018427387904) (w : World) : Calls Try.prog 13 #[.int .i64 n, .int .i64 m] w fun e w' => e = .returned (.int .i64 (n % m)) ∧ w = w' := by
  have h1 : n.tmod m < m := Int.tmod_lt_of_pos n (by omega)
  have h2 : -m < n.tmod m := by
    have := Int.tmod_lt_of_pos (-n) (b := m) (by omega); rw [Int.neg_tmod] at this; omega
  have hp := pick_emod n m hm
  have hd : ¬ m < 1 := by omega
  have hz : m ≠ 0 := by omega
  by_cases h : n.tmod m < 0
  · rw [if_pos h] at hp
    rw [← hp]
    clear hp
    go_enter Try.func13, Try.ntmps13
    go_wp2
    go_ret
    exact ⟨rfl, rfl⟩
  · rw [if_neg h] at hp
    rw [← hp]
    clear hp
    go_enter Try.func13, Try.ntmps13
    go_wp2
    go_ret
    exact ⟨rfl, rfl⟩

/-- A row of numbers, below block B: what a Feed draws from. -/
def Draws (B : Nat) (w : World) (a : Option Addr) (n : Nat) : Prop :=
  n ≤ 9223372036854775807 ∧ (0 < n → ∃ rb ro, a = some ⟨rb, ro, none⟩ ∧ rb < B ∧ ∀ i, i < n → ∃ x : Int, w.cell? ⟨rb, ro + i, none⟩ = some (.int .i64 x))

/-- Block b is a Feed, not younger than B, from which at most a numbers were drawn. -/
def IsFeed (B : Nat) (w : World) (b a : Nat) : Prop :=
  B ≤ b ∧ ∃ (L : Option Addr) (n cap k : Nat), k ≤ a ∧ w.cell? ⟨b, 0, none⟩ = some (.slice L n cap) ∧ w.cell? ⟨b, 1, none⟩ = some (.int .i64 (k : Int)) ∧ w.frozen? ⟨b, 1, none⟩ = false ∧ Draws B w L n

theorem Draws.kept {B : Nat} {w w' : World} {L : Option Addr} {n : Nat} {S : Nat → Prop} (h : Draws B w L n) (k : Kept S w w') (hB : B ≤ w.heap.size) (hs : ∀ i, i < B → ¬ S i) : Draws B w' L n := by
  refine ⟨h.1, fun hn => ?_⟩
  obtain ⟨rb, ro, e, hrb, hc⟩ := h.2 hn
  refine ⟨rb, ro, e, hrb, fun i hi => ?_⟩
  obtain ⟨x, hx⟩ := hc i hi
  exact ⟨x, by rw [k.cell (p := ⟨rb, ro + i, none⟩) (Nat.lt_of_lt_of_le hrb hB) (hs _ hrb)]; exact hx⟩

theorem IsFeed.lt {B : Nat} {w : World} {b a : Nat} (h : IsFeed B w b a) : b < w.heap.size := by
  obtain ⟨_, L, n, cap, k, _, h0, _⟩ := h
  exact cell_lt h0

/-- A Feed stays one where neither it nor what is below B turns. -/
theorem IsFeed.kept {B : Nat} {w w' : World} {b a : Nat} {S : Nat → Prop} (h : IsFeed B w b a) (k : Kept S w w') (hb : ¬ S b) (hs : ∀ i, i < B → ¬ S i) : IsFeed B w' b a := by
  have hlt := h.lt
  obtain ⟨hB, L, n, cap, q, hq, h0, h1, hf, hd⟩ := h
  exact ⟨hB, L, n, cap, q, hq, by rw [k.cell (p := ⟨b, 0, none⟩) hlt hb]; exact h0, by rw [k.cell (p := ⟨b, 1, none⟩) hlt hb]; exact h1, by rw [k.frozen (p := ⟨b, 1, none⟩) hlt hb]; exact hf, hd.kept k (by omega) hs⟩
theorem IsFeed.below {B : Nat} {w w' : World} {b a : Nat} (h : IsFeed B w b a) (k : Below w.heap.size w w') : IsFeed B w' b a :=
  h.kept (S := fun _ => False) (Kept.ofBelow k) id fun _ _ => id
theorem IsFeed.more {B : Nat} {w : World} {b a a' : Nat} (h : IsFeed B w b a) (ha : a ≤ a') : IsFeed B w b a' := by
  obtain ⟨hB, L, n, cap, q, hq, r⟩ := h
  exact ⟨hB, L, n, cap, q, Nat.le_trans hq ha, r⟩

/-- What Next tells: a number below n; the Feed is one still. -/
def NextPost (B b a : Nat) (n : Int) (w : World) (e : Ending) (w' : World) : Prop :=
  ∃ k : Nat, (k : Int) < n ∧ e = .returned (.int .i64 (k : Int)) ∧ IsFeed B w' b (a + 1) ∧ Kept (· = b) w w' ∧ w'.heap.size = w.heap.size

theorem next_ends {B b a : Nat} {n z : Int} {w : World} {rb ro len cap k nq : Nat} (hB : B ≤ b) (hk : k ≤ a) (h0 : w.cell? ⟨b, 0, none⟩ = some (.slice (some ⟨rb, ro, none⟩) len cap)) (h1 : w.cell? ⟨b, 1, none⟩ = some (.int .i64 (k : Int)))
    (hz : w.frozen? ⟨b, 1, none⟩ = false) (hl : len ≤ 9223372036854775807) (hrb : rb < B) (hc : ∀ i, i < len → ∃ x : Int, w.cell? ⟨rb, ro + i, none⟩ = some (.int .i64 x)) (hy : 0 ≤ z) (hy2 : z < n) :
    NextPost B b a n w (.returned (.int .i64 z)) ((w.drewN nq).setCell ⟨b, 1, none⟩ (.int .i64 ((k : Int) + 1))) := by
  have hlt : b < w.heap.size := cell_lt h1
  have K1 : Kept (· = b) w ((w.drewN nq).setCell ⟨b, 1, none⟩ (.int .i64 ((k : Int) + 1))) := (Kept.drewN _ w nq).then (Kept.setCell (S := (· = b)) _ ⟨b, 1, none⟩ rfl _)
  refine ⟨z.toNat, by omega, by rw [Int.toNat_of_nonneg hy], ⟨hB, some ⟨rb, ro, none⟩, len, cap, k + 1, by omega, ?_, ?_, ?_, ?_⟩, K1, by simp [World.setCell, World.drewN]⟩
  · rw [World.cell?_setCell_other _ _ _ _ (by simp)]
    exact h0
  · have hs := World.cell?_setCell_same (w.drewN nq) ⟨b, 1, none⟩ (v := .int .i64 ((k : Int) + 1)) (u := .int .i64 (k : Int)) h1
    rw [hs]
    rfl
  · rw [World.frozen?_setCell]
    exact hz
  · exact Draws.kept (w := w) ⟨hl, fun _ => ⟨rb, ro, rfl, hrb, hc⟩⟩ K1 (by omega) (by intro i hi e; omega)

set_option maxHeartbeats 1000000 in
theorem next_any {B b a : Nat} (n : Int) (hn : 1 ≤ n) (hn2 : n ≤ 4611686018427387904) (w : World) (ha : a < 4611686018427387904) (hf : IsFeed B w b a) :
    Calls Try.prog 11 #[.pointer (some ⟨b, 0, none⟩), .int .i64 n] w (NextPost B b a n w) := by
  have hF := hf
  obtain ⟨hB, L, len, cap, k, hk, h0, h1, hz, hl, hd⟩ := hf
  by_cases he : len = 0
  · subst he
    clear hd
    have HF := Lib.hid hF
    clear hF
    go_enter Try.func11, Try.ntmps11
    go_wp2
    go_ret
    exact ⟨0, by omega, rfl, HF.out.more (by omega), Kept.refl _ _, rfl⟩
  · obtain ⟨rb, ro, rfl, hrb, hc⟩ := hd (by omega)
    obtain ⟨x, hx⟩ := hc (k % len) (Nat.mod_lt _ (by omega))
    have HC := Lib.hid hc
    clear hc hd
    have HF := Lib.hid hF
    clear hF
    have e1 : ((k : Int)).tmod (len : Int) = ((k % len : Nat) : Int) := by rw [Int.tmod_eq_emod_of_nonneg (by omega)]; rfl
    have e2 : ((k : Int)).tdiv (len : Int) = ((k / len : Nat) : Int) := by rw [Int.tdiv_eq_ediv_of_nonneg (by omega)]; rfl
    have hm := Nat.mod_lt k (show 0 < len by omega)
    have hq : k / len ≤ k := Nat.div_le_self _ _
    have e0 : ((k % len : Nat) : Int) = (k : Int) % (len : Int) := rfl
    have e3 : ((k / len : Nat) : Int) = (k : Int) / (len : Int) := rfl
    generalize k % len = r at e1 hm hx e0
    generalize k / len = q at e2 hq e3
    clear e0 e3
    have l0 : ((len : Int) == 0) = false := by rw [beq_eq_false_iff_ne]; omega
    go_enter Try.func11, Try.ntmps11
    go_wp2
    have hw : IntKind.i64.wrap (1 + ((q : Nat) : Int)) = 1 + ((q : Nat) : Int) := IntWalk.i64_in _ (by omega)
    have l1 : ((1 + ((q : Nat) : Int)) == 0) = false := by rw [beq_eq_false_iff_ne]; omega
    go_quiet (fail)
    clear hw l1
    go_wp2_with fail
    generalize wrap64 (wrap64 (x.tdiv (1 + (q : Int))) + (q : Int)) = y
    refine (pick_any y n hn hn2 _).mono ?_
    rintro e w' ⟨rfl, rfl⟩
    have hy := Int.emod_nonneg y (show n ≠ 0 by omega)
    have hy2 := Int.emod_lt_of_pos y (show 0 < n by omega)
    generalize y % n = z at hy hy2
    clear hx e1 e2 l0 hq hm he
    go_wp2_with fail
    go_ret
    exact next_ends hB hk h0 h1 hz hl hrb HC.out hy hy2

/-- A row that came in is one to draw from. -/
def IsRow (k : IntKind) (w : World) (a : Option Addr) (len cap : Nat) (zs : List Int) : Prop :=
  (a = none ∧ len = 0 ∧ cap = 0 ∧ zs = []) ∨
  ∃ x, a = some x ∧ len ≤ cap ∧ cap ≤ maxLen ∧ zs.length = cap ∧ (∀ i, i < zs.length → w.cell? (x.add i) = some (.int k (zs.getD i 0))) ∧ ∀ n ∈ zs, (Lit.int k n).wf = true

theorem IsRow.draws {w : World} {a : Option Addr} {len cap : Nat} {zs : List Int} (h : IsRow .i64 w a len cap zs) : Draws w.heap.size w a len := by
  rcases h with ⟨rfl, rfl, rfl, rfl⟩ | ⟨x, rfl, hl, hm, hz, hc, _⟩
  · exact ⟨by omega, fun h => by omega⟩
  · refine ⟨by unfold maxLen at hm; omega, fun hn => ?_⟩
    obtain ⟨b, off, rfl, hc'⟩ := ints_at hc (by omega)
    refine ⟨b, off, rfl, cell_lt (hc' 0 (by omega)), fun i hi => ⟨_, hc' i (by omega)⟩⟩

/-- A new Feed. -/
theorem feed_new {w : World} {a : Option Addr} {len cap : Nat} (h : Draws w.heap.size w a len) (t : TypeId) : IsFeed w.heap.size (w.alloc (.cells #[.slice a len cap, .int .i64 0] t)) w.heap.size 0 := by
  refine ⟨Nat.le_refl _, a, len, cap, 0, Nat.le_refl _, by simp, by simp, by simp, ?_⟩
  exact h.kept (S := fun _ => False) (Kept.alloc _ w _) (Nat.le_refl _) (fun _ _ => id)

end Go.Proofs.Ytegkphbnedbgfaa
