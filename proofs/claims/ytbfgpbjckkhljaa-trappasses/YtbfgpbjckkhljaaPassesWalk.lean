/- TrapPasses: the walk. -/
import Derived.Test.YtbfgpbjckkhljaaPasses
import Derived.Deep.QuietTactic
import Derived.BigQuiet
import Derived.Laws.EntriesVeiled
namespace Go.Proofs.Ytbfgpbjckkhljaa
open Go.RowKit

theorem down_length (k : Int) (m : Nat) : (down k m).length = m + 1 := by
  induction m generalizing k with
  | zero => rfl
  | succ m ih => simp [down, ih]

theorem down_get (m : Nat) : ∀ (k : Int) (i : Nat), i ≤ m → (down k m)[i]? = some (.int .i64 (k + m - i)) := by
  induction m with
  | zero =>
    intro k i hi
    have : i = 0 := Nat.le_zero.1 hi
    subst this
    simp [down]
  | succ m ih =>
    intro k i hi
    by_cases h : i ≤ m
    · rw [down, List.getElem?_append_left (by rw [down_length]; omega), ih _ _ h]
      congr 2
      omega
    · obtain rfl : i = m + 1 := by omega
      rw [down, List.getElem?_append_right (by rw [down_length]; omega), down_length]
      simp

/-- The world that TrapPasses lays ahead of its call. -/
def pw (w : World) (s : ByteArray) (d : Int) : World :=
  ((((w.alloc (Obj.cells #[Value.string s] 9)).alloc (Obj.cells #[Value.int IntKind.i64 d] 3)).alloc (Obj.cells #[Value.slice none 0 0] 31)).alloc
    (Obj.cells #[Value.func (Fn.func 25) #[] #[Value.pointer (some ⟨w.heap.size + 2, 0, none⟩), Value.pointer (some ⟨w.heap.size + 1, 0, none⟩), Value.pointer (some ⟨w.heap.size, 0, none⟩), Value.pointer (some ⟨w.heap.size + 3, 0, none⟩)]] 35)).alloc
    (Obj.cells #[Value.string ⟨#[]⟩] 9)

theorem pw_size (w : World) (s : ByteArray) (d : Int) : (pw w s d).heap.size = w.heap.size + 5 := by simp [pw]

theorem pw_below (w : World) (s : ByteArray) (d : Int) : Below w.heap.size w (pw w s d) := by
  unfold pw
  refine (((((Below.refl _ _).alloc ?_ _).alloc ?_ _).alloc ?_ _).alloc ?_ _).alloc ?_ _ <;> simp <;> omega

theorem pw_st (w : World) (s : ByteArray) (d : Int) : PSt w.heap.size s d (pw w s d) := by
  refine ⟨?_, ?_, ?_⟩ <;> simp [pw, go_sem]

theorem pw_order (w : World) (s : ByteArray) (d : Int) : (pw w s d).cell? ⟨w.heap.size + 2, 0, none⟩ = some (.slice none 0 0) ∧ (pw w s d).frozen? ⟨w.heap.size + 2, 0, none⟩ = false := by
  refine ⟨?_, ?_⟩ <;> simp [pw, go_sem]

theorem pw_got (w : World) (s : ByteArray) (d : Int) : (pw w s d).cell? ⟨w.heap.size + 4, 0, none⟩ = some (.string ⟨#[]⟩) ∧ (pw w s d).frozen? ⟨w.heap.size + 4, 0, none⟩ = false := by
  refine ⟨?_, ?_⟩ <;> simp [pw, go_sem]

set_option maxRecDepth 100000 in
set_option maxHeartbeats 4000000 in
theorem passes_any (s : ByteArray) (dd : Int) (w : World) (hs : s.size + 5 ≤ 140737488355328) :
    Calls Try.prog 5 #[.string s, .int .i64 dd] w fun e w' => e = .returned (.bool true) ∧ Below w.heap.size w w' := by
  have hmf : ∀ (fn : Fn) (first cap : Array Value) (w : World), (Instr.makeFunc fn first cap).run Try.prog w = .ok (.func fn first cap) w := fun _ _ _ _ => rfl
  have z1 : 0 ≤ dd % 12 := Int.emod_nonneg _ (by omega)
  have z2 : dd % 12 < 12 := Int.emod_lt_of_pos _ (by omega)
  obtain ⟨m, hm⟩ : ∃ m : Nat, (m : Int) = 1 + dd % 12 := ⟨(1 + dd % 12).toNat, by omega⟩
  have C := f28 w.heap.size s (1 + dd % 12) m (by omega) hm hs (pw w s (1 + dd % 12)) _ (pw_st _ _ _) (pw_order _ _ _).1 (pw_order _ _ _).2 (pw_got _ _ _).1 (pw_got _ _ _).2
  have HM := Lib.hid hm
  clear hm
  go_enter Try.func5, Try.ntmps5
  go_wp2_with (go_at_call 24; refine (pick_any _ _ (by omega) (by omega) _).mono ?_; rintro e w' ⟨rfl, rfl⟩)
  refine Calls.mono C ?_
  clear C
  rintro e w1 ⟨rfl, hgot, ⟨v', hord, hown⟩, hk⟩
  have hm : (m : Int) = 1 + dd % 12 := HM.out
  have hst := (pw_st w s (1 + dd % 12)).kept hk (by omega) (by omega) (by omega)
  have h1 : w1.cell? ⟨w.heap.size, 0, none⟩ = some (.string s) := hst.str
  have h2 : w1.cell? ⟨w.heap.size + 1, 0, none⟩ = some (.int .i64 m) := by rw [hm]; exact hst.dp
  rw [← hm]
  obtain ⟨g, cap', rfl⟩ := owned_some hown
  have h3 : ∀ i : Nat, i ≤ m → w1.cell? ⟨g, i, none⟩ = some (.int .i64 ((m : Int) - i)) := by
    intro i hi
    have := hown.cells (g := g) rfl i _ (down_get m 0 i hi)
    have e : (⟨g, 0, none⟩ : Addr).add i = ⟨g, i, none⟩ := by simp only [Addr.add]; split <;> simp_all
    rw [e] at this
    rw [this]
    congr 2
    omega
  have hB : Below w.heap.size w w1 := (pw_below w s (1 + dd % 12)).trans (hk.below (by rw [pw_size]; omega) (fun k hk h => by omega))
  have hsz : w.heap.size + 5 ≤ w1.heap.size := by have := hk.size; rw [pw_size] at this; exact this
  have hm13 : m ≤ 12 := by omega
  clear hst hm HM hk hown z1 z2
  go_wp2_with fail
  refine (known_any _).mono ?_
  rintro e w2 ⟨rfl, hb2⟩
  have k1 : w2.cell? ⟨w.heap.size, 0, none⟩ = some (.string s) := (hb2.cell (World.block_lt_of_cell? w1 _ h1)).trans h1
  have k2 : w2.cell? ⟨w.heap.size + 1, 0, none⟩ = some (.int .i64 m) := (hb2.cell (World.block_lt_of_cell? w1 _ h2)).trans h2
  have k3 : w2.cell? ⟨w.heap.size + 1 + 1, 0, none⟩ = some (.slice (some ⟨g, 0, none⟩) (m + 1) cap') := (hb2.cell (World.block_lt_of_cell? w1 _ hord)).trans hord
  have k5 : w2.cell? ⟨w.heap.size + 1 + 1 + 1 + 1, 0, none⟩ = some (.string ({ data := #[116, 101, 120, 116, 32] } ++ s)) := (hb2.cell (World.block_lt_of_cell? w1 _ hgot)).trans hgot
  have k4 : ∀ i : Nat, i ≤ m → w2.cell? ⟨g, i, none⟩ = some (.int .i64 ((m : Int) - i)) := fun i hi => (hb2.cell (World.block_lt_of_cell? w1 _ (h3 i hi))).trans (h3 i hi)
  have K4 := Lib.hid k4
  have hF : Below w.heap.size w w2 := hB.trans (hb2.mono (by omega))
  clear h1 h2 hord hgot h3 hb2 hB hsz k4
  go_wp2_with fail
  go_loopw [8] (fun i wr => ∃ k : Nat, k ≤ m + 1 ∧ i = .int .i64 k ∧ Below w2.heap.size w2 wr) (fun i _ => m + 1 - (intOf i).toNat)
  case atStart => exact ⟨0, by omega, rfl, Below.refl _ _⟩
  case round =>
    obtain ⟨k, hk, rfl, hbr⟩ := hrel
    have r2 : wr.cell? ⟨w.heap.size + 1, 0, none⟩ = some (.int .i64 m) := (hbr.cell (World.block_lt_of_cell? w2 _ k2)).trans k2
    by_cases hlt : k ≤ m
    · have r3 : wr.cell? ⟨w.heap.size + 1 + 1, 0, none⟩ = some (.slice (some ⟨g, 0, none⟩) (m + 1) cap') := (hbr.cell (World.block_lt_of_cell? w2 _ k3)).trans k3
      have r4 : wr.cell? ⟨g, k, none⟩ = some (.int .i64 ((m : Int) - k)) := (hbr.cell (World.block_lt_of_cell? w2 _ (K4.out k hlt))).trans (K4.out k hlt)
      have hkm : k < m + 1 := by omega
      clear k1 k2 k3 k5
      go_wp2_with fail
      go_quiet (fail)
      go_wp2_with fail
      exact ⟨⟨k + 1, by omega, by go_num, below_drewN hbr nq⟩, by simp [intOf]; omega⟩
    · clear k1 k2 k3 k5
      go_wp2_with fail
      go_ret
      exact ⟨rfl, hF.trans (hbr.mono hF.size)⟩

end Go.Proofs.Ytbfgpbjckkhljaa
