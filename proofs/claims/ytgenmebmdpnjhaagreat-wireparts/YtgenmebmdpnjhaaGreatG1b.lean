/- G1b: Val2, AttWord, FeedValue, VlKeys, Ref1, Later in one text. -/
import Derived.Test.YtgenmebmdpnjhaaGreatG1a
import Derived.Lib.Hide
import Derived.Deep.DeepCutAuto
import Derived.BigQuiet
import Derived.Below
import Derived.WalkKit
namespace Go.Proofs.YtgenmebmdpnjhaaGreat
open Go.RowKit

theorem below_sub {B C : Nat} {w w' : World} (h : Below B w w') (hc : C ≤ B) : Below C w w' := ⟨h.os, h.tape, h.output, h.size, fun k hk => h.block k (Nat.lt_of_lt_of_le hk hc)⟩
/-- One step behind another. -/
theorem below_then {a b c : World} (h : Below a.heap.size a b) (k : Below b.heap.size b c) : Below a.heap.size a c := h.trans (below_sub k h.size)

theorem one_new (w : World) (A : Obj) : Below w.heap.size w (w.alloc A) := (Below.refl _ _).alloc (Nat.le_refl _) _

set_option maxHeartbeats 2000000 in
theorem vsame_any (ak an : Int) (ax : Nat) (az : ByteArray) (ab : Bool) (bk bn : Int) (bx : Nat) (bz : ByteArray) (bb : Bool) (w : World) :
    Calls Tryz.prog 105 #[vl ak an ax az ab, vl bk bn bx bz bb] w fun e w' => e = .returned (.bool (Vl.same ⟨ak, an, ax, az, ab⟩ ⟨bk, bn, bx, bz, bb⟩)) ∧ Below w.heap.size w w' := by
  by_cases hk : ak = bk
  · subst hk
    by_cases hn : an = bn
    · subst hn
      cases hx : Fl.same ax bx
      · go_enter Tryz.func105, Tryz.ntmps105
        go_wp2_with (go_at_call 133; refine (same_any _ _ _).mono ?_; rintro e w' ⟨rfl, rfl⟩)
        go_ret
        exact ⟨by simp [Vl.same, *], two_new _ _ _⟩
      · cases hs : (az.toList == bz.toList)
        · go_enter Tryz.func105, Tryz.ntmps105
          go_wp2_with (go_at_call 133; refine (same_any _ _ _).mono ?_; rintro e w' ⟨rfl, rfl⟩)
          go_ret
          exact ⟨by simp [Vl.same, *], two_new _ _ _⟩
        · go_enter Tryz.func105, Tryz.ntmps105
          go_wp2_with (go_at_call 133; refine (same_any _ _ _).mono ?_; rintro e w' ⟨rfl, rfl⟩)
          go_ret
          exact ⟨by simp [Vl.same, *], two_new _ _ _⟩
    · go_enter Tryz.func105, Tryz.ntmps105
      go_wp2_with (go_at_call 133; refine (same_any _ _ _).mono ?_; rintro e w' ⟨rfl, rfl⟩)
      go_ret
      exact ⟨by simp [Vl.same, *], two_new _ _ _⟩
  · go_enter Tryz.func105, Tryz.ntmps105
    go_wp2_with (go_at_call 133; refine (same_any _ _ _).mono ?_; rintro e w' ⟨rfl, rfl⟩)
    go_ret
    exact ⟨by simp [Vl.same, *], two_new _ _ _⟩

set_option maxHeartbeats 2000000 in
theorem vright_any (ak an : Int) (ax : Nat) (az : ByteArray) (ab : Bool) (w : World) :
    Calls Tryz.prog 101 #[vl ak an ax az ab] w fun e w' => e = .returned (.bool (Vl.right ⟨ak, an, ax, az, ab⟩)) ∧ Below w.heap.size w w' := by
  have hst := store_float
  have hsz := fun h => Vl.size_nil (s := az) h
  have HS := Lib.hid hsz
  clear hsz
  have hK : ak = 1 ∨ ak = 2 ∨ ak = 3 ∨ ak = 4 ∨ (¬ ak = 1 ∧ ¬ ak = 2 ∧ ¬ ak = 3 ∧ ¬ ak = 4) := by omega
  rcases hK with rfl | rfl | rfl | rfl | ⟨g1, g2, g3, g4⟩
  all_goals
    go_enter Tryz.func101, Tryz.ntmps101
    go_wp2_with fail
    all_goals
      go_ret
      have hs := HS.out
      clear hst
      refine ⟨?_, by first | exact two_new _ _ _ | exact one_new _ _⟩
      simp_all [Vl.right, Vl.zx, Vl.zs] <;> omega
end Go.Proofs.YtgenmebmdpnjhaaGreat

namespace Go.Proofs.YtgenmebmdpnjhaaGreat
open Go.RowKit

namespace At
/-- A byte from a to z. -/
def low (b : UInt8) : Bool := decide (97 ≤ b.toNat) && decide (b.toNat ≤ 122)
/-- 1 to 6 bytes, each from a to z. -/
def word (s : ByteArray) : Bool := decide (1 ≤ s.size) && decide (s.size ≤ 6) && s.toList.all low
theorem toList_len (s : ByteArray) : s.toList.length = s.size := by rw [ByteArray.toList_eq]; cases s; rfl
theorem toList_get (s : ByteArray) (k : Nat) (h : k < s.size) : s.toList[k]? = some s[k] := by
  rw [ByteArray.toList_eq]
  cases s with
  | mk d => 
    show d.toList[k]? = some d[k]
    have h' : k < d.size := h
    simp [h']
theorem take_low {s : ByteArray} {k : Nat} (h : k < s.size) (hl : (s.toList.take k).all low = true) (hb : low s[k] = true) : (s.toList.take (k + 1)).all low = true := by
  rw [List.take_add_one, List.all_append, hl, toList_get s k h]
  simp [hb]
theorem not_low {s : ByteArray} {k : Nat} (h : k < s.size) (hb : low s[k] = false) : word s = false := by
  have : s.toList.all low = false := by
    rw [List.all_eq_false]
    exact ⟨s[k], List.mem_of_getElem? (toList_get s k h), by simp [hb]⟩
  unfold word
  rw [this, Bool.and_false]
theorem is_word {s : ByteArray} {k : Nat} (h1 : ¬ s.size < 1) (h2 : ¬ s.size > 6) (h : ¬ k < s.size) (hl : (s.toList.take k).all low = true) : word s = true := by
  rw [List.take_of_length_le (by rw [toList_len]; omega)] at hl
  unfold word
  rw [hl, decide_eq_true (by omega : 1 ≤ s.size), decide_eq_true (by omega : s.size ≤ 6)]
  rfl
theorem short_none {s : ByteArray} (h : s.size < 1) : word s = false := by unfold word; rw [decide_eq_false (by omega)]; rfl
theorem long_none {s : ByteArray} (h : s.size > 6) : word s = false := by unfold word; rw [decide_eq_false (p := s.size ≤ 6) (by omega)]; simp
end At

theorem word_any (s : ByteArray) (hs : s.size ≤ 9223372036854775807) (w : World) : Calls Tryz.prog 100 #[.string s] w fun e w' => e = .returned (.bool (At.word s)) ∧ w = w' := by
  by_cases h1 : s.size < 1
  · rw [At.short_none h1]
    go_enter Tryz.func100, Tryz.ntmps100
    go_wp2_with fail
    go_ret
    exact ⟨rfl, rfl⟩
  · by_cases h2 : s.size > 6
    · rw [At.long_none h2]
      go_enter Tryz.func100, Tryz.ntmps100
      go_wp2_with fail
      go_ret
      exact ⟨rfl, rfl⟩
    · go_enter Tryz.func100, Tryz.ntmps100
      go_wp2_with fail
      go_loopw [14] (fun ii wr => ∃ k : Nat, k ≤ s.size ∧ ii = .int .i64 (k : Int) ∧ (s.toList.take k).all At.low = true ∧ w = wr) (fun ii _ => s.size - (intOf ii).toNat)
      case atStart => exact ⟨0, by omega, rfl, by simp, rfl⟩
      case round =>
        obtain ⟨k, hk, rfl, hl, rfl⟩ := hrel
        have HL := Lib.hid hl
        clear hl
        by_cases hlt : k < s.size
        · cases hb : At.low s[k]
          · have HN := Lib.hid (At.not_low hlt hb)
            have hb' : (s[k].toNat : Int) < 97 ∨ 97 ≤ (s[k].toNat : Int) ∧ 122 < (s[k].toNat : Int) := by
              unfold At.low at hb
              simp only [Bool.and_eq_false_iff, decide_eq_false_iff_not] at hb
              omega
            clear hb
            rcases hb' with hb | ⟨hb, hb2⟩
            · go_wp2_with fail
              go_ret
              exact ⟨by rw [HN.out]; rfl, rfl⟩
            · go_wp2_with fail
              go_ret
              exact ⟨by rw [HN.out]; rfl, rfl⟩
          · have HL2 := Lib.hid (At.take_low hlt HL.out hb)
            have hb' : 97 ≤ (s[k].toNat : Int) ∧ (s[k].toNat : Int) ≤ 122 := by
              unfold At.low at hb
              simp only [Bool.and_eq_true, decide_eq_true_eq] at hb
              omega
            obtain ⟨hb1, hb2⟩ := hb'
            clear hb
            go_wp2_with fail
            exact ⟨⟨k + 1, by omega, rfl, HL2.out, trivial⟩, by simp [intOf]; omega⟩
        · go_wp2_with fail
          go_ret
          exact ⟨by rw [At.is_word h1 h2 hlt HL.out]; rfl, rfl⟩

theorem rword_any (s : ByteArray) (hs : s.size ≤ 9223372036854775807) (w : World) : Calls Tryz.prog 103 #[.string s] w fun e w' => e = .returned (.bool (At.word s)) ∧ w = w' := by
  go_enter Tryz.func103, Tryz.ntmps103
  go_wp2_with fail
  go_loopw [3] (fun ii wr => ∃ k : Nat, k ≤ s.size ∧ ii = .int .i64 (k : Int) ∧ (s.toList.take k).all At.low = true ∧ w = wr) (fun ii _ => s.size - (intOf ii).toNat)
  case atStart => exact ⟨0, by omega, rfl, by simp, rfl⟩
  case round =>
    obtain ⟨k, hk, rfl, hl, rfl⟩ := hrel
    have HL := Lib.hid hl
    clear hl
    by_cases hlt : k < s.size
    · cases hb : At.low s[k]
      · have HN := Lib.hid (At.not_low hlt hb)
        have hb' : (s[k].toNat : Int) < 97 ∨ 97 ≤ (s[k].toNat : Int) ∧ 122 < (s[k].toNat : Int) := by
          unfold At.low at hb
          simp only [Bool.and_eq_false_iff, decide_eq_false_iff_not] at hb
          omega
        clear hb
        rcases hb' with hb | ⟨hb, hb2⟩
        · go_wp2_with fail
          go_ret
          exact ⟨by rw [HN.out]; rfl, rfl⟩
        · go_wp2_with fail
          go_ret
          exact ⟨by rw [HN.out]; rfl, rfl⟩
      · have HL2 := Lib.hid (At.take_low hlt HL.out hb)
        have hb' : 97 ≤ (s[k].toNat : Int) ∧ (s[k].toNat : Int) ≤ 122 := by
          unfold At.low at hb
          simp only [Bool.and_eq_true, decide_eq_true_eq] at hb
          omega
        obtain ⟨hb1, hb2⟩ := hb'
        clear hb
        go_wp2_with fail
        exact ⟨⟨k + 1, by omega, rfl, HL2.out, trivial⟩, by simp [intOf]; omega⟩
    · by_cases h1 : s.size < 1
      · go_wp2_with fail
        go_ret
        exact ⟨by rw [At.short_none h1]; rfl, rfl⟩
      · by_cases h2 : s.size > 6
        · go_wp2_with fail
          go_ret
          exact ⟨by rw [At.long_none h2, ← decide_eq_false (p := (s.size : Int) ≤ 6) (by omega)]; rfl, rfl⟩
        · go_wp2_with fail
          go_ret
          exact ⟨by rw [At.is_word h1 h2 hlt HL.out, ← decide_eq_true (p := (s.size : Int) ≤ 6) (by omega)]; rfl, rfl⟩

end Go.Proofs.YtgenmebmdpnjhaaGreat

namespace Go.Proofs.YtgenmebmdpnjhaaGreat
open Go.RowKit

/-- Five cells of a block turned. -/
abbrev set5 (w : World) (g : Nat) (v0 v1 v2 v3 v4 : Value) : World :=
  ((((w.setCell ⟨g, 0, none⟩ v0).setCell ⟨g, 1, none⟩ v1).setCell ⟨g, 2, none⟩ v2).setCell ⟨g, 3, none⟩ v3).setCell ⟨g, 4, none⟩ v4

theorem row5 {w : World} {g : Nat} {t : TypeId} {c0 c1 c2 c3 c4 : Value} (v0 v1 v2 v3 v4 : Value) (hg : w.heap[g]? = some (.cells #[c0, c1, c2, c3, c4] t (0, 0))) :
    (set5 w g v0 v1 v2 v3 v4).heap[g]? = some (.cells #[v0, v1, v2, v3, v4] t (0, 0)) := by
  have h0 := heap_setCell_same w g 0 _ t v0 hg
  have h1 := heap_setCell_same _ g 1 _ t v1 h0
  have h2 := heap_setCell_same _ g 2 _ t v2 h1
  have h3 := heap_setCell_same _ g 3 _ t v3 h2
  have h4 := heap_setCell_same _ g 4 _ t v4 h3
  exact h4
theorem kept5 (w : World) (g : Nat) (v0 v1 v2 v3 v4 : Value) : Kept (· = g) w (set5 w g v0 v1 v2 v3 v4) :=
  ((((Kept.setCell (S := (· = g)) w ⟨g, 0, none⟩ rfl v0).then (Kept.setCell (S := (· = g)) _ ⟨g, 1, none⟩ rfl v1)).then (Kept.setCell (S := (· = g)) _ ⟨g, 2, none⟩ rfl v2)).then (Kept.setCell (S := (· = g)) _ ⟨g, 3, none⟩ rfl v3)).then (Kept.setCell (S := (· = g)) _ ⟨g, 4, none⟩ rfl v4)
theorem Kept.to5 {S : Nat → Prop} {a w : World} {g : Nat} (v0 v1 v2 v3 v4 : Value) (h : Kept S a w) (hg : a.heap.size ≤ g) : Kept S a (set5 w g v0 v1 v2 v3 v4) :=
  h.trans (kept5 w g v0 v1 v2 v3 v4) (fun i hi e => by omega)
/-- A block whole. -/
theorem Kept.row {S : Nat → Prop} {w w' : World} (h : Kept S w w') {g : Nat} {o : Obj} (hg : w.heap[g]? = some o) (hs : ¬ S g) : w'.heap[g]? = some o := by
  have hlt : g < w.heap.size := by
    rcases Nat.lt_or_ge g w.heap.size with h | h
    · exact h
    · rw [Array.getElem?_eq_none h] at hg; cases hg
  rw [h.block g hlt hs]; exact hg

/-- What Feed.Value tells: some right value; the Feed is one still. -/
def ValuePost (B b a : Nat) (w : World) (e : Ending) (w' : World) : Prop :=
  ∃ (k n : Int) (x : Nat) (s : ByteArray) (t : Bool), -9223372036854775808 ≤ n ∧ n ≤ 9223372036854775807 ∧ x < 2 ^ 64 ∧ Vl.right ⟨k, n, x, s, t⟩ = true ∧ e = .returned (vl k n x s t) ∧ IsFeed B w' b (a + 2) ∧ Kept (· = b) w w'

/-- Its cells, none frozen. -/
structure Five (w : World) (g : Nat) (c0 c1 c2 c3 c4 : Value) : Prop where
  h0 : w.cell? ⟨g, 0, none⟩ = some c0
  h1 : w.cell? ⟨g, 1, none⟩ = some c1
  h2 : w.cell? ⟨g, 2, none⟩ = some c2
  h3 : w.cell? ⟨g, 3, none⟩ = some c3
  h4 : w.cell? ⟨g, 4, none⟩ = some c4
  f0 : w.frozen? ⟨g, 0, none⟩ = false
  f1 : w.frozen? ⟨g, 1, none⟩ = false
  f2 : w.frozen? ⟨g, 2, none⟩ = false
  f3 : w.frozen? ⟨g, 3, none⟩ = false
  f4 : w.frozen? ⟨g, 4, none⟩ = false
theorem five {w : World} {g : Nat} {t : TypeId} {c0 c1 c2 c3 c4 : Value} (hg : w.heap[g]? = some (.cells #[c0, c1, c2, c3, c4] t (0, 0))) : Five w g c0 c1 c2 c3 c4 :=
  ⟨cell_of_row _ _ 0 _ _ _ hg, cell_of_row _ _ 1 _ _ _ hg, cell_of_row _ _ 2 _ _ _ hg, cell_of_row _ _ 3 _ _ _ hg, cell_of_row _ _ 4 _ _ _ hg,
   frozen_of_row _ _ 0 _ _ hg, frozen_of_row _ _ 1 _ _ hg, frozen_of_row _ _ 2 _ _ hg, frozen_of_row _ _ 3 _ _ hg, frozen_of_row _ _ 4 _ _ hg⟩

abbrev zero5 (t : TypeId) : Obj := .cells #[.int .i64 0, .int .i64 0, .float .f64 0, .string ⟨#[]⟩, .bool false] t

/-- How Feed.Value ends. -/
theorem value_ends {B b a g : Nat} {w w2 : World} {t : TypeId} {c0 c1 c2 c3 c4 : Value} (k n : Int) (x : Nat) (s : ByteArray) (u : Bool) (_ : w2.heap[g]? = some (.cells #[c0, c1, c2, c3, c4] t (0, 0))) (hgs : w.heap.size ≤ g) (hF : IsFeed B w2 b (a + 2)) (hK : Kept (· = b) w w2) (hb : b < w.heap.size)
    (h1 : -9223372036854775808 ≤ n) (h2 : n ≤ 9223372036854775807) (hx : x < 2 ^ 64) (hr : Vl.right ⟨k, n, x, s, u⟩ = true) :
    ValuePost B b a w (.returned (vl k n x s u)) (set5 w2 g (.int .i64 k) (.int .i64 n) (.float .f64 x) (.string s) (.bool u)) := by
  refine ⟨k, n, x, s, u, h1, h2, hx, hr, rfl, ?_, hK.to5 _ _ _ _ _ hgs⟩
  have hB := hF.1
  exact hF.kept (kept5 w2 g _ _ _ _ _) (by show ¬ b = g; omega) (by intro i hi e; omega)

theorem row_lt {w : World} {g : Nat} {o : Obj} (hg : w.heap[g]? = some o) : g < w.heap.size := by
  rcases Nat.lt_or_ge g w.heap.size with h | h
  · exact h
  · rw [Array.getElem?_eq_none h] at hg; cases hg
theorem right_int {n : Int} : Vl.right ⟨1, n, 0, ⟨#[]⟩, false⟩ = true := by
  have h : FloatKind.f64.format.order 0 0 = some .eq := by kernel_rfl
  simp [Vl.right, Vl.zx, Vl.zs, h]
theorem right_bool {b : Bool} : Vl.right ⟨4, 0, 0, ⟨#[]⟩, b⟩ = true := by
  have h : FloatKind.f64.format.order 0 0 = some .eq := by kernel_rfl
  simp [Vl.right, Vl.zx, Vl.zs, h]
theorem right_text {s : ByteArray} (hs : s.size ≤ 12) : Vl.right ⟨3, 0, 0, s, false⟩ = true := by
  have h : FloatKind.f64.format.order 0 0 = some .eq := by kernel_rfl
  simp [Vl.right, Vl.zx, h, hs]

set_option maxHeartbeats 4000000 in
theorem feedvalue_any {B b a : Nat} (w : World) (ha : a < 4611686018427387000) (hf : IsFeed B w b a) :
    Calls Tryz.prog 98 #[.pointer (some ⟨b, 0, none⟩)] w (ValuePost B b a w) := by
  have hlt := hf.lt
  have HF := Lib.hid hf
  clear hf
  have hst := store_float
  go_enter Tryz.func98, Tryz.ntmps98
  go_wp2_with fail
  refine (next_any (a := a) 8 (by omega) (by omega) _ (by omega) (B := B) ?_).mono ?_
  · exact HF.out.below ((Below.refl _ _).alloc (Nat.le_refl _) _)
  rintro e w1 ⟨k, hk, rfl, hF1, hK1, hs1⟩
  have HK2 : Hid (Kept (· = b) w w1) := (Kept.alloc _ w _).then hK1
  have HR : Hid (w1.heap[w.heap.size]? = some (zero5 64)) := hK1.row (heap_alloc_new _ _) (by show ¬ w.heap.size = b; omega)
  have HF1 := Lib.hid hF1
  have hk0 : k = 0 ∨ k = 1 ∨ k = 2 ∨ k = 3 ∨ k = 4 ∨ (¬ k = 0 ∧ ¬ k = 1 ∧ ¬ k = 2 ∧ ¬ k = 3 ∧ ¬ k = 4) := by omega
  clear hF1 hK1 hs1 hk HF
  rcases hk0 with rfl | rfl | rfl | rfl | rfl | ⟨g0, g1, g2, g3, g4⟩
  · go_wp2_with fail
    refine (feedfloat_any _ (by omega) HF1.out).mono ?_
    rintro e w2 ⟨x, hx, rfl, hF3, hK3⟩
    have HR2 := Lib.hid (hK3.row HR.out (by show ¬ w.heap.size = b; omega))
    have HF3 := Lib.hid hF3
    have HK3 := Lib.hid (HK2.out.then hK3)
    obtain ⟨c0, c1, c2, c3, c4, f0, f1, f2, f3, f4⟩ := five HR2.out
    clear hF3 hK3 HR HF1 HK2
    go_wp2_with fail
    refine bodyPost_ret (results_cell_row rfl _ _ _ _ _ _ _ rfl (row5 _ _ _ _ _ HR2.out) Tryz.underlying64 rfl (by kernel_rfl)) rfl ?_
    exact value_ends _ _ _ _ _ HR2.out (Nat.le_refl _) HF3.out HK3.out hlt (by omega) (by omega) hx (by simp [Vl.right, Vl.zs])
  · go_wp2_with fail
    refine (feedfloat_any _ (by omega) HF1.out).mono ?_
    rintro e w2 ⟨x, hx, rfl, hF3, hK3⟩
    have HR2 := Lib.hid (hK3.row HR.out (by show ¬ w.heap.size = b; omega))
    have HF3 := Lib.hid hF3
    have HK3 := Lib.hid (HK2.out.then hK3)
    obtain ⟨c0, c1, c2, c3, c4, f0, f1, f2, f3, f4⟩ := five HR2.out
    clear hF3 hK3 HR HF1 HK2
    go_wp2_with fail
    refine bodyPost_ret (results_cell_row rfl _ _ _ _ _ _ _ rfl (row5 _ _ _ _ _ HR2.out) Tryz.underlying64 rfl (by kernel_rfl)) rfl ?_
    exact value_ends _ _ _ _ _ HR2.out (Nat.le_refl _) HF3.out HK3.out hlt (by omega) (by omega) hx (by simp [Vl.right, Vl.zs])
  · go_wp2_with fail
    refine (next_any (B := B) (a := a + 1) 6 (by omega) (by omega) _ (by omega) ?_).mono ?_
    · exact HF1.out.below (one_new w1 _)
    rintro e w2 ⟨k, hk, rfl, hF3, hK3, hs3⟩
    have hw1 : w.heap.size < w1.heap.size := row_lt HR.out
    have HR2 := Lib.hid (hK3.row ((heap_alloc_old w1 _ hw1).trans HR.out) (by show ¬ w.heap.size = b; omega))
    have HF3 := Lib.hid hF3
    have HK3 := Lib.hid (HK2.out.then ((Kept.alloc _ w1 _).then hK3))
    obtain ⟨s, hz, hcell⟩ : ∃ s : ByteArray, s.size ≤ 12 ∧ w2.cell? ⟨w1.heap.size, k, none⟩ = some (.string s) := by
      have hc := hK3.cell (p := ⟨w1.heap.size, k, none⟩) (by simp) (by show ¬ w1.heap.size = b; omega)
      rw [World.cell?_alloc_new] at hc
      have : k < 6 := by omega
      match k, this with
      | 0, _ | 1, _ | 2, _ | 3, _ | 4, _ | 5, _ => exact ⟨_, by decide, hc⟩
    obtain ⟨c0, c1, c2, c3, c4, f0, f1, f2, f3, f4⟩ := five HR2.out
    have hk0 : k < 6 := by omega
    clear hF3 hK3 hs3 HR HF1 HK2 hk
    go_wp2_with fail
    refine bodyPost_ret (results_cell_row rfl _ _ _ _ _ _ _ rfl (row5 _ _ _ _ _ HR2.out) Tryz.underlying64 rfl (by kernel_rfl)) rfl ?_
    exact value_ends _ _ _ _ _ HR2.out (Nat.le_refl _) HF3.out HK3.out hlt (by omega) (by omega) (by decide) (right_text hz)
  · go_wp2_with fail
    refine (next_any 2 (by omega) (by omega) _ (by omega) HF1.out).mono ?_
    rintro e w2 ⟨k, hk, rfl, hF3, hK3, hs3⟩
    have HR2 := Lib.hid (hK3.row HR.out (by show ¬ w.heap.size = b; omega))
    have HF3 := Lib.hid hF3
    have HK3 := Lib.hid (HK2.out.then hK3)
    obtain ⟨c0, c1, c2, c3, c4, f0, f1, f2, f3, f4⟩ := five HR2.out
    clear hF3 hK3 hs3 HR HF1 HK2
    go_wp2_with fail
    refine bodyPost_ret (results_cell_row rfl _ _ _ _ _ _ _ rfl (row5 _ _ _ _ _ HR2.out) Tryz.underlying64 rfl (by kernel_rfl)) rfl ?_
    exact value_ends _ _ _ _ _ HR2.out (Nat.le_refl _) HF3.out HK3.out hlt (by omega) (by omega) (by decide) right_bool
  · go_wp2_with fail
    refine (next_any (B := B) (a := a + 1) 6 (by omega) (by omega) _ (by omega) ?_).mono ?_
    · exact HF1.out.below (one_new w1 _)
    rintro e w2 ⟨k, hk, rfl, hF3, hK3, hs3⟩
    have hw1 : w.heap.size < w1.heap.size := row_lt HR.out
    have HR2 := Lib.hid (hK3.row ((heap_alloc_old w1 _ hw1).trans HR.out) (by show ¬ w.heap.size = b; omega))
    have HF3 := Lib.hid hF3
    have HK3 := Lib.hid (HK2.out.then ((Kept.alloc _ w1 _).then hK3))
    obtain ⟨n, hz, hcell⟩ : ∃ n : Int, (-9223372036854775808 ≤ n ∧ n ≤ 9223372036854775807) ∧ w2.cell? ⟨w1.heap.size, k, none⟩ = some (.int .i64 n) := by
      have hc := hK3.cell (p := ⟨w1.heap.size, k, none⟩) (by simp) (by show ¬ w1.heap.size = b; omega)
      rw [World.cell?_alloc_new] at hc
      have : k < 6 := by omega
      match k, this with
      | 0, _ | 1, _ | 2, _ | 3, _ | 4, _ | 5, _ => exact ⟨_, by decide, hc⟩
    obtain ⟨c0, c1, c2, c3, c4, f0, f1, f2, f3, f4⟩ := five HR2.out
    have hk0 : k < 6 := by omega
    clear hF3 hK3 hs3 HR HF1 HK2 hk
    go_wp2_with fail
    refine bodyPost_ret (results_cell_row rfl _ _ _ _ _ _ _ rfl (row5 _ _ _ _ _ HR2.out) Tryz.underlying64 rfl (by kernel_rfl)) rfl ?_
    exact value_ends _ _ _ _ _ HR2.out (Nat.le_refl _) HF3.out HK3.out hlt hz.1 hz.2 (by decide) right_int
  · go_wp2_with fail
    refine (next_any 5 (by omega) (by omega) _ (by omega) HF1.out).mono ?_
    rintro e w2 ⟨k, hk, rfl, hF3, hK3, hs3⟩
    have HR2 := Lib.hid (hK3.row HR.out (by show ¬ w.heap.size = b; omega))
    have HF3 := Lib.hid hF3
    have HK3 := Lib.hid (HK2.out.then hK3)
    obtain ⟨c0, c1, c2, c3, c4, f0, f1, f2, f3, f4⟩ := five HR2.out
    clear hF3 hK3 hs3 HR HF1 HK2
    go_wp2_with fail
    refine bodyPost_ret (results_cell_row rfl _ _ _ _ _ _ _ rfl (row5 _ _ _ _ _ HR2.out) Tryz.underlying64 rfl (by kernel_rfl)) rfl ?_
    exact value_ends _ _ _ _ _ HR2.out (Nat.le_refl _) HF3.out HK3.out hlt (by omega) (by omega) (by decide) right_int
end Go.Proofs.YtgenmebmdpnjhaaGreat

namespace Go.Proofs.YtgenmebmdpnjhaaGreat
namespace Vl
open Go.RowKit

inductive Key where
  | num (z : Int)
  | txt (l : List UInt8)
  | bool (b : Bool)
  | none
/-- What a value is, as far as its order goes. -/
def key (a : Val) : Key :=
  if a.k = 1 then .num (a.n * (Fl.U : Int))
  else if a.k = 2 then (if Fl.nan a.x then .none else .num (Fl.Z a.x))
  else if a.k = 3 then .txt a.s.toList
  else if a.k = 4 then .bool a.b
  else .none
def tx (l m : List UInt8) : Int := if Op.bytesLess l m then -1 else if l == m then 0 else 1
def kcmp : Key → Key → Int
  | .num x, .num y => Fl.sgn x y
  | .txt l, .txt m => tx l m
  | .bool a, .bool b => bl a b
  | _, _ => 0
def kok : Key → Key → Bool
  | .num _, .num _ => true
  | .txt _, .txt _ => true
  | .bool _, .bool _ => true
  | _, _ => false

theorem sgn_scale (a b : Int) : Fl.sgn (a * (Fl.U : Int)) (b * (Fl.U : Int)) = Fl.sgn a b := by
  have hu := Fl.UI
  rcases Int.lt_trichotomy a b with h | h | h
  · rw [Fl.sgn_lt h, Fl.sgn_lt (Int.mul_lt_mul_of_pos_right h hu)]
  · rw [Fl.sgn_eq h, Fl.sgn_eq (by rw [h])]
  · rw [Fl.sgn_gt h, Fl.sgn_gt (Int.mul_lt_mul_of_pos_right h hu)]
theorem sgn_turn (a b : Int) : Fl.sgn b a = -Fl.sgn a b := by unfold Fl.sgn; split <;> split <;> (try split) <;> omega

theorem cmp_key (a b : Val) : cmp a b = kcmp (key a) (key b) ∧ ok a b = kok (key a) (key b) := by
  obtain ⟨ak, an, ax, az, ab⟩ := a
  obtain ⟨bk, bn, bx, bz, bb⟩ := b
  have hW := ways ak bk
  rcases hW with ⟨rfl, rfl⟩ | ⟨rfl, rfl⟩ | ⟨rfl, rfl⟩ | ⟨rfl, rfl⟩ | ⟨rfl, rfl⟩ | ⟨rfl, rfl⟩ | ⟨rfl, g1, g2⟩ | ⟨rfl, g1, g2⟩ | ⟨rfl, g1⟩ | ⟨rfl, g1⟩ | ⟨g1, g2, g3, g4⟩
  · simp [cmp, ok, key, kcmp, kok, sgn_scale]
  · cases h : Fl.nan bx
    · simp [cmp, ok, key, kcmp, kok, Fl.cmpInt, h]
    · simp [cmp, ok, key, kcmp, kok, Fl.cmpInt, h]
  · cases h : Fl.nan ax
    · simp [cmp, ok, key, kcmp, kok, Fl.cmpInt, h, ← sgn_turn]
    · simp [cmp, ok, key, kcmp, kok, Fl.cmpInt, h]
  · cases h : Fl.nan ax
    · cases g : Fl.nan bx
      · simp [cmp, ok, key, kcmp, kok, Fl.cmp, Fl.cmpOk, h, g]
      · simp [cmp, ok, key, kcmp, kok, Fl.cmp, Fl.cmpOk, h, g]
    · simp [cmp, ok, key, kcmp, kok, Fl.cmp, Fl.cmpOk, h]
  · simp [cmp, ok, key, kcmp, kok, txt, tx]
  · simp [cmp, ok, key, kcmp, kok]
  · simp only [cmp, ok, key, g1, g2]
    simp
    by_cases h3 : bk = 3
    · simp [h3, kcmp, kok]
    · by_cases h4 : bk = 4
      · simp [h4, kcmp, kok]
      · simp [h3, h4, kcmp, kok]
  · simp only [cmp, ok, key, g1, g2]
    simp
    cases h : Fl.nan ax
    · by_cases h3 : bk = 3
      · simp [h3, kcmp, kok]
      · by_cases h4 : bk = 4
        · simp [h4, kcmp, kok]
        · simp [h3, h4, kcmp, kok]
    · simp [kcmp, kok]
  · simp only [cmp, ok, key, g1]
    simp
    by_cases h1 : bk = 1
    · simp [h1, kcmp, kok]
    · by_cases h2 : bk = 2
      · cases h : Fl.nan bx <;> simp [h2, kcmp, kok]
      · by_cases h4 : bk = 4
        · simp [h4, kcmp, kok]
        · simp [h1, h2, h4, kcmp, kok]
  · simp only [cmp, ok, key, g1]
    simp
    by_cases h1 : bk = 1
    · simp [h1, kcmp, kok]
    · by_cases h2 : bk = 2
      · cases h : Fl.nan bx <;> simp [h2, kcmp, kok]
      · by_cases h3 : bk = 3
        · simp [h3, kcmp, kok]
        · simp [h1, h2, h3, kcmp, kok]
  · simp [cmp, ok, key, g1, g2, g3, g4, kcmp, kok]

theorem less_trans : ∀ l m r : List UInt8, Op.bytesLess l m = true → Op.bytesLess m r = true → Op.bytesLess l r = true
  | [], [], _, h, _ => by simp [Op.bytesLess] at h
  | _ :: _, [], _, h, _ => by simp [Op.bytesLess] at h
  | _, _ :: _, [], _, g => by simp [Op.bytesLess] at g
  | [], _ :: _, _ :: _, _, _ => by simp [Op.bytesLess]
  | a :: l, b :: m, c :: r, h, g => by
    simp only [Op.bytesLess, Bool.or_eq_true, decide_eq_true_eq, Bool.and_eq_true, beq_iff_eq] at h g ⊢
    rcases h with h | ⟨rfl, h⟩
    · rcases g with g | ⟨rfl, g⟩
      · exact .inl (UInt8.lt_trans h g)
      · exact .inl h
    · rcases g with g | ⟨rfl, g⟩
      · exact .inl g
      · exact .inr ⟨rfl, less_trans l m r h g⟩
theorem less_total : ∀ l m : List UInt8, Op.bytesLess l m = true ∨ l = m ∨ Op.bytesLess m l = true
  | [], [] => .inr (.inl rfl)
  | [], _ :: _ => .inl rfl
  | _ :: _, [] => .inr (.inr rfl)
  | a :: l, b :: m => by
    simp only [Op.bytesLess, Bool.or_eq_true, decide_eq_true_eq, Bool.and_eq_true, beq_iff_eq, List.cons.injEq]
    rcases Nat.lt_trichotomy a.toNat b.toNat with h | h | h
    · exact .inl (.inl h)
    · have e : a = b := UInt8.toNat_inj.1 h
      subst e
      rcases less_total l m with g | g | g
      · exact .inl (.inr ⟨rfl, g⟩)
      · exact .inr (.inl ⟨rfl, g⟩)
      · exact .inr (.inr (.inr ⟨rfl, g⟩))
    · exact .inr (.inr (.inl h))
theorem tx_lt {l m : List UInt8} (h : Op.bytesLess l m = true) : tx l m = -1 := by simp [tx, h]
theorem tx_eq {l : List UInt8} : tx l l = 0 := by simp [tx, less_irrefl]
theorem tx_gt {l m : List UInt8} (h : Op.bytesLess m l = true) : tx l m = 1 := by
  have h1 : Op.bytesLess l m = false := by
    cases e : Op.bytesLess l m
    · rfl
    · have := less_trans _ _ _ e h
      rw [less_irrefl] at this
      cases this
  have h2 : (l == m) = false := by
    cases e : (l == m)
    · rfl
    · have e' : l = m := by simpa using e
      subst e'
      rw [less_irrefl] at h
      cases h
  simp [tx, h1, h2]

theorem kturn (a b : Key) : kcmp b a = -kcmp a b ∧ kok b a = kok a b := by
  cases a <;> cases b <;> simp [kcmp, kok]
  · exact sgn_turn _ _
  · rename_i l m
    rcases less_total l m with h | h | h
    · rw [tx_lt h, tx_gt h]; rfl
    · subst h; rw [tx_eq]; rfl
    · rw [tx_gt h, tx_lt h]
  · rename_i a b
    cases a <;> cases b <;> rfl
theorem kzero {a b : Key} (hk : kok a b = true) (h : kcmp a b = 0) : a = b := by
  cases a <;> cases b <;> simp [kcmp, kok] at h hk ⊢
  · rename_i x y
    unfold Fl.sgn at h
    split at h
    · omega
    · split at h <;> omega
  · rename_i l m
    rcases less_total l m with g | g | g
    · rw [tx_lt g] at h; omega
    · exact g
    · rw [tx_gt g] at h; omega
  · rename_i a b
    cases a <;> cases b <;> simp [bl] at h ⊢
theorem kself (a : Key) : kcmp a a = 0 := by
  cases a <;> simp [kcmp]
  · exact Fl.sgn_eq rfl
  · exact tx_eq
  · rename_i b
    cases b <;> rfl
theorem sgn_three (x y z : Int) : (Fl.sgn x y ≤ 0 → Fl.sgn y z ≤ 0 → Fl.sgn x z = min (Fl.sgn x y) (Fl.sgn y z)) ∧ (0 ≤ Fl.sgn x y → 0 ≤ Fl.sgn y z → Fl.sgn x z = max (Fl.sgn x y) (Fl.sgn y z)) := by
  rcases Int.lt_trichotomy x y with h | h | h <;> rcases Int.lt_trichotomy y z with g | g | g
  · rw [Fl.sgn_lt h, Fl.sgn_lt g, Fl.sgn_lt (show x < z by omega)]; omega
  · rw [Fl.sgn_lt h, Fl.sgn_eq g, Fl.sgn_lt (show x < z by omega)]; omega
  · rw [Fl.sgn_lt h, Fl.sgn_gt g]; omega
  · rw [Fl.sgn_eq h, Fl.sgn_lt g, Fl.sgn_lt (show x < z by omega)]; omega
  · rw [Fl.sgn_eq h, Fl.sgn_eq g, Fl.sgn_eq (show x = z by omega)]; omega
  · rw [Fl.sgn_eq h, Fl.sgn_gt g, Fl.sgn_gt (show z < x by omega)]; omega
  · rw [Fl.sgn_gt h, Fl.sgn_lt g]; omega
  · rw [Fl.sgn_gt h, Fl.sgn_eq g, Fl.sgn_gt (show z < x by omega)]; omega
  · rw [Fl.sgn_gt h, Fl.sgn_gt g, Fl.sgn_gt (show z < x by omega)]; omega
theorem tx_three (x y z : List UInt8) : (tx x y ≤ 0 → tx y z ≤ 0 → tx x z = min (tx x y) (tx y z)) ∧ (0 ≤ tx x y → 0 ≤ tx y z → tx x z = max (tx x y) (tx y z)) := by
  rcases less_total x y with h | h | h <;> rcases less_total y z with g | g | g
  · rw [tx_lt h, tx_lt g, tx_lt (less_trans _ _ _ h g)]; omega
  · subst g; rw [tx_lt h, tx_eq]; omega
  · rw [tx_lt h, tx_gt g]; omega
  · subst h; rw [tx_eq, tx_lt g]; omega
  · subst h; subst g; rw [tx_eq]; omega
  · subst h; rw [tx_eq, tx_gt g]; omega
  · rw [tx_gt h, tx_lt g]; omega
  · subst g; rw [tx_gt h, tx_eq]; omega
  · rw [tx_gt h, tx_gt g, tx_gt (less_trans _ _ _ g h)]; omega
theorem kthree {a b c : Key} (h : kok a b = true) (g : kok b c = true) : kok a c = true ∧ (kcmp a b ≤ 0 → kcmp b c ≤ 0 → kcmp a c = min (kcmp a b) (kcmp b c)) ∧ (0 ≤ kcmp a b → 0 ≤ kcmp b c → kcmp a c = max (kcmp a b) (kcmp b c)) := by
  cases a <;> cases b <;> cases c <;> simp only [kok, Bool.false_eq_true] at h g ⊢ <;> simp only [kcmp, true_and]
  · exact sgn_three _ _ _
  · exact tx_three _ _ _
  · rename_i a b c
    cases a <;> cases b <;> cases c <;> decide
theorem krange (a b : Key) : -1 ≤ kcmp a b ∧ kcmp a b ≤ 1 := by
  cases a <;> cases b <;> simp only [kcmp] <;> try omega
  · unfold Fl.sgn; split <;> (try split) <;> omega
  · unfold tx; split <;> (try split) <;> omega
  · unfold bl; split <;> (try split) <;> omega

theorem turn (a b : Val) : cmp b a = -cmp a b ∧ ok b a = ok a b := by
  rw [(cmp_key a b).1, (cmp_key a b).2, (cmp_key b a).1, (cmp_key b a).2]; exact kturn _ _
theorem three {a b c : Val} (h : ok a b = true) (g : ok b c = true) : ok a c = true ∧ (cmp a b ≤ 0 → cmp b c ≤ 0 → cmp a c = min (cmp a b) (cmp b c)) ∧ (0 ≤ cmp a b → 0 ≤ cmp b c → cmp a c = max (cmp a b) (cmp b c)) := by
  rw [(cmp_key a b).2] at h
  rw [(cmp_key b c).2] at g
  rw [(cmp_key a b).1, (cmp_key b c).1, (cmp_key a c).1, (cmp_key a c).2]; exact kthree h g
theorem range (a b : Val) : -1 ≤ cmp a b ∧ cmp a b ≤ 1 := by rw [(cmp_key a b).1]; exact krange _ _
/-- What is another one stands to a third one alike. -/
theorem is_like {a b : Val} (h : is a b = true) (c : Val) : cmp a c = cmp b c ∧ ok a c = ok b c := by
  have hk : key a = key b := by
    unfold is at h
    rw [Bool.and_eq_true, decide_eq_true_eq, (cmp_key a b).1, (cmp_key a b).2] at h
    exact kzero h.1 h.2
  rw [(cmp_key a c).1, (cmp_key a c).2, (cmp_key b c).1, (cmp_key b c).2, hk]
  exact ⟨rfl, rfl⟩
theorem same_float {x y : Nat} (h : Fl.same x y = true) : Fl.nan x = Fl.nan y ∧ (Fl.nan x = false → Fl.Z x = Fl.Z y) := by
  have h' : Fl.bits x = Fl.bits y := by simpa [Fl.same] using h
  have hq : Fl.nan 9221120237041090560 = true := by decide
  have hz : Fl.nan 0 = false := by decide
  have key : ∀ x y : Nat, Fl.nan x = true → Fl.nan y = false → Fl.bits x = Fl.bits y → False := by
    intro x y hx hy h
    rw [Fl.bits_nan hx] at h
    cases e : Fl.isZero y
    · rw [Fl.bits_else hy e] at h
      rw [← h, hq] at hy
      cases hy
    · rw [Fl.bits_zero hy e] at h
      cases h
  have zro : ∀ x : Nat, Fl.isZero x = true → Fl.Z x = 0 := fun x h => (Fl.Z_zero_iff x).2 (of_decide_eq_true h)
  cases hx : Fl.nan x
  · cases hy : Fl.nan y
    · refine ⟨rfl, fun _ => ?_⟩
      cases ex : Fl.isZero x
      · cases ey : Fl.isZero y
        · rw [Fl.bits_else hx ex, Fl.bits_else hy ey] at h'
          rw [h']
        · rw [Fl.bits_else hx ex, Fl.bits_zero hy ey] at h'
          rw [h'] at ex
          cases ex
      · rw [zro x ex]
        cases ey : Fl.isZero y
        · rw [Fl.bits_zero hx ex, Fl.bits_else hy ey] at h'
          rw [← h'] at ey
          cases ey
        · rw [zro y ey]
    · exact (key y x hy hx h'.symm).elim
  · cases hy : Fl.nan y
    · exact (key x y hx hy h').elim
    · exact ⟨rfl, fun h => by cases h⟩
theorem same_key {a b : Val} (h : same a b = true) : key a = key b := by
  obtain ⟨ak, an, ax, az, ab⟩ := a
  obtain ⟨bk, bn, bx, bz, bb⟩ := b
  simp only [same, Bool.and_eq_true, decide_eq_true_eq, beq_iff_eq] at h
  obtain ⟨⟨⟨⟨rfl, rfl⟩, hx⟩, hs⟩, rfl⟩ := h
  obtain ⟨hn, hz⟩ := same_float hx
  simp only [key, hs]
  cases e : Fl.nan ax
  · rw [← hn, e, hz e]
  · rw [← hn, e]
    simp
theorem same_like {a b : Val} (h : same a b = true) (c : Val) : cmp a c = cmp b c ∧ ok a c = ok b c := by
  rw [(cmp_key a c).1, (cmp_key a c).2, (cmp_key b c).1, (cmp_key b c).2, same_key h]
  exact ⟨rfl, rfl⟩
theorem same_is {a b : Val} (h : same a b = true) : is a b = is a a := by
  unfold is
  rw [(cmp_key a b).1, (cmp_key a b).2, (cmp_key a a).1, (cmp_key a a).2, same_key h]
theorem same_self (a : Val) : same a a = true := by simp [same, Fl.same]
theorem same_comm (a b : Val) : same a b = same b a := by
  rw [Bool.eq_iff_iff]
  simp only [same, Fl.same, Bool.and_eq_true, decide_eq_true_eq, beq_iff_eq]
  constructor <;> (rintro ⟨⟨⟨⟨h1, h2⟩, h3⟩, h4⟩, h5⟩; exact ⟨⟨⟨⟨h1.symm, h2.symm⟩, h3.symm⟩, h4.symm⟩, h5.symm⟩)
theorem right_kind {a : Val} (h : right a = true) : a.k = 1 ∨ a.k = 2 ∨ a.k = 3 ∨ a.k = 4 := by
  obtain ⟨ak, an, ax, az, ab⟩ := a
  have hW : ak = 1 ∨ ak = 2 ∨ ak = 3 ∨ ak = 4 ∨ (¬ ak = 1 ∧ ¬ ak = 2 ∧ ¬ ak = 3 ∧ ¬ ak = 4) := by omega
  rcases hW with e | e | e | e | ⟨g1, g2, g3, g4⟩
  · exact .inl e
  · exact .inr (.inl e)
  · exact .inr (.inr (.inl e))
  · exact .inr (.inr (.inr e))
  · simp [right, g1, g2, g3, g4] at h
theorem is_self {a : Val} (h : right a = true) : is a a = (decide (a.k ≠ 2) || !Fl.nan a.x) := by
  unfold is
  rw [(cmp_key a a).1, (cmp_key a a).2, kself]
  have hk := right_kind h
  obtain ⟨ak, an, ax, az, ab⟩ := a
  rcases hk with rfl | rfl | rfl | rfl
  · simp [key, kok]
  · cases e : Fl.nan ax <;> simp [key, kok, e]
  · simp [key, kok]
  · simp [key, kok]
end Vl
end Go.Proofs.YtgenmebmdpnjhaaGreat

namespace Go.Proofs.YtgenmebmdpnjhaaGreat
open Go.RowKit

theorem rbits_any (x : Nat) (w : World) : Calls Tryz.prog 135 #[.float .f64 x] w fun e w' => e = .returned (.int .u64 (Fl.bits x : Nat)) ∧ w = w' := by
  have ox := Fl.ord_self x
  cases hn : Fl.nan x
  · rw [hn] at ox
    have h0 := Fl.ord_zero hn
    cases hz : Fl.isZero x
    · rw [Fl.bits_else hn hz]
      rw [hz] at h0
      clear hz
      have ht := tobits_run x
      go_enter Tryz.func135, Tryz.ntmps135
      go_wp2
      go_ret
      exact ⟨rfl, rfl⟩
    · rw [Fl.bits_zero hn hz]
      rw [hz] at h0
      clear hz
      go_enter Tryz.func135, Tryz.ntmps135
      go_wp2
      go_ret
      exact ⟨rfl, rfl⟩
  · rw [hn] at ox
    rw [Fl.bits_nan hn]
    go_enter Tryz.func135, Tryz.ntmps135
    go_wp2
    go_ret
    exact ⟨rfl, rfl⟩

theorem rof_any (b : Nat) (w : World) : Calls Tryz.prog 147 #[.int .u64 b] w fun e w' => e = .returned (.tuple #[.float .f64 (if Fl.told b then b else 0), .bool (Fl.told b)]) ∧ w = w' := by
  have hf := frombits_run b
  rw [Int.toNat_natCast] at hf
  cases ht : Fl.told b
  · have h1 : (Fl.bits b != b) = true := by simpa [Fl.told] using ht
    simp only [Bool.false_eq_true, if_false]
    clear ht
    go_enter Tryz.func147, Tryz.ntmps147
    go_wp2_with (go_at_call 135; refine (rbits_any _ _).mono ?_; rintro e w' ⟨rfl, rfl⟩)
    go_ret2
    exact ⟨rfl, rfl⟩
  · have h1 : (Fl.bits b != b) = false := by simpa [Fl.told] using ht
    simp only [if_true]
    clear ht
    go_enter Tryz.func147, Tryz.ntmps147
    go_wp2_with (go_at_call 135; refine (rbits_any _ _).mono ?_; rintro e w' ⟨rfl, rfl⟩)
    go_ret2
    exact ⟨rfl, rfl⟩

namespace Fl
/-- Cut towards 0: where n stands to it. -/
theorem trn_ways {x : Nat} (h : fits x) (n : Int) :
    (n < (Z x).tdiv (U : Int) ∧ cmpInt n x = -1) ∨ ((Z x).tdiv (U : Int) < n ∧ cmpInt n x = 1) ∨
    (n = (Z x).tdiv (U : Int) ∧ ((FloatKind.f64.format.order (trn x) x = some .lt ∧ cmpInt n x = -1) ∨ (FloatKind.f64.format.order (trn x) x = some .gt ∧ cmpInt n x = 1) ∨ (FloatKind.f64.format.order (trn x) x = some .eq ∧ cmpInt n x = 0))) := by
  obtain ⟨_, tn, tz, _⟩ := trn_spec h
  have hn := h.1
  have ho : (nan (trn x) || nan x) = false := by rw [tn, hn]; rfl
  rw [cmpInt_num hn]
  have hu := UI
  have e := Int.mul_tdiv_add_tmod (Z x) (U : Int)
  have r1 : (Z x).tmod (U : Int) < U := Int.tmod_lt_of_pos _ hu
  have r2 : -(U : Int) < (Z x).tmod (U : Int) := by
    have := Int.tmod_lt_of_pos (-(Z x)) hu; rw [Int.neg_tmod] at this; omega
  have r3 : (0 ≤ Z x → 0 ≤ (Z x).tmod (U : Int) ∧ 0 ≤ (Z x).tdiv (U : Int)) := fun h0 => ⟨Int.tmod_nonneg _ h0, Int.tdiv_nonneg h0 (Int.le_of_lt hu)⟩
  have r4 : (Z x ≤ 0 → (Z x).tmod (U : Int) ≤ 0 ∧ (Z x).tdiv (U : Int) ≤ 0) := fun h0 => by
    have a := Int.tmod_nonneg (a := -(Z x)) (U : Int) (by omega)
    have b := Int.tdiv_nonneg (a := -(Z x)) (b := (U : Int)) (by omega) (Int.le_of_lt hu)
    rw [Int.neg_tmod] at a
    rw [Int.neg_tdiv] at b
    omega
  rw [Int.mul_comm] at e
  rcases Int.lt_trichotomy n ((Z x).tdiv (U : Int)) with g | g | g
  · left
    refine ⟨g, sgn_lt ?_⟩
    have m := Int.mul_le_mul_of_nonneg_right (show n + 1 ≤ (Z x).tdiv (U : Int) from g) (Int.le_of_lt hu)
    rw [Int.add_mul, Int.one_mul] at m
    omega
  · right; right
    refine ⟨g, ?_⟩
    rw [g, ← tz]
    rcases Int.lt_trichotomy (Z (trn x)) (Z x) with k | k | k
    · exact .inl ⟨ord_lt ho k, sgn_lt k⟩
    · exact .inr (.inr ⟨ord_eq ho k, sgn_eq k⟩)
    · exact .inr (.inl ⟨ord_gt ho k, sgn_gt k⟩)
  · right; left
    refine ⟨g, sgn_gt ?_⟩
    have m := Int.mul_le_mul_of_nonneg_right (show (Z x).tdiv (U : Int) + 1 ≤ n from g) (Int.le_of_lt hu)
    rw [Int.add_mul, Int.one_mul] at m
    omega
end Fl

end Go.Proofs.YtgenmebmdpnjhaaGreat

namespace Go.Proofs.YtgenmebmdpnjhaaGreat
open Go.RowKit

/-- A world in which what W had is as it was. -/
structure Later (W : World) where
  at_ : World
  below : Below W.heap.size W at_

theorem later_drew {W w : World} (h : Below W.heap.size W w) : Below W.heap.size W { w with drawn := w.drawn + 1 } := ⟨h.os, h.tape, h.output, h.size, h.block⟩

/-- 'haveI := later_some W', then 'refine wp_region_later (W := ..) (by kernel_rfl) (by kernel_rfl) hB ?_', then 'repeat (go_big_quiet_step (first | (go_at_call N; exact calls_later (contract ..)) | ..))', then 'refine wpQuiet_nil ?_; rintro _ ⟨x, rfl⟩'. What is loaded: hypotheses '∀ x : Later W, x.at_.cell? p = some v'. -/
theorem wp_region_later {P : Program} {id : Nat} {Q : Exit → Act → World → Prop} {a : Act} {W w : World} {l : List Oper} (hm : P.follows .mixedOrders = true) (hB : Region.lexB .any l.toArray = true) (hw : Below W.heap.size W w)
    (h : wpQuiet P l.toArray (fun w' => ∃ x : Later W, w' = x.at_) (fun a' => ∀ w', (∃ x : Later W, w' = x.at_) → Q .normal a' w') l a) : (Code.region id l.toArray true).wp P Q a w :=
  wp_region_quiet (C := fun w' => ∃ x : Later W, w' = x.at_) hm hB ⟨⟨_, later_drew hw⟩, rfl⟩ (by simpa using h)

theorem calls_later {P : Program} {f : FuncId} {args : Array Value} {W : World} {x : Later W} {v : Value}
    (h : Calls P f args x.at_ fun e w' => e = .returned v ∧ Below x.at_.heap.size x.at_ w') : Calls P f args x.at_ fun e w'' => e = .returned v ∧ ∃ y : Later W, w'' = y.at_ :=
  h.mono fun _ w' ⟨he, hb⟩ => ⟨he, ⟨w', x.below.trans ⟨hb.os, hb.tape, hb.output, hb.size, fun k hk => hb.block k (Nat.lt_of_lt_of_le hk x.below.size)⟩⟩, rfl⟩
/-- A callee that leaves the world as it is. -/
theorem calls_later_same {P : Program} {f : FuncId} {args : Array Value} {W : World} {x : Later W} {v : Value}
    (h : Calls P f args x.at_ fun e w' => e = .returned v ∧ x.at_ = w') : Calls P f args x.at_ fun e w'' => e = .returned v ∧ ∃ y : Later W, w'' = y.at_ :=
  h.mono fun _ _ ⟨he, hw⟩ => ⟨he, x, hw.symm⟩
theorem later_cell {W : World} {p : Addr} {v : Value} (h : W.cell? p = some v) (x : Later W) : x.at_.cell? p = some v := (x.below.cell (World.block_lt_of_cell? W _ h)).trans h
theorem later_some (W : World) : Nonempty (Later W) := ⟨⟨W, Below.refl _ _⟩⟩

end Go.Proofs.YtgenmebmdpnjhaaGreat
