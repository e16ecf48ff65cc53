
/- ValueKnown: the walk. -/
import Derived.Test.YtheompihapmmpaaVal2
import Derived.Deep.RegionHeld3
import Derived.Deep.DeepCutAuto
namespace Go.Proofs.Ytheompihapmmpaa
open Go.RowKit

theorem below_on {A a b : World} (h : Hid (Below A.heap.size A a)) (k : Below a.heap.size a b) : Hid (Below A.heap.size A b) := h.out.trans (below_sub k h.out.size)
/-- The same, where the order was drawn between. -/
theorem below_go {A a a' b : World} (h : Hid (Below A.heap.size A a)) (k : Below a'.heap.size a' b) (e : a' = a ∨ a' = a.drew := by first | exact .inl rfl | exact .inr rfl) : Hid (Below A.heap.size A b) := by
  rcases e with rfl | rfl
  · exact below_on h k
  · exact below_on h ⟨k.os, k.tape, k.output, k.size, k.block⟩
theorem keep_cell {w w' : World} {p : Addr} {v : Value} (hb : Below w.heap.size w w') (h : w.cell? p = some v) : w'.cell? p = some v := (hb.cell (World.block_lt_of_cell? w _ h)).trans h

theorem below_row {B : Nat} {w w' : World} (h : Below B w w') {g : Nat} {o : Obj} (hB : B = w.heap.size) (hg : w.heap[g]? = some o) : w'.heap[g]? = some o := by
  subst hB
  have hlt : g < w.heap.size := by
    rcases Nat.lt_or_ge g w.heap.size with h | h
    · exact h
    · rw [Array.getElem?_eq_none h] at hg; cases hg
  rw [h.block g hlt]; exact hg
theorem five_cells {w : World} {g : Nat} {t : TypeId} {c0 c1 c2 c3 c4 : Value} (hg : w.heap[g]? = some (.cells #[c0, c1, c2, c3, c4] t (0, 0))) :
    w.cell? ⟨g, 0, none⟩ = some c0 ∧ w.cell? ⟨g, 1, none⟩ = some c1 ∧ w.cell? ⟨g, 2, none⟩ = some c2 ∧ w.cell? ⟨g, 3, none⟩ = some c3 ∧ w.cell? ⟨g, 4, none⟩ = some c4 :=
  ⟨cell_of_row _ _ 0 _ _ _ hg, cell_of_row _ _ 1 _ _ _ hg, cell_of_row _ _ 2 _ _ _ hg, cell_of_row _ _ 3 _ _ _ hg, cell_of_row _ _ 4 _ _ _ hg⟩
theorem vcmp_at {ak an : Int} {ax : Nat} {az : ByteArray} {ab : Bool} {bk bn : Int} {bx : Nat} {bz : ByteArray} {bb : Bool} (c : Int) (k : Bool) (h1 : -9223372036854775808 ≤ an) (h2 : an ≤ 9223372036854775807) (h3 : -9223372036854775808 ≤ bn) (h4 : bn ≤ 9223372036854775807)
    (hc : Vl.cmp ⟨ak, an, ax, az, ab⟩ ⟨bk, bn, bx, bz, bb⟩ = c) (hk : Vl.ok ⟨ak, an, ax, az, ab⟩ ⟨bk, bn, bx, bz, bb⟩ = k) (w : World) :
    Calls Try.prog 9 #[vl ak an ax az ab, vl bk bn bx bz bb] w fun e w' => e = .returned (pairIB c k) ∧ Below w.heap.size w w' := by
  subst hc; subst hk; exact vcmp_any ak an ax az ab bk bn bx bz bb h1 h2 h3 h4 w
theorem vis_at {ak an : Int} {ax : Nat} {az : ByteArray} {ab : Bool} {bk bn : Int} {bx : Nat} {bz : ByteArray} {bb : Bool} (k : Bool) (h1 : -9223372036854775808 ≤ an) (h2 : an ≤ 9223372036854775807) (h3 : -9223372036854775808 ≤ bn) (h4 : bn ≤ 9223372036854775807)
    (hc : Vl.is ⟨ak, an, ax, az, ab⟩ ⟨bk, bn, bx, bz, bb⟩ = k) (w : World) :
    Calls Try.prog 14 #[vl ak an ax az ab, vl bk bn bx bz bb] w fun e w' => e = .returned (.bool k) ∧ Below w.heap.size w w' := by
  subst hc; exact vis_any ak an ax az ab bk bn bx bz bb h1 h2 h3 h4 w
theorem vsame_at {ak an : Int} {ax : Nat} {az : ByteArray} {ab : Bool} {bk bn : Int} {bx : Nat} {bz : ByteArray} {bb : Bool} (k : Bool) (hc : Vl.same ⟨ak, an, ax, az, ab⟩ ⟨bk, bn, bx, bz, bb⟩ = k) (w : World) :
    Calls Try.prog 15 #[vl ak an ax az ab, vl bk bn bx bz bb] w fun e w' => e = .returned (.bool k) ∧ Below w.heap.size w w' := by
  subst hc; exact vsame_any ak an ax az ab bk bn bx bz bb w
theorem vright_at {ak an : Int} {ax : Nat} {az : ByteArray} {ab : Bool} (k : Bool) (hc : Vl.right ⟨ak, an, ax, az, ab⟩ = k) (w : World) :
    Calls Try.prog 16 #[vl ak an ax az ab] w fun e w' => e = .returned (.bool k) ∧ Below w.heap.size w w' := by
  subst hc; exact vright_any ak an ax az ab w

set_option maxRecDepth 100000 in
set_option maxHeartbeats 4000000 in
theorem vknown_walk (w : World) : Calls Try.prog 3 #[] w fun e w' => e = .returned (.bool true) ∧ Below w.heap.size w w' := by
  have hst := store_float
  go_enter Try.func3, Try.ntmps3
  go_wp2_with fail
  refine (nan_any _).mono ?_
  rintro e w' ⟨rfl, rfl⟩
  go_wp2_with fail
  refine (vfloat_any _ _).mono ?_
  rintro e w1 ⟨rfl, hb⟩
  have HB := Lib.hid hb
  clear hb
  go_upto_region 2 with fail
  generalize hW : w1.alloc _ = W
  have R1 : Hid (W.heap[w1.heap.size]? = some (.cells #[.int .i64 2, .int .i64 0, .float .f64 9221120237041090561, .string ⟨#[]⟩, .bool false] 24 (0, 0))) := by rw [← hW]; exact heap_alloc_new _ _
  have HB0 : Hid (Below w.heap.size w W) := by rw [← hW]; exact below_then HB.out (one_new _ _)
  have HB : Hid (Below W.heap.size W W) := Below.refl _ _
  clear hW
  go_wp2_with fail
  refine (vint_any _ _).mono ?_
  rintro e w2 ⟨rfl, hb⟩
  replace HB := below_on HB hb
  clear hb
  go_wp2_with fail
  refine (vfloat_any _ _).mono ?_
  rintro e w2 ⟨rfl, hb⟩
  replace HB := below_on HB hb
  clear hb
  go_wp2_with fail
  refine (vcmp_at (-1) true (by omega) (by omega) (by omega) (by omega) (by kernel_rfl) (by kernel_rfl) _).mono ?_
  rintro e w2 ⟨rfl, hb⟩
  replace HB := below_on HB hb
  clear hb
  go_wp2_with fail
  refine (vint_any _ _).mono ?_
  rintro e w2 ⟨rfl, hb⟩
  replace HB := below_on HB hb
  clear hb
  go_wp2_with fail
  refine (vbool_any _ _).mono ?_
  rintro e w2 ⟨rfl, hb⟩
  replace HB := below_on HB hb
  clear hb
  go_wp2_with fail
  refine (vcmp_at 0 false (by omega) (by omega) (by omega) (by omega) (by kernel_rfl) (by kernel_rfl) _).mono ?_
  rintro e w2 ⟨rfl, hb⟩
  replace HB := below_on HB hb
  clear hb
  go_wp2_with fail
  refine (vtext_any _ _).mono ?_
  rintro e w2 ⟨rfl, hb⟩
  replace HB := below_on HB hb
  clear hb
  go_wp2_with fail
  refine (vtext_any _ _).mono ?_
  rintro e w2 ⟨rfl, hb⟩
  replace HB := below_on HB hb
  clear hb
  go_wp2_with fail
  refine (vcmp_at (-1) true (by omega) (by omega) (by omega) (by omega) (by kernel_rfl) (by kernel_rfl) _).mono ?_
  rintro e w2 ⟨rfl, hb⟩
  replace HB := below_on HB hb
  clear hb
  go_wp2_with fail
  refine (vbool_any _ _).mono ?_
  rintro e w2 ⟨rfl, hb⟩
  replace HB := below_on HB hb
  clear hb
  go_wp2_with fail
  refine (vbool_any _ _).mono ?_
  rintro e w2 ⟨rfl, hb⟩
  replace HB := below_on HB hb
  clear hb
  go_wp2_with fail
  refine (vcmp_at 1 true (by omega) (by omega) (by omega) (by omega) (by kernel_rfl) (by kernel_rfl) _).mono ?_
  rintro e w2 ⟨rfl, hb⟩
  replace HB := below_on HB hb
  clear hb
  go_wp2_with fail
  refine (vfloat_any _ _).mono ?_
  rintro e w2 ⟨rfl, hb⟩
  replace HB := below_on HB hb
  clear hb
  go_wp2_with fail
  refine (vint_any _ _).mono ?_
  rintro e w2 ⟨rfl, hb⟩
  replace HB := below_on HB hb
  clear hb
  go_wp2_with fail
  refine (vcmp_at 0 true (by omega) (by omega) (by omega) (by omega) (by kernel_rfl) (by kernel_rfl) _).mono ?_
  rintro e w2 ⟨rfl, hb⟩
  replace HB := below_on HB hb
  clear hb
  go_wp2_with fail
  refine (copysign_zero _).mono ?_
  rintro e w2 ⟨rfl, rfl⟩
  go_wp2_with fail
  refine (vfloat_any _ _).mono ?_
  rintro e w2 ⟨rfl, hb⟩
  replace HB := below_on HB hb
  clear hb
  go_upto_region 10 with fail
  generalize hV : w2.alloc _ = V
  have HV : Hid (Below W.heap.size W V) := by rw [← hV]; exact below_on HB (one_new _ _)
  have RV1 := Lib.hid (below_row HV.out rfl R1.out)
  have RV2 : Hid (V.heap[w2.heap.size]? = some (.cells #[.int .i64 2, .int .i64 0, .float .f64 9223372036854775808, .string ⟨#[]⟩, .bool false] 24 (0, 0))) := by rw [← hV]; exact heap_alloc_new _ _
  replace HB0 := below_on HB0 HV.out
  obtain ⟨c0, c1, c2, c3, c4⟩ := five_cells RV1.out
  obtain ⟨d0, d1, d2, d3, d4⟩ := five_cells RV2.out
  have HB : Hid (Below w.heap.size w V) := HB0
  clear hV HB0 HV RV1 RV2 R1 hst
  generalize w1.heap.size = g1 at *
  generalize w2.heap.size = g2 at *
  go_region_held3 (fun w' => w'.cell? ⟨g1, 0, none⟩ = some (.int .i64 2) ∧ w'.cell? ⟨g1, 1, none⟩ = some (.int .i64 0) ∧ w'.cell? ⟨g1, 2, none⟩ = some (.float .f64 9221120237041090561) ∧ w'.cell? ⟨g1, 3, none⟩ = some (.string ⟨#[]⟩) ∧ w'.cell? ⟨g1, 4, none⟩ = some (.bool false) ∧ w'.cell? ⟨g2, 0, none⟩ = some (.int .i64 2) ∧ w'.cell? ⟨g2, 1, none⟩ = some (.int .i64 0) ∧ w'.cell? ⟨g2, 2, none⟩ = some (.float .f64 9223372036854775808) ∧ w'.cell? ⟨g2, 3, none⟩ = some (.string ⟨#[]⟩) ∧ w'.cell? ⟨g2, 4, none⟩ = some (.bool false))
    (first
      | go_keep
      | (go_split_ands
         refine ⟨?_, ?_, ?_, ?_, ?_, ?_, ?_, ?_, ?_, ?_⟩ <;> exact keep_cell hb (by assumption)))
    (first
      | (go_at_call 14; refine (vis_at true (by omega) (by omega) (by omega) (by omega) (by decide +kernel) _).mono ?_; rintro e wx ⟨rfl, hb⟩; replace HB := below_go HB hb)
      | (go_at_call 14; refine (vis_at false (by omega) (by omega) (by omega) (by omega) (by decide +kernel) _).mono ?_; rintro e wx ⟨rfl, hb⟩; replace HB := below_go HB hb)
      | (go_at_call 15; refine (vsame_at true (by decide +kernel) _).mono ?_; rintro e wx ⟨rfl, hb⟩; replace HB := below_go HB hb)
      | (go_at_call 15; refine (vsame_at false (by decide +kernel) _).mono ?_; rintro e wx ⟨rfl, hb⟩; replace HB := below_go HB hb)
      | (go_at_call 16; refine (vright_at true (by decide +kernel) _).mono ?_; rintro e wx ⟨rfl, hb⟩; replace HB := below_go HB hb)
      | (go_at_call 16; refine (vright_at false (by decide +kernel) _).mono ?_; rintro e wx ⟨rfl, hb⟩; replace HB := below_go HB hb)
      | (go_at_call 10; refine (vint_any _ _).mono ?_; rintro e wx ⟨rfl, hb⟩; replace HB := below_go HB hb)
      | (go_at_call 7; refine (vfloat_any _ _).mono ?_; rintro e wx ⟨rfl, hb⟩; replace HB := below_go HB hb)
      | (go_at_call 12; refine (vtext_any _ _).mono ?_; rintro e wx ⟨rfl, hb⟩; replace HB := below_go HB hb))
  go_wp2_with fail
  go_ret
  exact ⟨rfl, HB.out⟩

theorem vknown_any (w : World) : Calls Try.prog 20 #[] w fun e w' => e = .returned (.bool true) ∧ Below w.heap.size w w' := by
  go_enter Try.func20, Try.ntmps20
  go_wp2_with fail
  refine (vknown_walk _).mono ?_
  rintro e w' ⟨rfl, hb⟩
  have HB := Lib.hid hb
  clear hb
  go_wp2_with fail
  go_ret
  exact ⟨rfl, HB.out⟩
end Go.Proofs.Ytheompihapmmpaa
