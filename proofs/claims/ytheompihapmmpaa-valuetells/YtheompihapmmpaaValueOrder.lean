
/- ValueOrder: the walk. -/
import Derived.Test.YtheompihapmmpaaFeedValue
import Derived.Test.YtheompihapmmpaaVlKeys
import Derived.Test.YtheompihapmmpaaValueKnown
namespace Go.Proofs.Ytheompihapmmpaa
open Go.RowKit

namespace Vl
/-- How three values stand to one another: p, r, s of the first two, of the last two, of the outer two. -/
inductive Ord3 : Int → Int → Int → Bool → Bool → Bool → Prop where
  | no (p r s : Int) (rk sk : Bool) (hp : p = -1 ∨ p = 0 ∨ p = 1) : Ord3 p r s false rk sk
  | half (p r s : Int) (sk : Bool) (hp : p = -1 ∨ p = 0 ∨ p = 1) : Ord3 p r s true false sk
  | ll : Ord3 (-1) (-1) (-1) true true true
  | lz : Ord3 (-1) 0 (-1) true true true
  | lg (s : Int) : Ord3 (-1) 1 s true true true
  | zl : Ord3 0 (-1) (-1) true true true
  | zz : Ord3 0 0 0 true true true
  | zg : Ord3 0 1 1 true true true
  | gl (s : Int) : Ord3 1 (-1) s true true true
  | gz : Ord3 1 0 1 true true true
  | gg : Ord3 1 1 1 true true true
theorem ord3 (a b c : Val) : Ord3 (cmp a b) (cmp b c) (cmp a c) (ok a b) (ok b c) (ok a c) := by
  have hp : cmp a b = -1 ∨ cmp a b = 0 ∨ cmp a b = 1 := by have := range a b; omega
  have hr : cmp b c = -1 ∨ cmp b c = 0 ∨ cmp b c = 1 := by have := range b c; omega
  cases hk : ok a b
  · exact .no _ _ _ _ _ hp
  · cases gk : ok b c
    · exact .half _ _ _ _ hp
    · obtain ⟨h0, h1, h2⟩ := three hk gk
      rw [h0]
      rcases hp with e | e | e <;> rcases hr with f | f | f <;> rw [e, f] at h1 h2 ⊢
      · rw [h1 (by omega) (by omega)]; exact .ll
      · rw [h1 (by omega) (by omega)]; exact .lz
      · exact .lg _
      · rw [h1 (by omega) (by omega)]; exact .zl
      · rw [h1 (by omega) (by omega)]; exact .zz
      · rw [h2 (by omega) (by omega)]; exact .zg
      · exact .gl _
      · rw [h2 (by omega) (by omega)]; exact .gz
      · rw [h2 (by omega) (by omega)]; exact .gg
end Vl

/-- A value's block. -/
abbrev Row5 (w : World) (g : Nat) (t : TypeId) (k n : Int) (x : Nat) (s : ByteArray) (b : Bool) : Prop :=
  w.heap[g]? = some (.cells #[.int .i64 k, .int .i64 n, .float .f64 x, .string s, .bool b] t (0, 0))
theorem row_on {w w' : World} {g : Nat} {o : Obj} (h : Hid (w.heap[g]? = some o)) (hb : Below w.heap.size w w') : Hid (w'.heap[g]? = some o) := below_row hb rfl h.out

abbrev cell5 (t : TypeId) (k n : Int) (x : Nat) (s : ByteArray) (b : Bool) : Obj := .cells #[.int .i64 k, .int .i64 n, .float .f64 x, .string s, .bool b] t
theorem three_rows (w : World) (A B C : Obj) : (((w.alloc A).alloc B).alloc C).heap[w.heap.size]? = some A ∧ (((w.alloc A).alloc B).alloc C).heap[w.heap.size + 1]? = some B ∧ (((w.alloc A).alloc B).alloc C).heap[w.heap.size + 1 + 1]? = some C ∧ Below w.heap.size w (((w.alloc A).alloc B).alloc C) := by
  have s1 : (w.alloc A).heap.size = w.heap.size + 1 := by simp
  have s2 : ((w.alloc A).alloc B).heap.size = w.heap.size + 1 + 1 := by simp
  refine ⟨?_, ?_, ?_, ?_⟩
  · rw [heap_alloc_old _ _ (by omega), heap_alloc_old _ _ (by omega)]; exact heap_alloc_new _ _
  · rw [heap_alloc_old _ _ (by omega), ← s1]; exact heap_alloc_new _ _
  · rw [← s2]; exact heap_alloc_new _ _
  · exact (two_new w A B).alloc (by omega) _

set_option maxRecDepth 100000 in
set_option maxHeartbeats 8000000 in
theorem vorder_walk (A : Option Addr) (len cap : Nat) (w : World) (hd : Draws w.heap.size w A len) :
    Calls Try.prog 5 #[.slice A len cap] w fun e w' => e = .returned (.bool true) ∧ Below w.heap.size w w' := by
  have hF0 := Lib.hid (feed_new (cap := cap) hd 39)
  clear hd
  have hst := store_float
  go_enter Try.func5, Try.ntmps5
  go_wp2_with fail
  refine (feedvalue_any _ (by omega) hF0.out).mono ?_
  rintro e w1 ⟨ak, an, ax, az, ab, a1, a2, -, -, rfl, hF1, hK1⟩
  have HF1 := Lib.hid hF1
  have HK1 := Lib.hid hK1
  clear hF1 hK1 hF0
  go_wp2_with fail
  refine (feedvalue_any _ (by omega) HF1.out).mono ?_
  rintro e w2 ⟨bk, bn, bx, bz, bb, b1, b2, -, -, rfl, hF2, hK2⟩
  have HF2 := Lib.hid hF2
  have HK2 := Lib.hid hK2
  clear hF2 hK2 HF1
  go_wp2_with fail
  refine (feedvalue_any _ (by omega) HF2.out).mono ?_
  rintro e w3 ⟨ck, cn, cx, cz, cb, c1, c2, -, -, rfl, hF3, hK3⟩
  have HB : Hid (Below w.heap.size w w3) := by
    have k := (((Kept.alloc (· = w.heap.size) w _).then HK1.out).then HK2.out).then hK3
    exact k.below (Nat.le_refl _) (fun i hi e => by omega)
  clear hF3 hK3 HF2 HK1 HK2
  go_upto_region 3 with fail
  have HB2 : Hid (Below w.heap.size w (((w3.alloc (cell5 24 ak an ax az ab)).alloc (cell5 24 bk bn bx bz bb)).alloc (cell5 24 ck cn cx cz cb))) := HB.out.trans (below_sub (three_rows w3 _ _ _).2.2.2 HB.out.size)
  have R := three_rows w3 (cell5 24 ak an ax az ab) (cell5 24 bk bn bx bz bb) (cell5 24 ck cn cx cz cb)
  have RA := Lib.hid R.1
  have RB := Lib.hid R.2.1
  have RC := Lib.hid R.2.2.1
  clear R HB hst
  replace HB := HB2
  clear HB2
  generalize ((w3.alloc (cell5 24 ak an ax az ab)).alloc (cell5 24 bk bn bx bz bb)).alloc (cell5 24 ck cn cx cz cb) = W at HB RA RB RC ⊢
  generalize w3.heap.size = g at RA RB RC ⊢
  obtain ⟨p0, p1, p2, p3, p4⟩ := five_cells RA.out
  obtain ⟨q0, q1, q2, q3, q4⟩ := five_cells RB.out
  obtain ⟨r0, r1, r2, r3, r4⟩ := five_cells RC.out
  obtain ⟨T, turn, hi⟩ : Vl.Ord3 (Vl.cmp ⟨ak, an, ax, az, ab⟩ ⟨bk, bn, bx, bz, bb⟩) (Vl.cmp ⟨bk, bn, bx, bz, bb⟩ ⟨ck, cn, cx, cz, cb⟩) (Vl.cmp ⟨ak, an, ax, az, ab⟩ ⟨ck, cn, cx, cz, cb⟩) (Vl.ok ⟨ak, an, ax, az, ab⟩ ⟨bk, bn, bx, bz, bb⟩) (Vl.ok ⟨bk, bn, bx, bz, bb⟩ ⟨ck, cn, cx, cz, cb⟩) (Vl.ok ⟨ak, an, ax, az, ab⟩ ⟨ck, cn, cx, cz, cb⟩) ∧ (Vl.cmp ⟨bk, bn, bx, bz, bb⟩ ⟨ak, an, ax, az, ab⟩ = -Vl.cmp ⟨ak, an, ax, az, ab⟩ ⟨bk, bn, bx, bz, bb⟩ ∧ Vl.ok ⟨bk, bn, bx, bz, bb⟩ ⟨ak, an, ax, az, ab⟩ = Vl.ok ⟨ak, an, ax, az, ab⟩ ⟨bk, bn, bx, bz, bb⟩) ∧
      Vl.is ⟨ak, an, ax, az, ab⟩ ⟨bk, bn, bx, bz, bb⟩ = (Vl.ok ⟨ak, an, ax, az, ab⟩ ⟨bk, bn, bx, bz, bb⟩ && decide (Vl.cmp ⟨ak, an, ax, az, ab⟩ ⟨bk, bn, bx, bz, bb⟩ = 0)) := ⟨Vl.ord3 _ _ _, Vl.turn _ _, rfl⟩
  generalize hp : Vl.cmp ⟨ak, an, ax, az, ab⟩ ⟨bk, bn, bx, bz, bb⟩ = p at T turn hi
  generalize hr : Vl.cmp ⟨bk, bn, bx, bz, bb⟩ ⟨ck, cn, cx, cz, cb⟩ = r at T turn hi
  generalize hs : Vl.cmp ⟨ak, an, ax, az, ab⟩ ⟨ck, cn, cx, cz, cb⟩ = s at T turn hi
  generalize hpk : Vl.ok ⟨ak, an, ax, az, ab⟩ ⟨bk, bn, bx, bz, bb⟩ = pk at T turn hi
  generalize hrk : Vl.ok ⟨bk, bn, bx, bz, bb⟩ ⟨ck, cn, cx, cz, cb⟩ = rk at T turn hi
  generalize hsk : Vl.ok ⟨ak, an, ax, az, ab⟩ ⟨ck, cn, cx, cz, cb⟩ = sk at T turn hi
  have HP := Lib.hid hp
  have HR := Lib.hid hr
  have HS := Lib.hid hs
  have HPK := Lib.hid hpk
  have HRK := Lib.hid hrk
  have HSK := Lib.hid hsk
  have HT := Lib.hid turn
  have HI := Lib.hid hi
  have HO := Lib.hid T
  clear hp hr hs hpk hrk hsk turn hi T
  go_wp2_with fail
  refine (vcmp_at p pk a1 a2 b1 b2 HP.out HPK.out _).mono ?_
  rintro e w4 ⟨rfl, hb⟩
  replace HB := below_on HB hb
  replace RA := row_on RA hb
  replace RB := row_on RB hb
  replace RC := row_on RC hb
  clear p0 p1 p2 p3 p4 q0 q1 q2 q3 q4 r0 r1 r2 r3 r4 hb
  obtain ⟨p0, p1, p2, p3, p4⟩ := five_cells RA.out
  obtain ⟨q0, q1, q2, q3, q4⟩ := five_cells RB.out
  obtain ⟨r0, r1, r2, r3, r4⟩ := five_cells RC.out
  go_wp2_with fail
  refine (vcmp_at (-p) pk b1 b2 a1 a2 HT.out.1 HT.out.2 _).mono ?_
  rintro e w4 ⟨rfl, hb⟩
  replace HB := below_on HB hb
  replace RA := row_on RA hb
  replace RB := row_on RB hb
  replace RC := row_on RC hb
  clear p0 p1 p2 p3 p4 q0 q1 q2 q3 q4 r0 r1 r2 r3 r4 hb
  obtain ⟨p0, p1, p2, p3, p4⟩ := five_cells RA.out
  obtain ⟨q0, q1, q2, q3, q4⟩ := five_cells RB.out
  obtain ⟨r0, r1, r2, r3, r4⟩ := five_cells RC.out
  go_wp2_with fail
  refine (vcmp_at r rk b1 b2 c1 c2 HR.out HRK.out _).mono ?_
  rintro e w4 ⟨rfl, hb⟩
  replace HB := below_on HB hb
  replace RA := row_on RA hb
  replace RB := row_on RB hb
  replace RC := row_on RC hb
  clear p0 p1 p2 p3 p4 q0 q1 q2 q3 q4 r0 r1 r2 r3 r4 hb
  obtain ⟨p0, p1, p2, p3, p4⟩ := five_cells RA.out
  obtain ⟨q0, q1, q2, q3, q4⟩ := five_cells RB.out
  obtain ⟨r0, r1, r2, r3, r4⟩ := five_cells RC.out
  go_wp2_with fail
  refine (vcmp_at s sk a1 a2 c1 c2 HS.out HSK.out _).mono ?_
  rintro e w4 ⟨rfl, hb⟩
  replace HB := below_on HB hb
  replace RA := row_on RA hb
  replace RB := row_on RB hb
  replace RC := row_on RC hb
  clear p0 p1 p2 p3 p4 q0 q1 q2 q3 q4 r0 r1 r2 r3 r4 hb
  obtain ⟨p0, p1, p2, p3, p4⟩ := five_cells RA.out
  obtain ⟨q0, q1, q2, q3, q4⟩ := five_cells RB.out
  obtain ⟨r0, r1, r2, r3, r4⟩ := five_cells RC.out
  clear HP HR HS HPK HRK HSK HT
  go_wp2_with fail
  refine (vknown_any _).mono ?_
  rintro e w4 ⟨rfl, hb⟩
  replace HB := below_on HB hb
  replace RA := row_on RA hb
  replace RB := row_on RB hb
  clear p0 p1 p2 p3 p4 q0 q1 q2 q3 q4 r0 r1 r2 r3 r4 hb RC
  obtain ⟨p0, p1, p2, p3, p4⟩ := five_cells RA.out
  obtain ⟨q0, q1, q2, q3, q4⟩ := five_cells RB.out
  have T := HO.out
  clear HO
  rcases T with ⟨_, _, _, _, _, h⟩ | ⟨_, _, _, _, h⟩ | _ | _ | _ | _ | _ | _ | _ | _ | _
  case' no => rcases h with rfl | rfl | rfl
  case' half => rcases h with rfl | rfl | rfl
  all_goals
    go_wp2_with fail
    refine (vis_at _ a1 a2 b1 b2 HI.out _).mono ?_
    rintro e w5 ⟨rfl, hb⟩
    replace HB := below_on HB hb
    clear hb
    go_wp2_with fail
    go_ret
    exact ⟨rfl, HB.out⟩

theorem vorder_below (w : World) (A : Option Addr) (len cap : Nat) (zs : List Int) (hr : IsRow .i64 w A len cap zs) :
    Calls Try.prog 5 #[.slice A len cap] w fun e w' => e = .returned (.bool true) ∧ Below w.heap.size w w' :=
  vorder_walk A len cap w hr.draws
end Go.Proofs.Ytheompihapmmpaa
