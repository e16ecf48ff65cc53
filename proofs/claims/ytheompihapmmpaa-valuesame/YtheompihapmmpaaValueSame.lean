
/- ValueSame: the walk. -/
import Derived.Test.YtheompihapmmpaaValueOrder
import Derived.Test.YtheompihapmmpaaLater
import Derived.Test.YtheompihapmmpaaOpenVal
namespace Go.Proofs.Ytheompihapmmpaa
open Go.RowKit

theorem Draws.up {B B' : Nat} {w : World} {L : Option Addr} {n : Nat} (h : Draws B w L n) (hB : B ≤ B') : Draws B' w L n :=
  ⟨h.1, fun hn => by obtain ⟨rb, ro, e, hrb, hc⟩ := h.2 hn; exact ⟨rb, ro, e, Nat.lt_of_lt_of_le hrb hB, hc⟩⟩

namespace Vl
inductive SameWays (p q : Int) (pk qk sb ib ia : Bool) : Prop where
  | same (hp : p = q) (hk : pk = qk) (hs : sb = true) (hi : ib = ia)
  | is (hp : p = q) (hk : pk = qk) (hs : sb = false) (hi : ib = true)
  | no (hs : sb = false) (hi : ib = false)
theorem sameWays (a b c : Val) : SameWays (cmp a c) (cmp b c) (ok a c) (ok b c) (same a b) (is a b) (is a a) := by
  cases hs : same a b
  · cases hi : is a b
    · exact .no rfl rfl
    · exact .is (is_like hi c).1 (is_like hi c).2 rfl rfl
  · exact .same (same_like hs c).1 (same_like hs c).2 rfl (same_is hs)
inductive KindWays (ak : Int) (ax : Nat) (ia : Bool) : Prop where
  | other (h : (ak != 2) = true) (hi : ia = true)
  | num (h : ak = 2) (ho : (FloatKind.f64.format.order ax ax == some .eq) = true) (hi : ia = true)
  | nan (h : ak = 2) (ho : (FloatKind.f64.format.order ax ax == some .eq) = false) (hi : ia = false)
theorem kindWays {a : Val} (hr : right a = true) : KindWays a.k a.x (is a a) := by
  have h := is_self hr
  have ho := Fl.ord_self' a.x
  by_cases hk : a.k = 2
  · cases hn : Fl.nan a.x
    · exact .num hk (by rw [ho, hn]; rfl) (by rw [h, hn]; simp)
    · exact .nan hk (by rw [ho, hn]; rfl) (by rw [h, hn, hk]; rfl)
  · exact .other (by simp [hk]) (by rw [h]; simp [hk])
end Vl

set_option maxRecDepth 100000 in
set_option maxHeartbeats 8000000 in
theorem vsamelaw_walk (A : Option Addr) (len cap : Nat) (xk xn : Int) (xx : Nat) (xz : ByteArray) (xb : Bool) (w : World) (hd : Draws w.heap.size w A len) :
    Calls Try.prog 6 #[.slice A len cap, vl xk xn xx xz xb] w fun e w' => e = .returned (.bool true) ∧ Below w.heap.size w w' := by
  have hd1 : Draws (w.alloc (cell5 24 xk xn xx xz xb)).heap.size (w.alloc (cell5 24 xk xn xx xz xb)) A len := (hd.kept (S := fun _ => False) (Kept.alloc _ w _) (Nat.le_refl _) (fun _ _ => id)).up (by simp)
  have hf0 := feed_new (cap := cap) hd1 39
  rw [show (w.alloc (cell5 24 xk xn xx xz xb)).heap.size = w.heap.size + 1 by simp] at hf0
  have hF0 := Lib.hid hf0
  clear hf0
  have HR0 := Lib.hid (heap_alloc_new w (cell5 24 xk xn xx xz xb))
  have HB0 := Lib.hid (one_new w (cell5 24 xk xn xx xz xb))
  clear hd hd1
  have hst := store_float
  go_enter Try.func6, Try.ntmps6
  go_wp2_with fail
  refine (feedvalue_any _ (by omega) hF0.out).mono ?_
  rintro e w1 ⟨ak, an, ax, az, ab, a1, a2, -, ra, rfl, hF1, hK1⟩
  have HF1 := Lib.hid hF1
  have HK1 := Lib.hid hK1
  have HRA := Lib.hid ra
  clear hF1 hK1 hF0 ra
  go_wp2_with fail
  refine (feedvalue_any _ (by omega) HF1.out).mono ?_
  rintro e w2 ⟨bk, bn, bx, bz, bb, b1, b2, -, -, rfl, hF2, hK2⟩
  have HF2 := Lib.hid hF2
  have HK2 := Lib.hid hK2
  clear hF2 hK2 HF1
  go_wp2_with fail
  refine (feedvalue_any _ (by omega) HF2.out).mono ?_
  rintro e w3 ⟨ck, cn, cx, cz, cb, c1, c2, -, -, rfl, hF3, hK3⟩
  have HB : Hid (Below w.heap.size w w3) := by
    have k := (((Kept.alloc (· = w.heap.size + 1) (w.alloc (cell5 24 xk xn xx xz xb)) _).then HK1.out).then HK2.out).then hK3
    exact HB0.out.trans (k.below (by simp) (fun i hi e => by omega))
  have RX : Hid (w3.heap[w.heap.size]? = some (cell5 24 xk xn xx xz xb)) := by
    have k := (((Kept.alloc (· = w.heap.size + 1) (w.alloc (cell5 24 xk xn xx xz xb)) _).then HK1.out).then HK2.out).then hK3
    exact k.row HR0.out (by show ¬ w.heap.size = w.heap.size + 1; omega)
  clear hF3 hK3 HF2 HK1 HK2 HR0 HB0
  go_upto_region 3 with fail
  have R := three_rows w3 (cell5 24 ak an ax az ab) (cell5 24 bk bn bx bz bb) (cell5 24 ck cn cx cz cb)
  have HB2 : Hid (Below w.heap.size w (((w3.alloc (cell5 24 ak an ax az ab)).alloc (cell5 24 bk bn bx bz bb)).alloc (cell5 24 ck cn cx cz cb))) := HB.out.trans (below_sub R.2.2.2 HB.out.size)
  replace RX := row_on RX R.2.2.2
  have RA := Lib.hid R.1
  have RB := Lib.hid R.2.1
  have RC := Lib.hid R.2.2.1
  clear R HB hst
  replace HB := HB2
  clear HB2
  generalize ((w3.alloc (cell5 24 ak an ax az ab)).alloc (cell5 24 bk bn bx bz bb)).alloc (cell5 24 ck cn cx cz cb) = W at HB RA RB RC RX ⊢
  generalize w3.heap.size = g at RA RB RC ⊢
  generalize w.heap.size = gx at RX ⊢
  obtain ⟨p0, p1, p2, p3, p4⟩ := five_cells RA.out
  obtain ⟨q0, q1, q2, q3, q4⟩ := five_cells RB.out
  obtain ⟨r0, r1, r2, r3, r4⟩ := five_cells RC.out
  have T := Vl.sameWays ⟨ak, an, ax, az, ab⟩ ⟨bk, bn, bx, bz, bb⟩ ⟨ck, cn, cx, cz, cb⟩
  have KW := Vl.kindWays HRA.out
  generalize hp : Vl.cmp ⟨ak, an, ax, az, ab⟩ ⟨ck, cn, cx, cz, cb⟩ = p at T
  generalize hq : Vl.cmp ⟨bk, bn, bx, bz, bb⟩ ⟨ck, cn, cx, cz, cb⟩ = q at T
  generalize hpk : Vl.ok ⟨ak, an, ax, az, ab⟩ ⟨ck, cn, cx, cz, cb⟩ = pk at T
  generalize hqk : Vl.ok ⟨bk, bn, bx, bz, bb⟩ ⟨ck, cn, cx, cz, cb⟩ = qk at T
  generalize hsb : Vl.same ⟨ak, an, ax, az, ab⟩ ⟨bk, bn, bx, bz, bb⟩ = sb at T
  generalize hib : Vl.is ⟨ak, an, ax, az, ab⟩ ⟨bk, bn, bx, bz, bb⟩ = ib at T
  generalize hia : Vl.is ⟨ak, an, ax, az, ab⟩ ⟨ak, an, ax, az, ab⟩ = ia at T KW
  have HSB := Lib.hid hsb
  have HBS : Hid (Vl.same ⟨bk, bn, bx, bz, bb⟩ ⟨ak, an, ax, az, ab⟩ = sb) := (Vl.same_comm _ _).trans hsb
  have HIB := Lib.hid hib
  have HIA := Lib.hid hia
  have HP := Lib.hid hp
  have HQ := Lib.hid hq
  have HPK := Lib.hid hpk
  have HQK := Lib.hid hqk
  have HT := Lib.hid T
  have HKW := Lib.hid KW
  clear hp hq hpk hqk hsb hib hia T KW
  go_wp2_with fail
  refine (vcmp_at p pk a1 a2 c1 c2 HP.out HPK.out _).mono ?_
  rintro e w4 ⟨rfl, hb⟩
  replace HB := below_on HB hb
  replace RX := row_on RX hb
  replace RA := row_on RA hb
  replace RB := row_on RB hb
  replace RC := row_on RC hb
  clear p0 p1 p2 p3 p4 q0 q1 q2 q3 q4 r0 r1 r2 r3 r4 hb
  obtain ⟨p0, p1, p2, p3, p4⟩ := five_cells RA.out
  obtain ⟨q0, q1, q2, q3, q4⟩ := five_cells RB.out
  obtain ⟨r0, r1, r2, r3, r4⟩ := five_cells RC.out
  go_wp2_with fail
  refine (vcmp_at q qk b1 b2 c1 c2 HQ.out HQK.out _).mono ?_
  rintro e w5 ⟨rfl, hb⟩
  replace HB := below_on HB hb
  replace RX := row_on RX hb
  replace RA := row_on RA hb
  replace RB := row_on RB hb
  replace RC := row_on RC hb
  clear p0 p1 p2 p3 p4 q0 q1 q2 q3 q4 r0 r1 r2 r3 r4 hb
  obtain ⟨p0, p1, p2, p3, p4⟩ := five_cells RA.out
  obtain ⟨q0, q1, q2, q3, q4⟩ := five_cells RB.out
  obtain ⟨r0, r1, r2, r3, r4⟩ := five_cells RC.out
  clear HP HQ HPK HQK RC r0 r1 r2 r3 r4
  obtain ⟨r0, r1, r2, r3, r4⟩ := five_cells RX.out
  have HXX := Lib.hid (Vl.same_self ⟨xk, xn, xx, xz, xb⟩)
  have HAA := Lib.hid (Vl.same_self ⟨ak, an, ax, az, ab⟩)
  clear RX RA RB
  go_upto_region 5 with fail
  have lp0 := fun x : Later w5 => later_cell p0 x
  have lp1 := fun x : Later w5 => later_cell p1 x
  have lp2 := fun x : Later w5 => later_cell p2 x
  have lp3 := fun x : Later w5 => later_cell p3 x
  have lp4 := fun x : Later w5 => later_cell p4 x
  have lq0 := fun x : Later w5 => later_cell q0 x
  have lq1 := fun x : Later w5 => later_cell q1 x
  have lq2 := fun x : Later w5 => later_cell q2 x
  have lq3 := fun x : Later w5 => later_cell q3 x
  have lq4 := fun x : Later w5 => later_cell q4 x
  have lr0 := fun x : Later w5 => later_cell r0 x
  have lr1 := fun x : Later w5 => later_cell r1 x
  have lr2 := fun x : Later w5 => later_cell r2 x
  have lr3 := fun x : Later w5 => later_cell r3 x
  have lr4 := fun x : Later w5 => later_cell r4 x
  clear p0 p1 p2 p3 p4 q0 q1 q2 q3 q4 r0 r1 r2 r3 r4
  haveI := later_some w5
  refine wp_region_later (W := w5) (by kernel_rfl) (by kernel_rfl) (Below.refl _ _) ?_
  repeat (go_big_quiet_step (first | (go_at_call 20; exact calls_later (vknown_any _)) | (go_at_call 15; exact calls_later (vsame_at _ (by first | with_reducible exact HXX.out | with_reducible exact HAA.out | with_reducible exact HSB.out | with_reducible exact HBS.out) _)) | (go_at_call 16; exact calls_later (vright_at true HRA.out _))))
  refine wpQuiet_nil ?_
  rintro _ ⟨x, rfl⟩
  clear HXX HAA HBS HRA lr0 lr1 lr2 lr3 lr4
  have K2 := HKW.out
  clear HKW
  rcases K2 with ⟨h, hi⟩ | ⟨h, ho, hi⟩ | ⟨h, ho, hi⟩
  case' num => (replace h : ak = 2 := h; subst h)
  case' nan => (replace h : ak = 2 := h; subst h)
  all_goals
    subst hi
    go_upto_region 7 with fail
    refine wp_region_later (W := w5) (by kernel_rfl) (by kernel_rfl) x.below ?_
    repeat (go_big_quiet_step (first | (go_at_call 14; exact calls_later (vis_at _ (by first | exact a1 | exact b1) (by first | exact a2 | exact b2) (by first | exact a1 | exact b1) (by first | exact a2 | exact b2) (by first | with_reducible exact HIA.out | with_reducible exact HIB.out) _))))
    refine wpQuiet_nil ?_
    rintro _ ⟨y, rfl⟩
    have T := HT.out
    clear HT
    rcases T with ⟨hp, hk, hs, hi⟩ | ⟨hp, hk, hs, hi⟩ | ⟨hs, hi⟩
    case' same => (subst hp; subst hk; subst hs; subst hi)
    case' is => (subst hp; subst hk; subst hs; subst hi)
    case' no => (subst hs; subst hi)
    all_goals
      go_upto_region 11 with (first | (go_at_call 14; refine (calls_later (vis_at _ a1 a2 b1 b2 HIB.out _)).mono ?_; rintro e wx ⟨rfl, z, rfl⟩))
      refine wp_region_later (W := w5) (by kernel_rfl) (by kernel_rfl) (Later.below _) ?_
      repeat (go_big_quiet_step (first | (go_at_call 14; exact calls_later (vis_at _ (by first | exact a1 | exact b1) (by first | exact a2 | exact b2) (by first | exact a1 | exact b1) (by first | exact a2 | exact b2) (by first | with_reducible exact HIA.out | with_reducible exact HIB.out) _)) | (go_at_call 15; exact calls_later (vsame_at _ (by with_reducible exact HSB.out) _))))
      refine wpQuiet_nil ?_
      rintro _ ⟨z, rfl⟩
      go_wp2_with fail
      go_ret
      exact ⟨rfl, (below_on HB z.below).out⟩

theorem vsame_below (w : World) (A : Option Addr) (len cap : Nat) (zs : List Int) (hr : IsRow .i64 w A len cap zs) (xk xn : Int) (xx : Nat) (xz : ByteArray) (xb : Bool) (_ : IsVal xk xn xx xz) :
    Calls Try.prog 6 #[.slice A len cap, vl xk xn xx xz xb] w fun e w' => e = .returned (.bool true) ∧ Below w.heap.size w w' :=
  vsamelaw_walk A len cap xk xn xx xz xb w hr.draws
end Go.Proofs.Ytheompihapmmpaa
