
/- ValueTells: the walk. -/
import Derived.Test.YtheompihapmmpaaValueSame
import Derived.Test.YtheompihapmmpaaRefVal
namespace Go.Proofs.Ytheompihapmmpaa
open Go.RowKit

/-- A new Feed, in whatever world, of a row below B. -/
theorem feed_new_at {B : Nat} {w : World} {a : Option Addr} {len cap : Nat} (h : Draws B w a len) (hB : B ≤ w.heap.size) (t : TypeId) : IsFeed B (w.alloc (.cells #[.slice a len cap, .int .i64 0] t)) w.heap.size 0 := by
  refine ⟨hB, a, len, cap, 0, Nat.le_refl _, by simp, by simp, by simp, ?_⟩
  exact h.kept (S := fun _ => False) (Kept.alloc _ w _) hB (fun _ _ => id)

/-- Two values in blocks g and g + 1, a Feed in g + 2. -/
def TwoAt (g : Nat) (t : TypeId) (m : Nat) (w wx : World) : Prop :=
  ∃ (ak an : Int) (ax : Nat) (az : ByteArray) (ab : Bool) (bk bn : Int) (bx : Nat) (bz : ByteArray) (bb : Bool),
    (-9223372036854775808 ≤ an ∧ an ≤ 9223372036854775807) ∧ (-9223372036854775808 ≤ bn ∧ bn ≤ 9223372036854775807) ∧
    Row5 wx g t ak an ax az ab ∧ Row5 wx (g + 1) t bk bn bx bz bb ∧ IsFeed g wx (g + 1 + 1) m ∧ Below g w wx

theorem two_set {g m : Nat} {t : TypeId} {w w3 : World} {o1 o2 o3 o4 o5 p1 p2 p3 p4 p5 : Value} (ak an : Int) (ax : Nat) (az : ByteArray) (ab : Bool) (bk bn : Int) (bx : Nat) (bz : ByteArray) (bb : Bool)
    (a1 : -9223372036854775808 ≤ an) (a2 : an ≤ 9223372036854775807) (b1 : -9223372036854775808 ≤ bn) (b2 : bn ≤ 9223372036854775807)
    (hg : w3.heap[g]? = some (.cells #[o1, o2, o3, o4, o5] t (0, 0))) (hh : w3.heap[g + 1]? = some (.cells #[p1, p2, p3, p4, p5] t (0, 0))) (hF : IsFeed g w3 (g + 1 + 1) m) (hB : Below g w w3) (hs : g ≤ w3.heap.size) :
    TwoAt g t m w (set5 (set5 w3 g (.int .i64 ak) (.int .i64 an) (.float .f64 ax) (.string az) (.bool ab)) (g + 1) (.int .i64 bk) (.int .i64 bn) (.float .f64 bx) (.string bz) (.bool bb)) := by
  have k1 := kept5 w3 g (.int .i64 ak) (.int .i64 an) (.float .f64 ax) (.string az) (.bool ab)
  have r1 := row5 (.int .i64 ak) (.int .i64 an) (.float .f64 ax) (.string az) (.bool ab) hg
  have r2 := k1.row hh (by show ¬ g + 1 = g; omega)
  have f1 := hF.kept k1 (by show ¬ g + 1 + 1 = g; omega) (fun i hi e => by omega)
  have s1 := k1.size
  have l1 := k1.below hs (fun i hi e => by omega)
  generalize set5 w3 g (.int .i64 ak) (.int .i64 an) (.float .f64 ax) (.string az) (.bool ab) = w4 at k1 r1 r2 f1 s1 l1 ⊢
  have k2 := kept5 w4 (g + 1) (.int .i64 bk) (.int .i64 bn) (.float .f64 bx) (.string bz) (.bool bb)
  have l2 := k2.below (B := g) (by omega) (fun i hi e => by omega)
  exact ⟨ak, an, ax, az, ab, bk, bn, bx, bz, bb, ⟨a1, a2⟩, ⟨b1, b2⟩, k2.row r1 (by show ¬ g = g + 1; omega), row5 _ _ _ _ _ r2, f1.kept k2 (by show ¬ g + 1 + 1 = g + 1; omega) (fun i hi e => by omega), (hB.trans l1).trans l2⟩
theorem one_set {g m : Nat} {t : TypeId} {w w3 : World} {p1 p2 p3 p4 p5 : Value} (ak an : Int) (ax : Nat) (az : ByteArray) (ab : Bool)
    (a1 : -9223372036854775808 ≤ an) (a2 : an ≤ 9223372036854775807)
    (hg : Row5 w3 g t ak an ax az ab) (hh : w3.heap[g + 1]? = some (.cells #[p1, p2, p3, p4, p5] t (0, 0))) (hF : IsFeed g w3 (g + 1 + 1) m) (hB : Below g w w3) (hs : g ≤ w3.heap.size) :
    TwoAt g t m w (set5 w3 (g + 1) (.int .i64 ak) (.int .i64 an) (.float .f64 ax) (.string az) (.bool ab)) := by
  have k2 := kept5 w3 (g + 1) (.int .i64 ak) (.int .i64 an) (.float .f64 ax) (.string az) (.bool ab)
  have l2 := k2.below (B := g) (by omega) (fun i hi e => by omega)
  exact ⟨ak, an, ax, az, ab, ak, an, ax, az, ab, ⟨a1, a2⟩, ⟨a1, a2⟩, k2.row hg (by show ¬ g = g + 1; omega), row5 _ _ _ _ _ hh, hF.kept k2 (by show ¬ g + 1 + 1 = g + 1; omega) (fun i hi e => by omega), hB.trans l2⟩

theorem four_rows (w : World) (A B C D : Obj) : ((((w.alloc A).alloc B).alloc C).alloc D).heap[w.heap.size]? = some A ∧ ((((w.alloc A).alloc B).alloc C).alloc D).heap[w.heap.size + 1]? = some B ∧ ((((w.alloc A).alloc B).alloc C).alloc D).heap[w.heap.size + 1 + 1]? = some C ∧ ((((w.alloc A).alloc B).alloc C).alloc D).heap[w.heap.size + 1 + 1 + 1]? = some D ∧ Below w.heap.size w ((((w.alloc A).alloc B).alloc C).alloc D) := by
  obtain ⟨h1, h2, h3, h4⟩ := three_rows w A B C
  have s3 : (((w.alloc A).alloc B).alloc C).heap.size = w.heap.size + 1 + 1 + 1 := by simp
  generalize ((w.alloc A).alloc B).alloc C = W at *
  refine ⟨?_, ?_, ?_, ?_, ?_⟩
  · rw [heap_alloc_old _ _ (by omega)]; exact h1
  · rw [heap_alloc_old _ _ (by omega)]; exact h2
  · rw [heap_alloc_old _ _ (by omega)]; exact h3
  · rw [← s3]; exact heap_alloc_new _ _
  · exact h4.alloc (by omega) _
theorem rvsame_self (k n : Int) (x : Nat) (s : ByteArray) (b : Bool) (w : World) : Calls Try.prog 22 #[vl k n x s b, vl k n x s b] w fun e w' => e = .returned (.bool true) ∧ Below w.heap.size w w' := by
  have h := rvsame_any k n x s b k n x s b w
  rw [Vl.same_self] at h
  exact h

set_option maxRecDepth 100000 in
set_option maxHeartbeats 8000000 in
theorem vtells_walk (ak an : Int) (ax : Nat) (az : ByteArray) (ab : Bool) (bk bn : Int) (bx : Nat) (bz : ByteArray) (bb : Bool) (A : Option Addr) (len cap : Nat) (n : Int) (x : Nat) (s : ByteArray) (t : Bool)
    (a1 : -9223372036854775808 ≤ an) (a2 : an ≤ 9223372036854775807) (b1 : -9223372036854775808 ≤ bn) (b2 : bn ≤ 9223372036854775807) (w : World) (hd : Draws w.heap.size w A len) :
    Calls Try.prog 4 #[vl ak an ax az ab, vl bk bn bx bz bb, .slice A len cap, .int .i64 n, .float .f64 x, .string s, .bool t] w fun e w' => e = .returned (.bool true) ∧ Below w.heap.size w w' := by
  have hd1 : Draws w.heap.size ((w.alloc (cell5 24 ak an ax az ab)).alloc (cell5 24 bk bn bx bz bb)) A len :=
    hd.kept (S := fun _ => False) (Kept.ofBelow (two_new w _ _)) (Nat.le_refl _) (fun _ _ => id)
  have e2 : ((w.alloc (cell5 24 ak an ax az ab)).alloc (cell5 24 bk bn bx bz bb)).heap.size = w.heap.size + 1 + 1 := by simp
  have hf0 := feed_new_at (cap := cap) hd1 (by omega) 39
  rw [e2] at hf0
  have hF0 := Lib.hid hf0
  have HR := Lib.hid (three_rows w (cell5 24 ak an ax az ab) (cell5 24 bk bn bx bz bb) (.cells #[.slice A len cap, .int .i64 0] 39))
  clear hf0 hd hd1 e2
  have hst := store_float
  go_enter Try.func4, Try.ntmps4
  go_upto_region 2 with fail
  generalize ((w.alloc (cell5 24 ak an ax az ab)).alloc (cell5 24 bk bn bx bz bb)).alloc (.cells #[.slice A len cap, .int .i64 0] 39) = W at hF0 HR ⊢
  generalize hg : w.heap.size = g at hF0 HR ⊢
  have HG := Lib.hid hg
  clear hg
  go_wp2_with fail
  refine (next_any 2 (by omega) (by omega) _ (by omega) hF0.out).mono ?_
  rintro e w1 ⟨k, hk, rfl, hF1, hK1, hs1⟩
  have H1 : Hid (Row5 w1 g 24 ak an ax az ab ∧ Row5 w1 (g + 1) 24 bk bn bx bz bb ∧ IsFeed g w1 (g + 1 + 1) 1 ∧ Below g w w1 ∧ g ≤ w1.heap.size) := by
    have l := hF1.lt
    have hW : g ≤ W.heap.size := by have := hF0.out.lt; omega
    exact ⟨hK1.row HR.out.1 (by show ¬ g = g + 1 + 1; omega), hK1.row HR.out.2.1 (by show ¬ g + 1 = g + 1 + 1; omega), hF1, HR.out.2.2.2.trans (hK1.below hW (fun i hi e => by omega)), by omega⟩
  clear hF1 hK1 hF0 hs1 HR
  have hk2 : k = 0 ∨ k = 1 := by omega
  clear hk
  go_upto_if 29 with fail
  go_cut [] (fun wx => TwoAt g 24 6 w wx)
  case first =>
    rcases hk2 with rfl | rfl
    · go_wp2_with fail
      go_meet
      exact ⟨ak, an, ax, az, ab, bk, bn, bx, bz, bb, ⟨a1, a2⟩, ⟨b1, b2⟩, H1.out.1, H1.out.2.1, H1.out.2.2.1.more (by omega), H1.out.2.2.2.1⟩
    · go_wp2_with fail
      refine (feedvalue_any _ (by omega) H1.out.2.2.1).mono ?_
      rintro e w2 ⟨ck, cn, cx, cz, cb, c1, c2, -, -, rfl, hF2, hK2⟩
      have HF2 := Lib.hid hF2
      have HK2 := Lib.hid hK2
      clear hF2 hK2
      go_wp2_with fail
      refine (feedvalue_any _ (by omega) HF2.out).mono ?_
      rintro e w3 ⟨dk, dn, dx, dz, db, d1, d2, -, -, rfl, hF3, hK3⟩
      have k := HK2.out.then hK3
      have HF3 := Lib.hid hF3
      have R1 := Lib.hid (k.row H1.out.1 (by show ¬ g = g + 1 + 1; omega))
      have R2 := Lib.hid (k.row H1.out.2.1 (by show ¬ g + 1 = g + 1 + 1; omega))
      have B3 : Hid (Below g w w3) := H1.out.2.2.2.1.trans (k.below H1.out.2.2.2.2 (fun i hi e => by omega))
      have S3 : Hid (g ≤ w3.heap.size) := by have := H1.out.2.2.2.2; have := k.size; exact (by omega : g ≤ w3.heap.size)
      clear hF3 hK3 k HF2 HK2 H1
      obtain ⟨p0, p1, p2, p3, p4, f0, f1, f2, f3, f4⟩ := five R1.out
      obtain ⟨q0, q1, q2, q3, q4, g0, g1, g2, g3, g4⟩ := five R2.out
      go_wp2_with fail
      go_meet
      exact two_set ck cn cx cz cb dk dn dx dz db c1 c2 d1 d2 R1.out R2.out (HF3.out.more (by omega)) B3.out S3.out
  case rest =>
    obtain ⟨ak, an, ax, az, ab, bk, bn, bx, bz, bb, ⟨a1, a2⟩, ⟨b1, b2⟩, hra, hrb, hF, hB⟩ := hcut
    have HA := Lib.hid hra
    have HBR := Lib.hid hrb
    have HF := Lib.hid hF
    have HB := Lib.hid hB
    clear hra hrb hF hB H1 hk2
    go_wp2_with fail
    refine (next_any 4 (by omega) (by omega) _ (by omega) HF.out).mono ?_
    rintro e w2 ⟨k, hk, rfl, hF2, hK2, hs2⟩
    have H2 : Hid (Row5 w2 g 24 ak an ax az ab ∧ Row5 w2 (g + 1) 24 bk bn bx bz bb ∧ IsFeed g w2 (g + 1 + 1) 7 ∧ Below g w w2 ∧ g ≤ w2.heap.size) := by
      have l := hF2.lt
      have hw1 := HF.out.lt
      exact ⟨hK2.row HA.out (by show ¬ g = g + 1 + 1; omega), hK2.row HBR.out (by show ¬ g + 1 = g + 1 + 1; omega), hF2, HB.out.trans (hK2.below (by omega) (fun i hi e => by omega)), by omega⟩
    clear hF2 hK2 HF HA HBR HB hs2 hk
    go_upto_if 36 with fail
    go_cut [] (fun wx => TwoAt g 24 7 w wx)
    case first =>
      obtain ⟨p0, p1, p2, p3, p4, f0, f1, f2, f3, f4⟩ := five H2.out.1
      obtain ⟨q0, q1, q2, q3, q4, g0, g1, g2, g3, g4⟩ := five H2.out.2.1
      by_cases h0 : k = 0
      · subst h0
        go_wp2_with fail
        go_meet
        exact one_set ak an ax az ab a1 a2 H2.out.1 H2.out.2.1 H2.out.2.2.1 H2.out.2.2.2.1 H2.out.2.2.2.2
      · have h0' : (k == 0) = false := by simpa using h0
        go_wp2_with fail
        go_meet
        exact ⟨ak, an, ax, az, ab, bk, bn, bx, bz, bb, ⟨a1, a2⟩, ⟨b1, b2⟩, H2.out.1, H2.out.2.1, H2.out.2.2.1, H2.out.2.2.2.1⟩
    case rest =>
      clear a1 a2 b1 b2 H2
      obtain ⟨ak, an, ax, az, ab, bk, bn, bx, bz, bb, ⟨a1, a2⟩, ⟨b1, b2⟩, hra, hrb, hF, hB⟩ := hcut
      obtain ⟨p0, p1, p2, p3, p4⟩ := five_cells hra
      obtain ⟨q0, q1, q2, q3, q4⟩ := five_cells hrb
      have HB : Hid (Below w.heap.size w wc) := by rw [HG.out]; exact hB
      clear hra hrb hF hB
      have lp0 := fun x : Later wc => later_cell p0 x
      have lp1 := fun x : Later wc => later_cell p1 x
      have lp2 := fun x : Later wc => later_cell p2 x
      have lp3 := fun x : Later wc => later_cell p3 x
      have lp4 := fun x : Later wc => later_cell p4 x
      have lq0 := fun x : Later wc => later_cell q0 x
      have lq1 := fun x : Later wc => later_cell q1 x
      have lq2 := fun x : Later wc => later_cell q2 x
      have lq3 := fun x : Later wc => later_cell q3 x
      have lq4 := fun x : Later wc => later_cell q4 x
      have H0 := later_some wc
      go_wp2_with fail
      refine (calls_later (x := ⟨wc, Below.refl _ _⟩) (vcmp_any ak an ax az ab bk bn bx bz bb a1 a2 b1 b2 _)).mono ?_
      rintro e w3 ⟨rfl, y3, rfl⟩
      clear p0 p1 p2 p3 p4 q0 q1 q2 q3 q4
      go_wp2_with fail
      refine (calls_later (rvcmp_any ak an ax az ab bk bn bx bz bb a1 a2 b1 b2 _)).mono ?_
      rintro e w3 ⟨rfl, y4, rfl⟩
      generalize Vl.cmp ⟨ak, an, ax, az, ab⟩ ⟨bk, bn, bx, bz, bb⟩ = c
      generalize Vl.ok ⟨ak, an, ax, az, ab⟩ ⟨bk, bn, bx, bz, bb⟩ = ok
      go_upto_region 8 with fail
      refine wp_region_later (W := wc) (by kernel_rfl) (by kernel_rfl) y4.below ?_
      repeat (go_big_quiet_step (first | (go_at_call 20; exact calls_later (vknown_any _)) | (go_at_call 16; exact calls_later (vright_any _ _ _ _ _ _)) | (go_at_call 21; exact calls_later (rvright_any _ _ _ _ _ _)) | (go_at_call 15; exact calls_later (vsame_any _ _ _ _ _ _ _ _ _ _ _)) | (go_at_call 22; exact calls_later (rvsame_any _ _ _ _ _ _ _ _ _ _ _)) | (go_at_call 14; exact calls_later (vis_any _ _ _ _ _ _ _ _ _ _ a1 a2 b1 b2 _)) | (go_at_call 23; exact calls_later (rvis_any _ _ _ _ _ _ _ _ _ _ a1 a2 b1 b2 _))))
      refine wpQuiet_nil ?_
      rintro _ ⟨y5, rfl⟩
      clear lp0 lp1 lp2 lp3 lp4 lq0 lq1 lq2 lq3 lq4 a1 a2 b1 b2
      go_upto_region 11 with (first | (go_at_call 10; refine (calls_later (vint_any _ _)).mono ?_; rintro e w3 ⟨rfl, y6, rfl⟩) | (go_at_call 7; refine (calls_later (vfloat_any _ _)).mono ?_; rintro e w3 ⟨rfl, y6, rfl⟩) | (go_at_call 12; refine (calls_later (vtext_any _ _)).mono ?_; rintro e w3 ⟨rfl, y6, rfl⟩) | (go_at_call 11; refine (calls_later (vbool_any _ _)).mono ?_; rintro e w3 ⟨rfl, y6, rfl⟩))
      have R := four_rows y6.at_ (cell5 24 1 n 0 ⟨#[]⟩ false) (cell5 24 2 0 x ⟨#[]⟩ false) (cell5 24 3 0 0 s false) (cell5 24 4 0 0 ⟨#[]⟩ t)
      have HB4 : Hid (Below w.heap.size w ((((y6.at_.alloc (cell5 24 1 n 0 ⟨#[]⟩ false)).alloc (cell5 24 2 0 x ⟨#[]⟩ false)).alloc (cell5 24 3 0 0 s false)).alloc (cell5 24 4 0 0 ⟨#[]⟩ t))) := below_on (below_on HB y6.below) R.2.2.2.2
      generalize (((y6.at_.alloc (cell5 24 1 n 0 ⟨#[]⟩ false)).alloc (cell5 24 2 0 x ⟨#[]⟩ false)).alloc (cell5 24 3 0 0 s false)).alloc (cell5 24 4 0 0 ⟨#[]⟩ t) = W4 at R HB4 ⊢
      generalize y6.at_.heap.size = h at R ⊢
      obtain ⟨p0, p1, p2, p3, p4⟩ := five_cells R.1
      obtain ⟨q0, q1, q2, q3, q4⟩ := five_cells R.2.1
      obtain ⟨r0, r1, r2, r3, r4⟩ := five_cells R.2.2.1
      obtain ⟨s0, s1, s2, s3, s4⟩ := five_cells R.2.2.2.1
      clear R HB hst
      have lp0 := fun x : Later W4 => later_cell p0 x
      have lp1 := fun x : Later W4 => later_cell p1 x
      have lp2 := fun x : Later W4 => later_cell p2 x
      have lp3 := fun x : Later W4 => later_cell p3 x
      have lp4 := fun x : Later W4 => later_cell p4 x
      have lq0 := fun x : Later W4 => later_cell q0 x
      have lq1 := fun x : Later W4 => later_cell q1 x
      have lq2 := fun x : Later W4 => later_cell q2 x
      have lq3 := fun x : Later W4 => later_cell q3 x
      have lq4 := fun x : Later W4 => later_cell q4 x
      have lr0 := fun x : Later W4 => later_cell r0 x
      have lr1 := fun x : Later W4 => later_cell r1 x
      have lr2 := fun x : Later W4 => later_cell r2 x
      have lr3 := fun x : Later W4 => later_cell r3 x
      have lr4 := fun x : Later W4 => later_cell r4 x
      have ls0 := fun x : Later W4 => later_cell s0 x
      have ls1 := fun x : Later W4 => later_cell s1 x
      have ls2 := fun x : Later W4 => later_cell s2 x
      have ls3 := fun x : Later W4 => later_cell s3 x
      have ls4 := fun x : Later W4 => later_cell s4 x
      go_wp2_with fail
      refine (calls_later (x := ⟨W4, Below.refl _ _⟩) (rvsame_self _ _ _ _ _ _)).mono ?_
      rintro e w3 ⟨rfl, y7, rfl⟩
      clear p0 p1 p2 p3 p4 q0 q1 q2 q3 q4 r0 r1 r2 r3 r4 s0 s1 s2 s3 s4
      go_wp2_with (first | (go_at_call 22; refine (calls_later (rvsame_self _ _ _ _ _ _)).mono ?_; rintro e w3 ⟨rfl, y8, rfl⟩))
      go_ret
      exact ⟨rfl, (below_on HB4 (Later.below _)).out⟩

theorem i64_of {n : Int} (h : (Lit.int .i64 n).wf = true) : -9223372036854775808 ≤ n ∧ n ≤ 9223372036854775807 := by
  simp only [Lit.wf, decide_eq_true_eq, Bool.and_eq_true] at h
  exact h

theorem vtells_below (w : World) (ak an : Int) (ax : Nat) (az : ByteArray) (ab : Bool) (ha : IsVal ak an ax az) (bk bn : Int) (bx : Nat) (bz : ByteArray) (bb : Bool) (hb : IsVal bk bn bx bz) (A : Option Addr) (len cap : Nat) (zs : List Int) (hr : IsRow .i64 w A len cap zs)
    (n : Int) (_ : (Lit.int .i64 n).wf = true) (x : Nat) (_ : (Lit.float .f64 x).wf = true) (s : ByteArray) (_ : s.size ≤ 140737488351232) (t : Bool) :
    Calls Try.prog 4 #[vl ak an ax az ab, vl bk bn bx bz bb, .slice A len cap, .int .i64 n, .float .f64 x, .string s, .bool t] w fun e w' => e = .returned (.bool true) ∧ Below w.heap.size w w' :=
  vtells_walk ak an ax az ab bk bn bx bz bb A len cap n x s t (i64_of ha.num).1 (i64_of ha.num).2 (i64_of hb.num).1 (i64_of hb.num).2 w hr.draws
end Go.Proofs.Ytheompihapmmpaa
