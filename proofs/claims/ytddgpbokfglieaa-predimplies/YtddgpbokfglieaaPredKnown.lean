
/- PredKnown: the walk. -/
import Derived.Test.YtddgpbokfglieaaPrd6
import Derived.Test.YtddgpbokfglieaaPredTest
namespace Go.Proofs.Ytddgpbokfglieaa
open Go.RowKit
set_option linter.unusedVariables false

theorem kt {p : Prd} {A : Option Addr} {n c : Nat} {v : Val} {b : Bool} {W : World} (hp : IsPrd W p A n) (hv : Fit v) (h : (Pd.right p && Pd.takes p v) = b) (x : Later W) : Calls Try.prog 11 #[pv p A n c, vlv v] x.at_ fun e w' => e = .returned (.bool b) ∧ ∃ y : Later W, w' = y.at_ := h ▸ calls_later (ptakes_any (hp.later x.below) hv)
theorem ki {q p : Prd} {A B : Option Addr} {n c m d : Nat} {b : Bool} {W : World} (hq : IsPrd W q A n) (hp : IsPrd W p B m) (h : Pd.implies q p = b) (x : Later W) : Calls Try.prog 13 #[pv q A n c, pv p B m d] x.at_ fun e w' => e = .returned (.bool b) ∧ ∃ y : Later W, w' = y.at_ := h ▸ calls_later (implies_any (hq.later x.below) (hp.later x.below))
theorem kv {p : Prd} {A : Option Addr} {n c : Nat} {b : Bool} {W : World} (hp : IsPrd W p A n) (h : (Pd.right p && Pd.void p) = b) (x : Later W) : Calls Try.prog 14 #[pv p A n c] x.at_ fun e w' => e = .returned (.bool b) ∧ ∃ y : Later W, w' = y.at_ := h ▸ calls_later (pvoid_any (hp.later x.below))
theorem kr {p : Prd} {A : Option Addr} {n c : Nat} {b : Bool} {W : World} (hp : IsPrd W p A n) (h : Pd.right p = b) (x : Later W) : Calls Try.prog 15 #[pv p A n c] x.at_ fun e w' => e = .returned (.bool b) ∧ ∃ y : Later W, w' = y.at_ := h ▸ calls_later (pright_any (hp.later x.below))

namespace Kn
abbrev nan : Val := ⟨2, 0, 9221120237041090561, ⟨#[]⟩, false⟩
abbrev int (n : Int) : Val := ⟨1, n, 0, ⟨#[]⟩, false⟩
abbrev flt (x : Nat) : Val := ⟨2, 0, x, ⟨#[]⟩, false⟩
abbrev txt (s : ByteArray) : Val := ⟨3, 0, 0, s, false⟩
abbrev z : Val := ⟨0, 0, 0, ⟨#[]⟩, false⟩
abbrev void : Prd := ⟨⟨#[97]⟩, 8, int 5, int 4, []⟩
abbrev set : Prd := ⟨⟨#[97]⟩, 10, z, z, [nan, int 3]⟩
theorem fnan : Fit nan := ⟨by decide, by decide, by decide⟩
theorem fz : Fit z := ⟨by decide, by decide, by decide⟩
theorem f3 : Fit (int 3) := ⟨by decide, by decide, by decide⟩
theorem f1 : Fit (int 1) := ⟨by decide, by decide, by decide⟩
theorem f35 : Fit (flt 4615063718147915776) := ⟨by decide, by decide, by decide⟩
theorem f30 : Fit (flt 4613937818241073152) := ⟨by decide, by decide, by decide⟩
theorem fa : Fit (txt ⟨#[97]⟩) := ⟨by decide, by decide, by decide⟩
theorem fab : Fit (txt ⟨#[97, 98]⟩) := ⟨by decide, by decide, by decide⟩
theorem isvoid (w : World) : IsPrd w void none 0 := ⟨by decide, ⟨by decide, by decide, by decide⟩, ⟨by decide, by decide, by decide⟩, Vs.nil _⟩
/-- What the examples' locals are, in each later world. -/
structure Here (W : World) (g1 g2 g3 gs g4 : Nat) : Prop where
  nan : VBox W g1 nan
  three : VBox W g2 (int 3)
  void : PBox W g3 void none 0 0
  set : PBox W g4 set (some ⟨gs, 0, none⟩) 2 2
  vs : Vs W (some ⟨gs, 0, none⟩) 2 [Kn.nan, int 3]
theorem Here.isset {W : World} {g1 g2 g3 gs g4 : Nat} (h : Here W g1 g2 g3 gs g4) : IsPrd W Kn.set (some ⟨gs, 0, none⟩) 2 := ⟨by decide, Pd.fit0, Pd.fit0, h.vs⟩
theorem two_fit : ∀ a, a ∈ [Kn.nan, int 3] → Fit a := by
  simp only [List.mem_cons, List.not_mem_nil, or_false]
  rintro a (rfl | rfl)
  · exact fnan
  · exact f3
theorem vs_two {w : World} {g : Nat} (h : w.heap[g]? = some (.cells #[.int .i64 2, .int .i64 0, .float .f64 9221120237041090561, .string ⟨#[]⟩, .bool false, .int .i64 1, .int .i64 3, .float .f64 0, .string ⟨#[]⟩, .bool false] 24 (0, 0))) : Vs w (some ⟨g, 0, none⟩) 2 [Kn.nan, int 3] := by
  refine ⟨⟨rfl, .inr ⟨g, 0, rfl, fun j u hj => ?_⟩⟩, two_fit, by omega⟩
  simp [World.cell?, h]
  exact hj
abbrev two : Obj := .cells #[.int .i64 2, .int .i64 0, .float .f64 9221120237041090561, .string ⟨#[]⟩, .bool false, .int .i64 1, .int .i64 3, .float .f64 0, .string ⟨#[]⟩, .bool false] 24 (0, 0)
theorem here_new {w : World} {g1 g2 g3 : Nat} (h1 : VBox w g1 Kn.nan) (h2 : VBox w g2 (int 3)) (h3 : PBox w g3 Kn.void none 0 0) : ∃ W, Below W.heap.size W ((w.alloc two).alloc (pbox Kn.set (some ⟨w.heap.size, 0, none⟩) 2 2)) ∧ Below w.heap.size w W ∧ Here W g1 g2 g3 w.heap.size (w.heap.size + 1) :=
  ⟨_, Below.refl _ _, two_new _ _ _, h1.next _ (two_new _ _ _), h2.next _ (two_new _ _ _), h3.next _ (two_new _ _ _), by have := pbox_new (w.alloc two) Kn.set (some ⟨w.heap.size, 0, none⟩) 2 2; rw [size_next] at this; exact this, (vs_two (heap_alloc_new w two)).later (one_new _ _)⟩
theorem Here.next {W W' : World} {g1 g2 g3 gs g4 : Nat} (h : Here W g1 g2 g3 gs g4) (k : Below W.heap.size W W') : Here W' g1 g2 g3 gs g4 := ⟨h.nan.next _ k, h.three.next _ k, h.void.next _ k, h.set.next _ k, h.vs.later k⟩
theorem texts_new {w : World} {g1 g2 g3 gs g4 : Nat} (h : Here w g1 g2 g3 gs g4) : ∃ W, Below W.heap.size W ((w.alloc (vbox (txt ⟨#[97]⟩))).alloc (vbox (txt ⟨#[97, 98]⟩))) ∧ Below w.heap.size w W ∧ Here W g1 g2 g3 gs g4 ∧ VBox W w.heap.size (txt ⟨#[97]⟩) ∧ VBox W (w.heap.size + 1) (txt ⟨#[97, 98]⟩) :=
  ⟨_, Below.refl _ _, two_new _ _ _, h.next (two_new _ _ _), (vbox_new _ _).next _ (one_new _ _), by have := vbox_new (w.alloc (vbox (txt ⟨#[97]⟩))) (txt ⟨#[97, 98]⟩); rw [size_next] at this; exact this⟩
end Kn

set_option pp.deepTerms true in
set_option pp.maxSteps 1000000 in
set_option maxRecDepth 100000 in
set_option maxHeartbeats 16000000 in
theorem pknown_any (w : World) : Calls Try.prog 3 #[] w fun e w' => e = .returned (.bool true) ∧ Below w.heap.size w w' := by
  have hst := store_float
  go_enter Try.func3, Try.ntmps3
  go_wp2_with (first | (go_at_call 9; refine (nan_any _).mono ?_; rintro e w' ⟨rfl, rfl⟩) | fail)
  refine (vfloat_any _ _).mono ?_
  rintro e w1 ⟨rfl, hb1⟩
  go_wp2_with fail
  refine (vint_any _ _).mono ?_
  rintro e w2 ⟨rfl, hb2⟩
  go_wp2_with fail
  refine (vint_any _ _).mono ?_
  rintro e w3 ⟨rfl, hb3⟩
  go_wp2_with fail
  refine (vint_any _ _).mono ?_
  rintro e w4 ⟨rfl, hb4⟩
  go_upto_region 4 with fail
  have HB := Lib.hid (below_then (below_then (below_then (below_then (below_then (below_then hb1 (one_new _ _)) hb2) (one_new _ _)) hb3) hb4) (one_new w4 (pbox Kn.void none 0 0)))
  have V1 := ((((((vbox_new w1 Kn.nan).next _ hb2).next _ (one_new w2 (vbox (Kn.int 3)))).next _ hb3).next _ hb4).next _ (one_new w4 (pbox Kn.void none 0 0)))
  have V2 := (((vbox_new w2 (Kn.int 3)).next _ hb3).next _ hb4).next _ (one_new w4 (pbox Kn.void none 0 0))
  have V3 := pbox_new w4 Kn.void none 0 0
  clear hb1 hb2 hb3 hb4
  generalize w4.alloc (.cells #[.string ⟨#[97]⟩, .int .i64 8, .int .i64 1, .int .i64 5, .float .f64 0, .string ⟨#[]⟩, .bool false, .int .i64 1, .int .i64 4, .float .f64 0, .string ⟨#[]⟩, .bool false, .slice none 0 0] 30) = W3 at HB V1 V2 V3 ⊢
  generalize w1.heap.size = g1 at V1 ⊢
  generalize w2.heap.size = g2 at V2 ⊢
  generalize w4.heap.size = g3 at V3 ⊢
  clear w4 w3 w2 w1
  have c0 : W3.cell? ⟨g1, 0, none⟩ = some (.int .i64 2) := V1.h0 ⟨_, Below.refl _ _⟩
  have c1 : W3.cell? ⟨g1, 1, none⟩ = some (.int .i64 0) := V1.h1 ⟨_, Below.refl _ _⟩
  have c2 : W3.cell? ⟨g1, 2, none⟩ = some (.float .f64 9221120237041090561) := V1.h2 ⟨_, Below.refl _ _⟩
  have c3 : W3.cell? ⟨g1, 3, none⟩ = some (.string ⟨#[]⟩) := V1.h3 ⟨_, Below.refl _ _⟩
  have c4 : W3.cell? ⟨g1, 4, none⟩ = some (.bool false) := V1.h4 ⟨_, Below.refl _ _⟩
  have d0 : W3.cell? ⟨g2, 0, none⟩ = some (.int .i64 1) := V2.h0 ⟨_, Below.refl _ _⟩
  have d1 : W3.cell? ⟨g2, 1, none⟩ = some (.int .i64 3) := V2.h1 ⟨_, Below.refl _ _⟩
  have d2 : W3.cell? ⟨g2, 2, none⟩ = some (.float .f64 0) := V2.h2 ⟨_, Below.refl _ _⟩
  have d3 : W3.cell? ⟨g2, 3, none⟩ = some (.string ⟨#[]⟩) := V2.h3 ⟨_, Below.refl _ _⟩
  have d4 : W3.cell? ⟨g2, 4, none⟩ = some (.bool false) := V2.h4 ⟨_, Below.refl _ _⟩
  go_upto_region 5 with fail
  clear c0 c1 c2 c3 c4 d0 d1 d2 d3 d4
  obtain ⟨W, hW1, hW, hH⟩ := Kn.here_new V1 V2 V3
  have HB := Lib.hid (below_then HB.out hW)
  have HW1 := Lib.hid hW1
  have H := Lib.hid hH
  clear hW1 hW hH V1 V2 V3
  generalize W3.heap.size = gs at H HW1 ⊢
  haveI := later_some W
  obtain ⟨a0, a1, a2, a3, a4⟩ := H.out.nan
  obtain ⟨b0, b1, b2, b3, b4⟩ := H.out.three
  obtain ⟨c0, c1, c2, c3, c4, c5, c6, c7, c8, c9, c10, c11, c12⟩ := H.out.void
  obtain ⟨d0, d1, d2, d3, d4, d5, d6, d7, d8, d9, d10, d11, d12⟩ := H.out.set
  have k0 := Lib.hid (kt (c := 0) (test_is (w := W) (t := 3) Kn.fnan) Kn.fnan (by decide +kernel : (Pd.right (Pd.test 3 (Kn.nan)) && Pd.takes (Pd.test 3 (Kn.nan)) (Kn.nan)) = true))
  have k1 := Lib.hid (ki (c := 0) (d := 0) (test_is (w := W) (t := 6) Kn.f3) (test_is (w := W) (t := 7) Kn.f3) (by decide +kernel : Pd.implies (Pd.test 6 (Kn.int 3)) (Pd.test 7 (Kn.int 3)) = true))
  have k2 := Lib.hid (ki (c := 0) (d := 0) (test_is (w := W) (t := 7) Kn.f3) (test_is (w := W) (t := 6) Kn.f3) (by decide +kernel : Pd.implies (Pd.test 7 (Kn.int 3)) (Pd.test 6 (Kn.int 3)) = false))
  have k3 := Lib.hid (ki (c := 0) (d := 0) (Kn.isvoid W) (test_is (w := W) (t := 2) Kn.f1) (by decide +kernel : Pd.implies Kn.void (Pd.test 2 (Kn.int 1)) = true))
  have k4 := Lib.hid (kv (c := 0) (Kn.isvoid W) (by decide +kernel : (Pd.right Kn.void && Pd.void Kn.void) = true))
  have k5 := Lib.hid (kv (c := 0) (test_is (w := W) (t := 5) Kn.fnan) (by decide +kernel : (Pd.right (Pd.test 5 (Kn.nan)) && Pd.void (Pd.test 5 (Kn.nan))) = true))
  have k6 := Lib.hid (kv (c := 2) H.out.isset (by decide +kernel : (Pd.right Kn.set && Pd.void Kn.set) = false))
  refine wp_region_later (W := W) (by kernel_rfl) (by kernel_rfl) HW1.out ?_
  repeat (go_big_quiet_step (first | (go_at_call 11; first | with_reducible exact k0.out _) | (go_at_call 13; first | with_reducible exact k1.out _ | with_reducible exact k2.out _ | with_reducible exact k3.out _) | (go_at_call 14; first | with_reducible exact k4.out _ | with_reducible exact k5.out _ | with_reducible exact k6.out _) | (go_at_call 12; exact test5) | (go_at_call 10; exact calls_later (vint_any _ _)) | (go_at_call 8; exact calls_later (vfloat_any _ _))))
  refine wpQuiet_nil ?_
  clear k0 k1 k2 k3 k4 k5 k6
  rintro _ ⟨x, rfl⟩
  clear HW1
  go_upto_region 7 with fail
  have k0 := Lib.hid (ki (c := 2) (d := 0) H.out.isset (test_is (w := W) (t := 4) Kn.f35) (by decide +kernel : Pd.implies Kn.set (Pd.test 4 (Kn.flt 4615063718147915776)) = true))
  have k1 := Lib.hid (kt (c := 2) H.out.isset Kn.fnan (by decide +kernel : (Pd.right Kn.set && Pd.takes Kn.set (Kn.nan)) = false))
  have k2 := Lib.hid (kt (c := 2) H.out.isset Kn.f30 (by decide +kernel : (Pd.right Kn.set && Pd.takes Kn.set (Kn.flt 4613937818241073152)) = true))
  have k3 := Lib.hid (ki (c := 0) (d := 2) (test_is (w := W) (t := 1) Kn.fz) H.out.isset (by decide +kernel : Pd.implies (Pd.test 1 (Kn.z)) Kn.set = false))
  have k4 := Lib.hid (kr (c := 0) (test_is (w := W) (t := 1) Kn.f3) (by decide +kernel : Pd.right (Pd.test 1 (Kn.int 3)) = false))
  have k5 := Lib.hid (kr (c := 0) (test_is (w := W) (t := 9) Kn.f3) (by decide +kernel : Pd.right (Pd.test 9 (Kn.int 3)) = false))
  refine wp_region_later (W := W) (by kernel_rfl) (by kernel_rfl) (Later.below _) ?_
  repeat (go_big_quiet_step (first | (go_at_call 11; first | with_reducible exact k1.out _ | with_reducible exact k2.out _) | (go_at_call 13; first | with_reducible exact k0.out _ | with_reducible exact k3.out _) | (go_at_call 15; first | with_reducible exact k4.out _ | with_reducible exact k5.out _) | (go_at_call 12; exact test5) | (go_at_call 10; exact calls_later (vint_any _ _)) | (go_at_call 8; exact calls_later (vfloat_any _ _))))
  refine wpQuiet_nil ?_
  clear k0 k1 k2 k3 k4 k5
  rintro _ ⟨x', rfl⟩
  go_wp2_with fail
  refine (calls_later (vtext_any _ _)).mono ?_
  rintro e _ ⟨rfl, y, rfl⟩
  go_wp2_with fail
  refine (calls_later (vtext_any _ _)).mono ?_
  rintro e _ ⟨rfl, y', rfl⟩
  go_upto_region 10 with fail
  clear a0 a1 a2 a3 a4 b0 b1 b2 b3 b4 c0 c1 c2 c3 c4 c5 c6 c7 c8 c9 c10 c11 c12 d0 d1 d2 d3 d4 d5 d6 d7 d8 d9 d10 d11 d12
  obtain ⟨W', hW1, hW, hH, hA, hAb⟩ := Kn.texts_new (H.out.next y'.below)
  have HB := Lib.hid (below_then (below_then HB.out y'.below) hW)
  have HW1 := Lib.hid hW1
  clear hW1 hW H
  have H := Lib.hid hH
  clear hH
  obtain ⟨a0, a1, a2, a3, a4⟩ := H.out.nan
  obtain ⟨b0, b1, b2, b3, b4⟩ := H.out.three
  obtain ⟨c0, c1, c2, c3, c4⟩ := hA
  obtain ⟨d0, d1, d2, d3, d4⟩ := hAb
  generalize y'.at_.heap.size = gt at c0 c1 c2 c3 c4 d0 d1 d2 d3 d4 ⊢
  haveI := later_some W'
  have k0 := Lib.hid (ki (c := 0) (d := 0) (test_is (w := W') (t := 9) Kn.fab) (test_is (w := W') (t := 9) Kn.fa) (by decide +kernel : Pd.implies (Pd.test 9 (Kn.txt ⟨#[97, 98]⟩)) (Pd.test 9 (Kn.txt ⟨#[97]⟩)) = true))
  have k1 := Lib.hid (ki (c := 0) (d := 0) (test_is (w := W') (t := 9) Kn.fa) (test_is (w := W') (t := 9) Kn.fab) (by decide +kernel : Pd.implies (Pd.test 9 (Kn.txt ⟨#[97]⟩)) (Pd.test 9 (Kn.txt ⟨#[97, 98]⟩)) = false))
  have k2 := Lib.hid (ki (c := 0) (d := 0) (test_is (w := W') (t := 9) Kn.fab) (test_is (w := W') (t := 6) Kn.fa) (by decide +kernel : Pd.implies (Pd.test 9 (Kn.txt ⟨#[97, 98]⟩)) (Pd.test 6 (Kn.txt ⟨#[97]⟩)) = true))
  have k3 := Lib.hid (ki (c := 0) (d := 0) (test_is (w := W') (t := 3) Kn.fnan) (test_is (w := W') (t := 3) Kn.fnan) (by decide +kernel : Pd.implies (Pd.test 3 (Kn.nan)) (Pd.test 3 (Kn.nan)) = true))
  have k4 := Lib.hid (ki (c := 0) (d := 0) (test_is (w := W') (t := 1) Kn.fz) (test_is (w := W') (t := 3) Kn.fnan) (by decide +kernel : Pd.implies (Pd.test 1 (Kn.z)) (Pd.test 3 (Kn.nan)) = false))
  have k5 := Lib.hid (kt (c := 0) (test_is (w := W') (t := 9) Kn.fa) Kn.fab (by decide +kernel : (Pd.right (Pd.test 9 (Kn.txt ⟨#[97]⟩)) && Pd.takes (Pd.test 9 (Kn.txt ⟨#[97]⟩)) (Kn.txt ⟨#[97, 98]⟩)) = true))
  have k6 := Lib.hid (kt (c := 0) (test_is (w := W') (t := 4) Kn.f3) Kn.fnan (by decide +kernel : (Pd.right (Pd.test 4 (Kn.int 3)) && Pd.takes (Pd.test 4 (Kn.int 3)) (Kn.nan)) = false))
  refine wp_region_later (W := W') (by kernel_rfl) (by kernel_rfl) HW1.out ?_
  repeat (go_big_quiet_step (first | (go_at_call 11; first | with_reducible exact k5.out _ | with_reducible exact k6.out _) | (go_at_call 13; first | with_reducible exact k0.out _ | with_reducible exact k1.out _ | with_reducible exact k2.out _ | with_reducible exact k3.out _ | with_reducible exact k4.out _) | (go_at_call 12; exact test5) | (go_at_call 10; exact calls_later (vint_any _ _)) | (go_at_call 8; exact calls_later (vfloat_any _ _))))
  refine wpQuiet_nil ?_
  clear k0 k1 k2 k3 k4 k5 k6
  rintro _ ⟨z, rfl⟩
  go_wp2_with fail
  go_ret
  exact ⟨rfl, below_then HB.out z.below⟩
end Go.Proofs.Ytddgpbokfglieaa
