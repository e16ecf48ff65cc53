
/- PredAlike: the walk. -/
import Derived.Test.YtddgpbokfglieaaPredKnown
import Derived.Test.YtddgpbokfglieaaFeedPred
import Derived.Test.YtddgpbokfglieaaPrdFacts
namespace Go.Proofs.Ytddgpbokfglieaa
open Go.RowKit
set_option linter.unusedVariables false

theorem known_any (w : World) : Calls Try.prog 20 #[] w fun e w' => e = .returned (.bool true) ∧ Below w.heap.size w w' := by
  go_enter Try.func20, Try.ntmps20
  go_wp2_with fail
  refine (pknown_any _).mono ?_
  rintro e w' ⟨rfl, hb⟩
  have HB := Lib.hid hb
  clear hb
  go_wp2_with fail
  go_ret
  exact ⟨rfl, HB.out⟩

namespace Pd
theorem is10 {w : World} {u : Val} (h : Fit u) {g : Nat} (hv : Rs 5 w (some ⟨g, 0, none⟩) 1 (vflat [u])) : IsPrd w ⟨⟨#[97]⟩, 10, zv, zv, [u]⟩ (some ⟨g, 0, none⟩) 1 := ⟨by show (⟨#[97]⟩ : ByteArray).size ≤ _; decide, fit0, fit0, hv, by simp only [List.mem_singleton]; rintro a rfl; exact h, by decide⟩
theorem is8 (w : World) {u : Val} (h : Fit u) : IsPrd w ⟨⟨#[97]⟩, 8, u, u, []⟩ none 0 := ⟨by show (⟨#[97]⟩ : ByteArray).size ≤ _; decide, h, h, Vs.nil _⟩
/-- What the tests of one value say of another one. -/
structure Seven (v u : Val) (is nt mo le ls mr : Bool) : Prop where
  e0 : Vl.is v u = is
  e2 : (right (test 2 u) && takes (test 2 u) v) = is
  e3 : (right (test 3 u) && takes (test 3 u) v) = nt
  e4 : (right (test 4 u) && takes (test 4 u) v) = ls
  e5 : (right (test 5 u) && takes (test 5 u) v) = mo
  e6 : (right (test 6 u) && takes (test 6 u) v) = mr
  e7 : (right (test 7 u) && takes (test 7 u) v) = le
  e8 : (right ⟨⟨#[97]⟩, 8, u, u, []⟩ && takes ⟨⟨#[97]⟩, 8, u, u, []⟩ v) = is
  e10 : (right ⟨⟨#[97]⟩, 10, zv, zv, [u]⟩ && takes ⟨⟨#[97]⟩, 10, zv, zv, [u]⟩ v) = is
  e1 : (right (test 1 zv) && takes (test 1 zv) v) = true
theorem seven (v u : Val) (hu : Vl.right u = true ∧ Small u) : Seven v u false true false false false false ∨ Seven v u true false true true false false ∨ Seven v u false true true false true false ∨ Seven v u false true false true false true := by
  have hw : At.word ⟨#[97]⟩ = true := by decide +kernel
  have r : ∀ t : Int, 2 ≤ t → t ≤ 7 → right (test t u) = true := fun t h1 h2 => (fed_v ⟨#[97]⟩ h1 h2 hu.1 hu.2).right hw
  have r2 := r 2 (by omega) (by omega)
  have r3 := r 3 (by omega) (by omega)
  have r4 := r 4 (by omega) (by omega)
  have r5 := r 5 (by omega) (by omega)
  have r6 := r 6 (by omega) (by omega)
  have r7 := r 7 (by omega) (by omega)
  have r8 := (fed_range ⟨#[97]⟩ hu.1 hu.2 hu.1 hu.2).right hw
  have r10 := (fed_in ⟨#[97]⟩ (l := [u]) (by simp) (by simp) (by simp only [List.mem_singleton]; rintro a rfl; exact hu)).right hw
  have r1 := (fed_has ⟨#[97]⟩).right hw
  rcases stand v u with h | ⟨h, c⟩ | ⟨h, c⟩ | ⟨h, c⟩
  · left
    refine ⟨?_, ?_, ?_, ?_, ?_, ?_, ?_, ?_, ?_, ?_⟩ <;> simp [r2, r3, r4, r5, r6, r7, r8, r10, r1, takes, h, Vl.is]
  · right; right; left
    refine ⟨?_, ?_, ?_, ?_, ?_, ?_, ?_, ?_, ?_, ?_⟩ <;> simp [r2, r3, r4, r5, r6, r7, r8, r10, r1, takes, h, c, Vl.is]
  · right; left
    refine ⟨?_, ?_, ?_, ?_, ?_, ?_, ?_, ?_, ?_, ?_⟩ <;> simp [r2, r3, r4, r5, r6, r7, r8, r10, r1, takes, most, h, c, Vl.is]
  · right; right; right
    refine ⟨?_, ?_, ?_, ?_, ?_, ?_, ?_, ?_, ?_, ?_⟩ <;> simp [r2, r3, r4, r5, r6, r7, r8, r10, r1, takes, most, h, c, Vl.is]
end Pd
/-- What PredAlike's locals are. -/
structure Alk (w wx : World) (gp gv gu : Nat) (p : Prd) (A : Option Addr) (n c : Nat) (v u : Val) : Prop where
  rp : wx.heap[gp]? = some (pbox p A n c)
  rv : wx.heap[gv]? = some (vbox v)
  ru : wx.heap[gu]? = some (vbox u)
  is : IsPrd wx p A n
  fed : Pd.Fed ⟨#[97]⟩ p
  hv : Vl.right v = true ∧ Pd.Small v
  hu : Vl.right u = true ∧ Pd.Small u
  below : Below w.heap.size w wx

theorem Alk.later {w wx wy : World} {gp gv gu : Nat} {p : Prd} {A : Option Addr} {n c : Nat} {v u : Val} (h : Alk w wx gp gv gu p A n c v u) (k : Below wx.heap.size wx wy) : Alk w wy gp gv gu p A n c v u :=
  ⟨below_rw k h.rp, below_rw k h.rv, below_rw k h.ru, h.is.later k, h.fed, h.hv, h.hu, h.below.trans (below_sub k h.below.size)⟩
theorem Alk.setv {w wx : World} {gp gv gu : Nat} {p : Prd} {A : Option Addr} {n c : Nat} {v u v' : Val} (h : Alk w wx gp gv gu p A n c v u) (h1 : ¬ gp = gv) (h2 : ¬ gu = gv) (h3 : w.heap.size ≤ gv) (h4 : Vl.right v' = true ∧ Pd.Small v') (hA : ∀ x, A = some x → ¬ x.block = gv) : Alk w (set5 wx gv (.int .i64 v'.k) (.int .i64 v'.n) (.float .f64 v'.x) (.string v'.s) (.bool v'.b)) gp gv gu p A n c v' u :=
  have k := kept5 wx gv (.int .i64 v'.k) (.int .i64 v'.n) (.float .f64 v'.x) (.string v'.s) (.bool v'.b)
  ⟨k.row h.rp h1, row5 _ _ _ _ _ h.rv, k.row h.ru h2, h.is.kept k hA, h.fed, h4, h.hu, h.below.trans (k.below h.below.size (by intro k hk e; omega))⟩
theorem Alk.setu {w wx : World} {gp gv gu : Nat} {p : Prd} {A : Option Addr} {n c : Nat} {v u u' : Val} (h : Alk w wx gp gv gu p A n c v u) (h1 : ¬ gp = gu) (h2 : ¬ gv = gu) (h3 : w.heap.size ≤ gu) (h4 : Vl.right u' = true ∧ Pd.Small u') (hA : ∀ x, A = some x → ¬ x.block = gu) : Alk w (set5 wx gu (.int .i64 u'.k) (.int .i64 u'.n) (.float .f64 u'.x) (.string u'.s) (.bool u'.b)) gp gv gu p A n c v u' :=
  have k := kept5 wx gu (.int .i64 u'.k) (.int .i64 u'.n) (.float .f64 u'.x) (.string u'.s) (.bool u'.b)
  ⟨k.row h.rp h1, k.row h.rv h2, row5 _ _ _ _ _ h.ru, h.is.kept k hA, h.fed, h.hv, h4, h.below.trans (k.below h.below.size (by intro k hk e; omega))⟩
set_option pp.deepTerms true in
set_option pp.maxSteps 10000000 in
set_option maxRecDepth 100000 in
set_option maxHeartbeats 8000000 in
theorem palike_walk (L : Option Addr) (len cap : Nat) (w : World) (hd : Draws w.heap.size w L len) :
    Calls Try.prog 7 #[.slice L len cap] w fun e w' => e = .returned (.bool true) ∧ Below w.heap.size w w' := by
  have hF0 := Lib.hid (feed_new (cap := cap) hd 40)
  have HB0 := Lib.hid (one_new w (.cells #[.slice L len cap, .int .i64 0] 40))
  clear hd
  have hst := store_float
  go_enter Try.func7, Try.ntmps7
  go_wp2_with fail
  refine (feedpred_any ⟨#[97]⟩ _ (by omega) hF0.out).mono ?_
  rintro e w1 ⟨p, A, c, rfl, hfed, hO, hF, hK⟩
  have HB1 : Hid (Below w.heap.size w w1) := HB0.out.trans (hK.below (by simp) (by intro k hk e; omega))
  have HFed := Lib.hid hfed
  have HP1 := Lib.hid (hfed.is (by decide) hO)
  have HF1 := Lib.hid hF
  have hgp : w.heap.size < w1.heap.size := by have := hK.size; simp at this; omega
  have hA : ∀ x, A = some x → ¬ x.block = w.heap.size := by
    intro x hx
    obtain ⟨A', c', e, -, -, -, hA, -, -⟩ := hO.reads
    cases e
    have := (hA x hx).1
    simp at this
    omega
  have hA2 : ∀ x, A = some x → x.block < w1.heap.size := by
    intro x hx
    obtain ⟨A', c', e, -, -, -, hA, -, -⟩ := hO.reads
    cases e
    exact (hA x hx).2
  have HA := Lib.hid hA
  have HA2 := Lib.hid hA2
  clear hO hfed hF hK hF0 HB0 hA hA2
  go_upto_region 3 with fail
  have hn := one_new w1 (pbox p A p.set.length c)
  have HR := Lib.hid (heap_alloc_new w1 (pbox p A p.set.length c))
  replace HP1 := Lib.hid (HP1.out.later hn)
  replace HB1 := Lib.hid (below_then HB1.out hn)
  replace HF1 := Lib.hid (HF1.out.below hn)
  clear hn
  dsimp only [pbox] at HR HP1 HB1 HF1
  generalize w1.heap.size = gp at HR hgp HA2 ⊢
  generalize w1.alloc _ = w2 at HR HP1 HB1 HF1 ⊢
  have hg2 : gp < w2.heap.size := row_lt HR.out
  go_wp2_with fail
  refine (feedvalue_any _ (by omega) HF1.out).mono ?_
  rintro e w3 ⟨vk, vn, vx, vs, vb, hv1, hv2, hv3, hv4, rfl, hF3, hK3⟩
  have HV : Hid (Vl.right ⟨vk, vn, vx, vs, vb⟩ = true ∧ Pd.Small ⟨vk, vn, vx, vs, vb⟩) := ⟨hv4, Pd.right_small hv1 hv2 hv3 hv4⟩
  replace HR := Lib.hid (hK3.row HR.out (by show ¬ gp = w.heap.size; omega))
  replace HP1 := Lib.hid (HP1.out.kept hK3 HA.out)
  replace HB1 := Lib.hid (HB1.out.trans (hK3.below (by omega) (by intro k hk e; omega)))
  replace HF1 := Lib.hid hF3
  have hs3 := hK3.size
  clear hF3 hK3 hv1 hv2 hv3 hv4
  go_wp2_with fail
  refine (feedvalue_any _ (by omega) HF1.out).mono ?_
  rintro e w4 ⟨uk, un, ux, us, ub, hv1, hv2, hv3, hv4, rfl, hF3, hK3⟩
  have HU : Hid (Vl.right ⟨uk, un, ux, us, ub⟩ = true ∧ Pd.Small ⟨uk, un, ux, us, ub⟩) := ⟨hv4, Pd.right_small hv1 hv2 hv3 hv4⟩
  replace HR := Lib.hid (hK3.row HR.out (by show ¬ gp = w.heap.size; omega))
  replace HP1 := Lib.hid (HP1.out.kept hK3 HA.out)
  replace HB1 := Lib.hid (HB1.out.trans (hK3.below (by omega) (by intro k hk e; omega)))
  replace HF1 := Lib.hid hF3
  have hs4 := hK3.size
  clear hF3 hK3 hv1 hv2 hv3 hv4
  go_upto_region 4 with fail
  obtain ⟨w5, hw5⟩ : ∃ w5, w5 = (w4.alloc (vbox ⟨vk, vn, vx, vs, vb⟩)).alloc (vbox ⟨uk, un, ux, us, ub⟩) := ⟨_, rfl⟩
  have hn : Below w4.heap.size w4 w5 := by rw [hw5]; exact two_new _ _ _
  have H : Hid (Alk w w5 gp w4.heap.size (w4.heap.size + 1) p A p.set.length c ⟨vk, vn, vx, vs, vb⟩ ⟨uk, un, ux, us, ub⟩) := by
    refine ⟨below_rw hn HR.out, ?_, ?_, HP1.out.later hn, HFed.out, HV.out, HU.out, HB1.out.trans (below_sub hn HB1.out.size)⟩
    · rw [hw5]; exact below_rw (one_new _ _) (heap_alloc_new _ _)
    · rw [hw5]; exact alloc2_new _ _ _
  replace HF1 := Lib.hid (HF1.out.below hn)
  have hw4 : w.heap.size < w4.heap.size := by omega
  have hgv : gp < w4.heap.size := row_lt HR.out
  rw [show (w4.alloc (.cells #[.int .i64 vk, .int .i64 vn, .float .f64 vx, .string vs, .bool vb] 24)).alloc (.cells #[.int .i64 uk, .int .i64 un, .float .f64 ux, .string us, .bool ub] 24) = w5 from hw5.symm]
  clear hn hw5 HR HP1 HB1 HFed HV HU hs3 hs4 hg2
  generalize w4.heap.size = gv at H hw4 hgv ⊢
  go_wp2_with fail
  refine (next_any 2 (by omega) (by omega) _ (by omega) HF1.out).mono ?_
  rintro e w6 ⟨q, hq, rfl, hF6, hK6, hs6⟩
  replace H : Hid (Alk w w6 gp gv (gv + 1) p A p.set.length c ⟨vk, vn, vx, vs, vb⟩ ⟨uk, un, ux, us, ub⟩) :=
    ⟨hK6.row H.out.rp (by show ¬ gp = w.heap.size; omega), hK6.row H.out.rv (by show ¬ gv = w.heap.size; omega), hK6.row H.out.ru (by show ¬ gv + 1 = w.heap.size; omega), H.out.is.kept hK6 HA.out, H.out.fed, H.out.hv, H.out.hu, H.out.below.trans (hK6.below H.out.below.size (by intro k hk e; omega))⟩
  have HF6 := Lib.hid hF6
  clear hF6 hK6 hs6 HF1
  go_upto_if 26 with fail
  go_cut [] (fun wx => ∃ (v u : Val), Alk w wx gp gv (gv + 1) p A p.set.length c v u)
  case first =>
    by_cases h0 : q = 0
    case neg =>
      have h0' : ¬ (q : Int) = 0 := by omega
      go_wp2_with fail
      go_meet
      exact ⟨_, _, H.out⟩
    case pos =>
      subst h0
      go_wp2_with fail
      refine (next_any 4 (by omega) (by omega) _ (by omega) HF6.out).mono ?_
      rintro e w7 ⟨k, hk, rfl, hF7, hK7, hs7⟩
      replace H : Hid (Alk w w7 gp gv (gv + 1) p A p.set.length c ⟨vk, vn, vx, vs, vb⟩ ⟨uk, un, ux, us, ub⟩) :=
        ⟨hK7.row H.out.rp (by show ¬ gp = w.heap.size; omega), hK7.row H.out.rv (by show ¬ gv = w.heap.size; omega), hK7.row H.out.ru (by show ¬ gv + 1 = w.heap.size; omega), H.out.is.kept hK7 HA.out, H.out.fed, H.out.hv, H.out.hu, H.out.below.trans (hK7.below H.out.below.size (by intro k hk e; omega))⟩
      clear hF7 hK7 hs7 HF6
      go_wp2_with fail
      refine (vint_any _ _).mono ?_
      rintro e w8 ⟨rfl, hb8⟩
      replace H : Hid (Alk w w8 gp gv (gv + 1) p A p.set.length c ⟨vk, vn, vx, vs, vb⟩ ⟨uk, un, ux, us, ub⟩) := H.out.later hb8
      clear hb8
      obtain ⟨c0, c1, c2, c3, c4, f0, f1, f2, f3, f4⟩ := five H.out.rv
      go_upto_region 6 with fail
      clear c0 c1 c2 c3 c4 f0 f1 f2 f3 f4
      replace H : Hid (Alk w _ gp gv (gv + 1) p A p.set.length c ⟨1, k, 0, ⟨#[]⟩, false⟩ ⟨uk, un, ux, us, ub⟩) := H.out.setv (v' := ⟨1, k, 0, ⟨#[]⟩, false⟩) (by omega) (by omega) (by omega) ⟨right_int, by show (-9223372036854775808 : Int) ≤ k; omega, by show (k : Int) ≤ 9223372036854775807; omega, by show 0 < 2 ^ 64; decide, by show 0 ≤ 12; decide⟩ (fun x hx => by have := HA2.out x hx; omega)
      dsimp only [set5] at H
      generalize (((((w8.setCell ⟨gv, 0, none⟩ _).setCell ⟨gv, 1, none⟩ _).setCell ⟨gv, 2, none⟩ _).setCell ⟨gv, 3, none⟩ _).setCell ⟨gv, 4, none⟩ _) = w9 at H ⊢
      have c1 : w9.cell? ⟨gv, 1, none⟩ = some (.int .i64 k) := (five H.out.rv).h1
      have hk4 : k = 0 ∨ k = 1 ∨ k = 2 ∨ k = 3 := by omega
      clear hk
      rcases hk4 with rfl | rfl | rfl | rfl
      all_goals
        go_wp2_with fail
        refine (vfloat_any _ _).mono ?_
        rintro e w10 ⟨rfl, hb⟩
        replace H := Lib.hid (H.out.later hb)
        clear c1 hb
        obtain ⟨c0, c1, c2, c3, c4, f0, f1, f2, f3, f4⟩ := five H.out.ru
        go_wp2_with fail
        go_meet
        exact ⟨_, _, H.out.setu (u' := ⟨2, 0, _, ⟨#[]⟩, false⟩) (by omega) (by omega) (by omega) ⟨by simp [Vl.right, Vl.zs], by decide, by decide, by decide +kernel, by decide⟩ (fun x hx => by have := HA2.out x hx; omega)⟩
  case rest =>
    obtain ⟨v, u, hA⟩ := hcut
    clear H HF6
    have H := Lib.hid hA
    clear hA
    have hS4 := Pd.seven v u H.out.hu
    obtain ⟨a0, a1, a2, a3, a4⟩ := vbox_row H.out.rv
    obtain ⟨b0, b1, b2, b3, b4⟩ := vbox_row H.out.ru
    obtain ⟨c0, c1, c2, c3, c4, c5, c6, c7, c8, c9, c10, c11, c12⟩ := pbox_row H.out.rp
    haveI := later_some wc
    have FV := Lib.hid H.out.hv.2.fit
    have FU := Lib.hid H.out.hu.2.fit
    have KR := Lib.hid (kr (c := c) H.out.is (H.out.fed.right (by decide +kernel)))
    have KV := Lib.hid (kt (c := c) (b := Pd.takes p v) H.out.is FV.out (by rw [H.out.fed.right (by decide +kernel)]; rfl))
    have KU := Lib.hid (kt (c := c) (b := Pd.takes p u) H.out.is FU.out (by rw [H.out.fed.right (by decide +kernel)]; rfl))
    have K0 := Lib.hid (fun x : Later wc => calls_later (x := x) (known_any x.at_))
    have KI := Lib.hid (fun x : Later wc => calls_later (x := x) (vis_v FV.out FU.out x.at_))
    have KT := Lib.hid (fun (t : Int) (x : Later wc) => test_l (t := t) (v := u) (x := x))
    rcases hS4 with hS | hS | hS | hS
    all_goals
      have HS := Lib.hid hS
      clear hS
      have k2 := Lib.hid (kt (c := 0) (test_is (w := wc) (t := 2) FU.out) FV.out HS.out.e2)
      have k3 := Lib.hid (kt (c := 0) (test_is (w := wc) (t := 3) FU.out) FV.out HS.out.e3)
      have k4 := Lib.hid (kt (c := 0) (test_is (w := wc) (t := 4) FU.out) FV.out HS.out.e4)
      have k5 := Lib.hid (kt (c := 0) (test_is (w := wc) (t := 5) FU.out) FV.out HS.out.e5)
      have k6 := Lib.hid (kt (c := 0) (test_is (w := wc) (t := 6) FU.out) FV.out HS.out.e6)
      have k7 := Lib.hid (kt (c := 0) (test_is (w := wc) (t := 7) FU.out) FV.out HS.out.e7)
      have k8 := Lib.hid (kt (c := 0) (Pd.is8 wc FU.out) FV.out HS.out.e8)
      have ki := KI.out
      rw [HS.out.e0] at ki
      replace KI := Lib.hid ki
      clear ki
      try (have kv := KV.out; rw [Pd.takes_is HS.out.e0 p] at kv; clear KV; have KV := Lib.hid kv; clear kv)
      generalize Pd.takes p v = tv at KV
      generalize Pd.takes p u = tu at KU KV
      go_upto_region 7 with fail
      refine wp_region_later (W := wc) (by kernel_rfl) (by kernel_rfl) (Below.refl _ _) ?_
      repeat (go_big_quiet_step (first | (go_at_call 20; exact K0.out _) | (go_at_call 15; exact KR.out _) | (go_at_call 28; exact KI.out _) | (go_at_call 11; first | with_reducible exact KV.out _ | with_reducible exact KU.out _)))
      refine wpQuiet_nil ?_
      rintro _ ⟨x, rfl⟩
      go_upto_region 9 with fail
      refine wp_region_later (W := wc) (by kernel_rfl) (by kernel_rfl) (Later.below _) ?_
      repeat (go_big_quiet_step (first | (go_at_call 12; exact KT.out _ _) | (go_at_call 11; first | with_reducible exact k2.out _ | with_reducible exact k3.out _)))
      refine wpQuiet_nil ?_
      rintro _ ⟨x, rfl⟩
      go_upto_region 10 with fail
      refine wp_region_later (W := wc) (by kernel_rfl) (by kernel_rfl) (Later.below _) ?_
      repeat (go_big_quiet_step (first | (go_at_call 12; exact KT.out _ _) | (go_at_call 11; first | with_reducible exact k5.out _ | with_reducible exact k7.out _)))
      refine wpQuiet_nil ?_
      rintro _ ⟨x, rfl⟩
      go_upto_region 11 with fail
      refine wp_region_later (W := wc) (by kernel_rfl) (by kernel_rfl) (Later.below _) ?_
      repeat (go_big_quiet_step (first | (go_at_call 12; exact KT.out _ _) | (go_at_call 11; first | with_reducible exact k4.out _ | with_reducible exact k6.out _)))
      refine wpQuiet_nil ?_
      rintro _ ⟨x, rfl⟩
      go_upto_region 13 with (first | (go_at_call 11; refine (k8.out _).mono ?_; rintro e _ ⟨rfl, x, rfl⟩) | fail)
      have hgx : gv < x.at_.heap.size := cell_lt (a0 x)
      go_wp2_with fail
      have hb13 := below_then x.below (one_new x.at_ (vbox u))
      refine (calls_later (x := ⟨_, hb13⟩) (ptakes_any (p := ⟨⟨#[97]⟩, 10, Pd.zv, Pd.zv, [u]⟩) (Pd.is10 FU.out (new_val x.at_ u)) FV.out)).mono ?_
      rw [HS.out.e10]
      rintro e _ ⟨rfl, x, rfl⟩
      clear hb13 hgx k2 k3 k4 k5 k6 k7 k8
      have k1 := Lib.hid (kt (c := 0) (test_is (w := wc) (t := 1) (v := Pd.zv) Pd.fit0) FV.out HS.out.e1)
      go_upto_region 14 with fail
      refine wp_region_later (W := wc) (by kernel_rfl) (by kernel_rfl) (Later.below _) ?_
      repeat (go_big_quiet_step (first | (go_at_call 12; exact test5) | (go_at_call 11; with_reducible exact k1.out _)))
      refine wpQuiet_nil ?_
      rintro _ ⟨x, rfl⟩
      go_wp2_with fail
      go_ret
      exact ⟨rfl, H.out.below.trans (below_sub x.below H.out.below.size)⟩
theorem palike_below (w : World) (A : Option Addr) (len cap : Nat) (zs : List Int) (hr : IsRow .i64 w A len cap zs) :
    Calls Try.prog 7 #[.slice A len cap] w fun e w' => e = .returned (.bool true) ∧ Below w.heap.size w w' := palike_walk A len cap w hr.draws
end Go.Proofs.Ytddgpbokfglieaa
