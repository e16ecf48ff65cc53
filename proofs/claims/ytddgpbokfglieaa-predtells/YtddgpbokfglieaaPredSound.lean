
/- PredSound: the walk. -/
import Derived.Test.YtddgpbokfglieaaPredAlike
namespace Go.Proofs.Ytddgpbokfglieaa
open Go.RowKit
set_option linter.unusedVariables false

theorem feed_at {B : Nat} {w : World} {a : Option Addr} {len cap : Nat} (h : Draws B w a len) (hB : B ≤ w.heap.size) (t : TypeId) : IsFeed B (w.alloc (.cells #[.slice a len cap, .int .i64 0] t)) w.heap.size 0 := by
  refine ⟨hB, a, len, cap, 0, Nat.le_refl _, by simp, by simp, by simp, ?_⟩
  exact h.kept (S := fun _ => False) (Kept.alloc _ w _) hB (fun _ _ => id)
theorem Draws.later {B : Nat} {w w' : World} {a : Option Addr} {len : Nat} (h : Draws B w a len) (k : Below B w w') (hB : B ≤ w.heap.size) : Draws B w' a len :=
  h.kept (S := fun i => B ≤ i) (Kept.ofBelow' k (fun _ h => h)) hB (fun i hi h => by omega)

/-- What PredSound's locals are. -/
structure Snd (w wx : World) (gp gq : Nat) (p : Prd) (A : Option Addr) (n c : Nat) (q : Prd) (A' : Option Addr) (n' c' : Nat) : Prop where
  rp : wx.heap[gp]? = some (pbox p A n c)
  rq : wx.heap[gq]? = some (pbox q A' n' c')
  ip : IsPrd wx p A n
  iq : IsPrd wx q A' n'
  below : Below w.heap.size w wx
theorem Snd.later {w wx wy : World} {gp gq : Nat} {p : Prd} {A : Option Addr} {n c : Nat} {q : Prd} {A' : Option Addr} {n' c' : Nat} (h : Snd w wx gp gq p A n c q A' n' c') (k : Below wx.heap.size wx wy) : Snd w wy gp gq p A n c q A' n' c' :=
  ⟨below_rw k h.rp, below_rw k h.rq, h.ip.later k, h.iq.later k, h.below.trans (below_sub k h.below.size)⟩
theorem Snd.kept {w wx wy : World} {g gp gq : Nat} {p : Prd} {A : Option Addr} {n c : Nat} {q : Prd} {A' : Option Addr} {n' c' : Nat} (h : Snd w wx gp gq p A n c q A' n' c') (k : Kept (· = g) wx wy) (h1 : ¬ gp = g) (h2 : ¬ gq = g) (h3 : ∀ x, A = some x → ¬ x.block = g) (h4 : ∀ x, A' = some x → ¬ x.block = g) (h5 : w.heap.size ≤ g) : Snd w wy gp gq p A n c q A' n' c' :=
  ⟨k.row h.rp h1, k.row h.rq h2, h.ip.kept k h3, h.iq.kept k h4, h.below.trans (k.below h.below.size (by intro i hi e; omega))⟩
namespace Pd
/-- What may be told of a value that is tried. -/
inductive Cs : Bool → Bool → Bool → Bool → Prop
  | a (tp tq : Bool) : Cs false tp tq false
  | b (tq : Bool) : Cs false false tq true
  | c (tq : Bool) : Cs true false tq false
  | e (tq : Bool) : Cs true false tq true
  | d : Cs true true true false
theorem cs (p q : Prd) (v : Val) : Cs (implies p q) (right p && takes p v) (right q && takes q v) (right p && void p) := by
  cases hv : (right p && void p)
  · cases hi : implies p q
    · exact .a _ _
    · cases ht : (right p && takes p v)
      · exact .c _
      · rw [Bool.and_eq_true] at ht
        have hr : right q = true := by
          cases e : right q
          · simp [implies, e] at hi
          · rfl
        rw [hr, sound hi ht.2]
        exact .d
  · rw [Bool.and_eq_true] at hv
    rw [void_none hv.2 v, Bool.and_false]
    cases hi : implies p q
    · exact .b _
    · exact .e _
end Pd

set_option pp.deepTerms true in
set_option pp.maxSteps 10000000 in
set_option maxRecDepth 100000 in
set_option maxHeartbeats 8000000 in
theorem psound_walk (L : Option Addr) (len cap : Nat) (M : Option Addr) (len2 cap2 : Nat) (w : World) (hd : Draws w.heap.size w L len) (hm : Draws w.heap.size w M len2) :
    Calls Try.prog 6 #[.slice L len cap, .slice M len2 cap2] w fun e w' => e = .returned (.bool true) ∧ Below w.heap.size w w' := by
  have hF0 := Lib.hid (feed_new (cap := cap) hd 40)
  have HB0 := Lib.hid (one_new w (.cells #[.slice L len cap, .int .i64 0] 40))
  have HM := Lib.hid hm
  clear hd hm
  have hst := store_float
  go_enter Try.func6, Try.ntmps6
  go_wp2_with fail
  refine (feedpred_any ⟨#[97]⟩ _ (by omega) hF0.out).mono ?_
  rintro e w1 ⟨p, A, c, rfl, hfed, hO, hF, hK⟩
  have HB1 : Hid (Below w.heap.size w w1) := HB0.out.trans (hK.below (by simp) (by intro k hk e; omega))
  have HFed := Lib.hid hfed
  have HP1 := Lib.hid (hfed.is (by decide) hO)
  have HF1 := Lib.hid hF
  have hgp : w.heap.size < w1.heap.size := by have := hK.size; simp at this; omega
  have hA : ∀ x, A = some x → w.heap.size < x.block ∧ x.block < w1.heap.size := by
    intro x hx
    obtain ⟨A', c', e, -, -, -, hA, -, -⟩ := hO.reads
    cases e
    have := (hA x hx)
    simp at this
    omega
  have HA := Lib.hid hA
  clear hO hfed hF hK hF0 HB0 hA
  go_upto_region 3 with fail
  have hn := one_new w1 (pbox p A p.set.length c)
  have HR := Lib.hid (heap_alloc_new w1 (pbox p A p.set.length c))
  replace HP1 := Lib.hid (HP1.out.later hn)
  replace HB1 := Lib.hid (below_then HB1.out hn)
  replace HF1 := Lib.hid (HF1.out.below hn)
  clear hn
  dsimp only [pbox] at HR HP1 HB1 HF1
  generalize w1.heap.size = gp at HR hgp HA ⊢
  generalize w1.alloc _ = w2 at HR HP1 HB1 HF1 ⊢
  have hg2 : gp < w2.heap.size := row_lt HR.out
  go_wp2_with fail
  refine (feedpred_any ⟨#[97]⟩ _ (by omega) HF1.out).mono ?_
  rintro e w3 ⟨q, A', c', rfl, hfed, hO, hF, hK⟩
  have HFed2 := Lib.hid hfed
  have H1 : Hid (Snd w (w3.alloc (pbox q A' q.set.length c')) gp w3.heap.size p A p.set.length c q A' q.set.length c') := by
    have hn := one_new w3 (pbox q A' q.set.length c')
    have hn' := fun x => HA.out x
    exact ⟨below_rw hn (hK.row HR.out (by show ¬ gp = w.heap.size; omega)), heap_alloc_new _ _, (HP1.out.kept hK (fun x hx e => by have := HA.out x hx; omega)).later hn, (hfed.is (by decide) hO).later hn, (HB1.out.trans (hK.below HB1.out.size (by intro k hk e; omega))).trans (below_sub hn (by have := hK.size; have := HB1.out.size; omega))⟩
  have hA2 : ∀ x, A' = some x → gp < x.block ∧ x.block < w3.heap.size := by
    intro x hx
    obtain ⟨A'', c'', e, -, -, -, hA, -, -⟩ := hO.reads
    cases e
    have := (hA x hx)
    omega
  have HA2 := Lib.hid hA2
  have hgq : gp < w3.heap.size := by have := hK.size; omega
  replace HF1 := Lib.hid (hF.below (one_new w3 (pbox q A' q.set.length c')))
  clear hO hfed hF hK hA2 HR HP1 HB1
  go_upto_region 4 with fail
  dsimp only [pbox] at H1 HF1
  generalize w3.alloc _ = w4 at H1 HF1 ⊢
  generalize w3.heap.size = gq at H1 HA2 hgq ⊢
  have H : Hid (Snd w w4 gp gq p A p.set.length c q A' q.set.length c') := H1
  clear H1
  go_wp2_with fail
  refine (next_any 3 (by omega) (by omega) _ (by omega) HF1.out).mono ?_
  rintro e w5 ⟨k, hk, rfl, hF5, hK5, hs5⟩
  replace H := Lib.hid (H.out.kept hK5 (by omega) (by omega) (fun x hx e => by have := HA.out x hx; omega) (fun x hx e => by have := HA2.out x hx; omega) (Nat.le_refl _))
  clear hF5 hK5 hs5 HF1
  go_upto_if 22 with fail
  go_cut [] (fun wx => ∃ q' : Prd, q'.set = q.set ∧ Pd.Small q'.v ∧ Snd w wx gp gq p A p.set.length c q' A' q.set.length c')
  case first =>
    by_cases h0 : k = 0
    case neg =>
      have h0' : ¬ (k : Int) = 0 := by omega
      go_wp2_with fail
      go_meet
      exact ⟨q, rfl, HFed2.out.v, H.out⟩
    case pos =>
      subst h0
      have T5 := thirteen H.out.rp
      have T6 := thirteen H.out.rq
      obtain ⟨c2, c3, c4, c5, c6⟩ : _ ∧ _ ∧ _ ∧ _ ∧ _ := ⟨T5.h2, T5.h3, T5.h4, T5.h5, T5.h6⟩
      obtain ⟨d2, d3, d4, d5, d6, f2, f3, f4, f5, f6⟩ : _ ∧ _ ∧ _ ∧ _ ∧ _ ∧ _ ∧ _ ∧ _ ∧ _ ∧ _ := ⟨T6.h2, T6.h3, T6.h4, T6.h5, T6.h6, T6.f2, T6.f3, T6.f4, T6.f5, T6.f6⟩
      clear T5 T6
      go_wp2_with fail
      go_meet
      have kV := keptV w5 gq (.int .i64 p.v.k) (.int .i64 p.v.n) (.float .f64 p.v.x) (.string p.v.s) (.bool p.v.b)
      exact ⟨{ q with v := p.v }, rfl, HFed.out.v, kV.row H.out.rp (by show ¬ gp = gq; omega), turnV H.out.rq p.v, H.out.ip.kept kV (fun x hx e => by have := HA.out x hx; omega), ⟨H.out.iq.nm, HFed.out.v.fit, H.out.iq.fw, H.out.iq.set.kept kV (fun x hx e => by have := HA2.out x hx; omega)⟩, H.out.below.trans (kV.below H.out.below.size (by intro i hi e; omega))⟩
  case rest =>
    obtain ⟨q', hset, hsm, hH⟩ := hcut
    clear H
    have H := Lib.hid hH
    have HV2 := Lib.hid hsm
    clear hH hsm
    go_upto_region 7 with fail
    have hn := one_new wc (.cells #[.slice M len2 cap2, .int .i64 0] 40)
    have HF := Lib.hid (feed_at (cap := cap2) (HM.out.later H.out.below (Nat.le_refl _)) H.out.below.size 40)
    have hgf : gq < wc.heap.size := row_lt H.out.rq
    replace H := Lib.hid (H.out.later hn)
    clear hn HM
    generalize wc.alloc _ = w6 at H HF ⊢
    generalize wc.heap.size = f2 at HF hgf ⊢
    obtain ⟨c0, c1, c2, c3, c4, c5, c6, c7, c8, c9, c10, c11, c12⟩ := pbox_row H.out.rp
    obtain ⟨d0, d1, d2, d3, d4, d5, d6, d7, d8, d9, d10, d11, d12⟩ := pbox_row H.out.rq
    haveI := later_some w6
    generalize hI : Pd.implies p q' = I
    generalize hVo : (Pd.right p && Pd.void p) = Vo
    have KI := Lib.hid (ki (c := c) (d := c') H.out.ip H.out.iq hI)
    have KV := Lib.hid (kv (c := c) H.out.ip hVo)
    have HCS : Hid (∀ v, Pd.Cs I (Pd.right p && Pd.takes p v) (Pd.right q' && Pd.takes q' v) Vo) := fun v => by rw [← hI, ← hVo]; exact Pd.cs p q' v
    clear hI hVo
    rw [show w6 = (⟨w6, Below.refl _ _⟩ : Later w6).at_ from rfl]
    generalize (⟨w6, Below.refl _ _⟩ : Later w6) = x0
    go_wp2_with (first | (go_at_call 13; refine (KI.out _).mono ?_; rintro e _ ⟨rfl, x0, rfl⟩) | (go_at_call 14; refine (KV.out _).mono ?_; rintro e _ ⟨rfl, x0, rfl⟩) | fail)
    have H0 := Lib.hid (H.out.later x0.below)
    have HF0 := Lib.hid (HF.out.below x0.below)
    clear c0 c1 c2 c3 c4 c5 c6 c7 c8 c9 c10 c11 c12 d0 d1 d2 d3 d4 d5 d6 d7 d8 d9 d10 d11 d12 KI KV H HF
    generalize x0.at_ = w7 at H0 HF0 ⊢
    go_loopw [11] (fun ii wr => ∃ k : Nat, k ≤ 12 ∧ ii = .int .i64 (k : Int) ∧ IsFeed w.heap.size wr f2 (2 * k) ∧ Snd w wr gp gq p A p.set.length c q' A' q.set.length c') (fun ii _ => 12 - (intOf ii).toNat)
    case atStart => exact ⟨0, by omega, rfl, HF0.out, H0.out⟩
    case round =>
      obtain ⟨k, hk, rfl, hF, hH⟩ := hrel
      clear H0 HF0
      have HF := Lib.hid hF
      have H := Lib.hid hH
      clear hF hH
      by_cases hlt : k < 12
      · go_wp2_with fail
        refine (feedvalue_any _ (by omega) HF.out).mono ?_
        rintro e w8 ⟨vk, vn, vx, vs, vb, hv1, hv2, hv3, hv4, rfl, hF8, hK8⟩
        have hs8 := hK8.size
        replace H := Lib.hid (H.out.kept hK8 (by omega) (by omega) (fun x hx e => by have := HA.out x hx; omega) (fun x hx e => by have := HA2.out x hx; omega) (by omega))
        have FV := Lib.hid (Pd.right_small hv1 hv2 hv3 hv4).fit
        clear hv1 hv2 hv3 hv4 hK8 HF
        go_upto_region 13 with fail
        have hn := one_new w8 (vbox ⟨vk, vn, vx, vs, vb⟩)
        have hgv : gq < w8.heap.size := row_lt H.out.rq
        have hfv : f2 < w8.heap.size := hF8.lt
        have HR := Lib.hid (heap_alloc_new w8 (vbox ⟨vk, vn, vx, vs, vb⟩))
        replace H := Lib.hid (H.out.later hn)
        have HF := Lib.hid (hF8.below hn)
        clear hn hF8 hs8
        dsimp only [vbox] at HR H HF
        generalize w8.alloc _ = w9 at HR H HF ⊢
        generalize w8.heap.size = gv at HR hgv hfv ⊢
        have HR : Hid (w9.heap[gv]? = some (vbox ⟨vk, vn, vx, vs, vb⟩)) := HR
        go_upto_if 41 with fail
        go_cut [] (fun wx => ∃ v : Val, Fit v ∧ wx.heap[gv]? = some (vbox v) ∧ IsFeed w.heap.size wx f2 (2 * k + 2) ∧ Snd w wx gp gq p A p.set.length c q' A' q.set.length c')
        case first =>
          by_cases h0 : (k : Int) = 0
          case neg =>
            have hb0 : ((k : Int) == 0) = false := beq_eq_false_iff_ne.2 h0
            clear h0
            go_wp2_with fail
            go_meet
            exact ⟨_, FV.out, HR.out, HF.out, H.out⟩
          case pos =>
            have hb0 : ((k : Int) == 0) = true := beq_iff_eq.2 h0
            clear h0
            have T5 := thirteen H.out.rp
            obtain ⟨c2, c3, c4, c5, c6⟩ : _ ∧ _ ∧ _ ∧ _ ∧ _ := ⟨T5.h2, T5.h3, T5.h4, T5.h5, T5.h6⟩
            obtain ⟨e0, e1, e2, e3, e4, f0, f1, f2', f3, f4⟩ := five HR.out
            clear T5
            go_wp2_with fail
            go_meet
            have kV := kept5 w9 gv (.int .i64 p.v.k) (.int .i64 p.v.n) (.float .f64 p.v.x) (.string p.v.s) (.bool p.v.b)
            exact ⟨p.v, HFed.out.v.fit, row5 _ _ _ _ _ HR.out, HF.out.kept kV (by show ¬ f2 = gv; omega) (by intro i hi e; have := HF.out.1; omega), H.out.kept kV (by omega) (by omega) (fun x hx e => by have := HA.out x hx; omega) (fun x hx e => by have := HA2.out x hx; omega) (by omega)⟩
        case rest =>
        obtain ⟨v, hv, hr, hf, hH⟩ := hcut
        clear HR HF H FV
        have FV := Lib.hid hv
        have HR := Lib.hid hr
        have HF := Lib.hid hf
        have H := Lib.hid hH
        clear hv hr hf hH
        go_upto_if 45 with fail
        go_cut [] (fun wx => ∃ v : Val, Fit v ∧ wx.heap[gv]? = some (vbox v) ∧ IsFeed w.heap.size wx f2 (2 * k + 2) ∧ Snd w wx gp gq p A p.set.length c q' A' q.set.length c')
        case first =>
          by_cases h0 : (k : Int) = 1
          case neg =>
            have hb0 : ((k : Int) == 1) = false := beq_eq_false_iff_ne.2 h0
            clear h0
            go_wp2_with fail
            go_meet
            exact ⟨_, FV.out, HR.out, HF.out, H.out⟩
          case pos =>
            have hb0 : ((k : Int) == 1) = true := beq_iff_eq.2 h0
            clear h0
            have T5 := thirteen H.out.rq
            obtain ⟨c2, c3, c4, c5, c6⟩ : _ ∧ _ ∧ _ ∧ _ ∧ _ := ⟨T5.h2, T5.h3, T5.h4, T5.h5, T5.h6⟩
            obtain ⟨e0, e1, e2, e3, e4, f0, f1, f2', f3, f4⟩ := five HR.out
            clear T5
            go_wp2_with fail
            go_meet
            have kV := kept5 wc gv (.int .i64 q'.v.k) (.int .i64 q'.v.n) (.float .f64 q'.v.x) (.string q'.v.s) (.bool q'.v.b)
            exact ⟨q'.v, HV2.out.fit, row5 _ _ _ _ _ HR.out, HF.out.kept kV (by show ¬ f2 = gv; omega) (by intro i hi e; have := HF.out.1; omega), H.out.kept kV (by omega) (by omega) (fun x hx e => by have := HA.out x hx; omega) (fun x hx e => by have := HA2.out x hx; omega) (by omega)⟩
        case rest =>
        obtain ⟨v, hv, hr, hf, hH⟩ := hcut
        clear HR HF H FV
        have FV := Lib.hid hv
        have HR := Lib.hid hr
        have HF := Lib.hid hf
        have H := Lib.hid hH
        clear hv hr hf hH
        go_upto_region 17 with fail
        obtain ⟨a0, a1, a2, a3, a4⟩ := vbox_row HR.out
        obtain ⟨c0, c1, c2, c3, c4, c5, c6, c7, c8, c9, c10, c11, c12⟩ := pbox_row H.out.rp
        obtain ⟨d0, d1, d2, d3, d4, d5, d6, d7, d8, d9, d10, d11, d12⟩ := pbox_row H.out.rq
        have KP := Lib.hid (kt (c := c) H.out.ip FV.out (rfl : (Pd.right p && Pd.takes p v) = _))
        have KQ := Lib.hid (kt (c := c') H.out.iq FV.out (rfl : (Pd.right q' && Pd.takes q' v) = _))
        have hcs := HCS.out v
        clear HCS
        generalize (Pd.right p && Pd.takes p v) = tp at KP hcs
        generalize (Pd.right q' && Pd.takes q' v) = tq at KQ hcs
        have HE : Hid (∀ x : Later wc, IsFeed w.heap.size x.at_ f2 (2 * (k + 1)) ∧ Snd w x.at_ gp gq p A p.set.length c q' A' q.set.length c') := fun x => ⟨(HF.out.below x.below).more (by omega), H.out.later x.below⟩
        haveI := later_some wc
        rw [show wc = (⟨wc, Below.refl _ _⟩ : Later wc).at_ from rfl]
        generalize (⟨wc, Below.refl _ _⟩ : Later wc) = x0
        clear HF H HR FV
        cases hz : (v.k == 0)
        · cases hcs
          all_goals
            go_wp2_with (first | (go_at_call 11; first | (with_reducible refine (KP.out _).mono ?_; rintro e _ ⟨rfl, x0, rfl⟩) | (with_reducible refine (KQ.out _).mono ?_; rintro e _ ⟨rfl, x0, rfl⟩)) | fail)
            exact ⟨⟨k + 1, by omega, rfl, (HE.out _).1, (HE.out _).2⟩, by simp [intOf]; omega⟩
        · go_wp2_with fail
          exact ⟨⟨k + 1, by omega, rfl, (HE.out _).1, (HE.out _).2⟩, by simp [intOf]; omega⟩
      · obtain rfl : k = 12 := by omega
        go_wp2_with fail
        refine (known_any _).mono ?_
        rintro e w8 ⟨rfl, hb⟩
        have HB := Lib.hid (H.out.below.trans (below_sub hb H.out.below.size))
        clear hb
        go_wp2_with fail
        go_ret
        exact ⟨rfl, HB.out⟩
theorem psound_below (w : World) (A : Option Addr) (len cap : Nat) (zs : List Int) (hr : IsRow .i64 w A len cap zs) (A' : Option Addr) (len' cap' : Nat) (zs' : List Int) (hr' : IsRow .i64 w A' len' cap' zs') :
    Calls Try.prog 6 #[.slice A len cap, .slice A' len' cap'] w fun e w' => e = .returned (.bool true) ∧ Below w.heap.size w w' := psound_walk A len cap A' len' cap' w hr.draws hr'.draws
end Go.Proofs.Ytddgpbokfglieaa
