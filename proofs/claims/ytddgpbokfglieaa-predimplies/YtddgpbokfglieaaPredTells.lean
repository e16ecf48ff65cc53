
/- PredTells: the walk. -/
import Derived.Test.YtddgpbokfglieaaPredImplies
namespace Go.Proofs.Ytddgpbokfglieaa
open Go.RowKit
set_option linter.unusedVariables false

/-- PredTells' locals: the value, the Feed, the two tests. -/
structure Tls (w wx : World) (a g : Nat) (p q : Pt) (v : Val) : Prop where
  rv : wx.heap[w.heap.size + 2]? = some (vbox v)
  rp : wx.heap[g]? = some p.box
  rq : wx.heap[g + 1]? = some q.box
  ip : IsPt wx p
  iq : IsPt wx q
  ap : ∀ z, p.A = some z → z.block ≠ w.heap.size + 2 ∧ z.block ≠ w.heap.size + 3
  aq : ∀ z, q.A = some z → z.block ≠ w.heap.size + 2 ∧ z.block ≠ w.heap.size + 3
  fv : Fit v
  feed : IsFeed w.heap.size wx (w.heap.size + 3) a
  below : Below w.heap.size w wx
  hg : w.heap.size + 3 < g
theorem Tls.next {w wx wy : World} {a a' g : Nat} {p q : Pt} {v : Val} (h : Tls w wx a g p q v) (k : Kept (· = w.heap.size + 3) wx wy) (f : IsFeed w.heap.size wy (w.heap.size + 3) a') : Tls w wy a' g p q v := by
  have hg := h.hg
  exact ⟨k.row h.rv (by show ¬ w.heap.size + 2 = w.heap.size + 3; omega), k.row h.rp (by show ¬ g = w.heap.size + 3; omega), k.row h.rq (by show ¬ g + 1 = w.heap.size + 3; omega), h.ip.kept k (fun z hz => (h.ap z hz).2), h.iq.kept k (fun z hz => (h.aq z hz).2), h.ap, h.aq, h.fv, f, h.below.trans (k.below h.below.size (by intro i hi e; omega)), hg⟩
theorem Tls.put {w wx : World} {a g : Nat} {p q : Pt} {v : Val} (h : Tls w wx a g p q v) (u : Val) (hu : Fit u) : Tls w (wx.setRow (w.heap.size + 2) (part v.cells 0 u.cells).toArray) a g p q u := by
  have hg := h.hg
  have k := Kept.setRow wx (w.heap.size + 2) (part v.cells 0 u.cells).toArray
  exact ⟨setRow_heap _ _ _ _ _ _ h.rv, k.row h.rp (by show ¬ g = w.heap.size + 2; omega), k.row h.rq (by show ¬ g + 1 = w.heap.size + 2; omega), h.ip.kept k (fun z hz => (h.ap z hz).1), h.iq.kept k (fun z hz => (h.aq z hz).1), h.ap, h.aq, hu, h.feed.kept k (by show ¬ w.heap.size + 3 = w.heap.size + 2; omega) (by intro i hi e; omega), h.below.trans (k.below h.below.size (by intro i hi e; omega)), hg⟩
theorem Tls.more {w wx : World} {a a' g : Nat} {p q : Pt} {v : Val} (h : Tls w wx a g p q v) (ha : a ≤ a') : Tls w wx a' g p q v := ⟨h.rv, h.rp, h.rq, h.ip, h.iq, h.ap, h.aq, h.fv, h.feed.more ha, h.below, h.hg⟩

set_option maxRecDepth 100000 in
set_option maxHeartbeats 16000000 in
theorem ptells_walk (x y : Pt) (v : Val) (L : Option Addr) (len cap : Nat) (w : World) (ax : IsArg w x) (ay : IsArg w y) (hv : Fit v) (hd : Draws w.heap.size w L len) :
    Calls Try.prog 4 #[pv x.p x.A x.p.set.length x.c, pv y.p y.A y.p.set.length y.c, vlv v, .slice L len cap] w fun e w' => e = .returned (.bool true) ∧ Below w.heap.size w w' := by
  obtain ⟨W2, hW2, -, -, -, h2⟩ := three_new w x.box y.box (vbox v)
  have e2 : W2.heap.size = w.heap.size + 3 := by rw [hW2]; simp
  have hF := feed_at (cap := cap) (hd.later h2 (Nat.le_refl _)) h2.size 40
  rw [e2] at hF
  obtain ⟨W, hW, r1, r2, r3, -, hb⟩ := four_new w x.box y.box (vbox v) (.cells #[.slice L len cap, .int .i64 0] 40)
  rw [hW2, ← hW] at hF
  have HW := Lib.hid hW
  have HF := Lib.hid hF
  have HX := Lib.hid (cells_row r1)
  have HY := Lib.hid (cells_row r2)
  have HV := Lib.hid r3
  have HB := Lib.hid hb
  have HAX := Lib.hid ax
  have HAY := Lib.hid ay
  have HFV := Lib.hid hv
  clear h2 e2 hF hW2 hW r1 r2 r3 hb ax ay hd hv
  clear W2
  have hst := store_float
  go_enter Try.func4, Try.ntmps4
  go_upto_region 2 with fail
  dsimp only [Pt.box, Pt.cells, vbox, List.length_nil] at HW
  rw [← HW.out]
  clear HW
  go_wp2_with (first | (refine wpList_load_at rfl 30 _ rfl w.heap.size 0 x.cells _ rfl HX.out Try.underlying30 rfl prd_size ?_; dsimp only [Pt.cells]) | (refine wpList_load_at rfl 30 _ rfl (w.heap.size + 1) 0 y.cells _ rfl HY.out Try.underlying30 rfl prd_size ?_; dsimp only [Pt.cells]) | fail)
  refine (preds_any (B := w.heap.size) (a := 0) (x := x) (y := y) _ (by omega) HF.out (HAX.out.is.later HB.out) (HAY.out.is.later HB.out) HAX.out.low HAY.out.low HAX.out.room HAY.out.room).mono ?_
  rintro e w4 ⟨p, q, rfl, ip, iq, ap, aq, hF, hK⟩
  have hsz : w.heap.size + 3 < W.heap.size := HF.out.lt
  have hb4 : Below w.heap.size w w4 := HB.out.trans (hK.below HB.out.size (by intro i hi e; omega))
  obtain ⟨W4, hW4, g1, g2⟩ : ∃ W4, W4 = (w4.alloc p.box).alloc q.box ∧ W4.heap[w4.heap.size]? = some p.box ∧ W4.heap[w4.heap.size + 1]? = some q.box := by
    refine ⟨_, rfl, below_row (one_new _ _) (heap_alloc_new _ _), ?_⟩
    have := heap_alloc_new (w4.alloc p.box) q.box
    rw [World.size_alloc] at this
    exact this
  have hb5 : Below w4.heap.size w4 W4 := hW4 ▸ two_new _ _ _
  have hT : Tls w W4 30 w4.heap.size p q v := ⟨below_row hb5 (hK.row HV.out (by show ¬ w.heap.size + 2 = w.heap.size + 3; omega)), g1, g2, ip.later hb5, iq.later hb5, fun z hz => by have := ap z hz; omega, fun z hz => by have := aq z hz; omega, HFV.out, hF.below hb5, below_then hb4 hb5, Nat.lt_of_lt_of_le hsz hK.size⟩
  have HT := Lib.hid hT
  have HW4 := Lib.hid hW4
  clear HF HX HY HB HAX HAY HFV HV ip iq ap aq hF hK hb4 hb5 hW4 g1 g2 hT hsz
  dsimp only [Pt.v, Pt.cells]
  go_upto_region 3 with fail
  dsimp only [Pt.box, Pt.cells] at HW4
  rw [← HW4.out]
  clear HW4
  generalize w4.heap.size = g at HT ⊢
  go_wp2_with fail
  refine (next_any (a := 30) 4 (by omega) (by omega) _ (by omega) HT.out.feed).mono ?_
  rintro e w5 ⟨k, hk, rfl, hF1, hK1, hs1⟩
  replace HT := Lib.hid (HT.out.next hK1 hF1)
  clear hF1 hK1 hs1
  go_upto_if 24 with fail
  go_cut [] (fun wx => ∃ v' : Val, Tls w wx 33 g p q v')
  case first =>
    by_cases h0 : k = 0
    · subst h0
      go_wp2_with fail
      go_meet
      exact ⟨v, HT.out.more (by omega)⟩
    · have h0' : (k : Int) > 0 := by omega
      go_wp2_with fail
      refine (feedvalue_any (a := 31) _ (by omega) HT.out.feed).mono ?_
      rintro e w9 ⟨vk, vn, vx, vs, vb, hv1, hv2, hv3, hv4, rfl, hF1, hK1⟩
      replace HT := Lib.hid (HT.out.next hK1 hF1)
      have HS := Lib.hid (Pd.right_small hv1 hv2 hv3 hv4)
      clear hF1 hK1 hv1 hv2 hv3 hv4
      have HR := Lib.hid HT.out.rv
      go_wp2_with (first | (refine wpList_store_part rfl 24 _ _ rfl (w.heap.size + 2) 0 _ [.int .i64 vk, .int .i64 vn, .float .f64 vx, .string vs, .bool vb] rfl rfl rfl 24 v.cells HR.out val_size (Nat.le_refl 5) (Val.one5 ⟨vk, vn, vx, vs, vb⟩) ?_) | fail)
      go_meet
      exact ⟨⟨vk, vn, vx, vs, vb⟩, HT.out.put ⟨vk, vn, vx, vs, vb⟩ HS.out.fit⟩
  case rest =>
  obtain ⟨v1, hT⟩ := hcut
  clear HT
  have HT := Lib.hid hT
  clear hT
  generalize wc = w6 at HT ⊢
  go_wp2_with fail
  refine (next_any (a := 33) 4 (by omega) (by omega) _ (by omega) HT.out.feed).mono ?_
  rintro e w7 ⟨k2, hk2, rfl, hF1, hK1, hs1⟩
  replace HT := Lib.hid (HT.out.next hK1 hF1)
  clear hF1 hK1 hs1
  go_upto_if 29 with fail
  go_cut [] (fun wx => ∃ v' : Val, Tls w wx 34 g p q v')
  case first =>
    by_cases h0 : (k2 : Int) = 0
    · have hq := cells_row HT.out.rq
      have hv : ∀ j u, q.p.v.cells[j]? = some u → w7.cell? ⟨g + 1, 2 + j, none⟩ = some u := by
        intro j u hj
        have hj5 : j < 5 := (List.getElem?_eq_some_iff.1 hj).1
        have := hq (2 + j) u (by
          match j, hj5 with
          | 0, _ | 1, _ | 2, _ | 3, _ | 4, _ => exact hj)
        rw [Nat.zero_add] at this
        exact this
      have HQ := Lib.hid hv
      have HR := Lib.hid HT.out.rv
      clear hq hv
      go_wp2_with (first | (refine wpList_load_at rfl 24 _ rfl (g + 1) 2 q.p.v.cells _ rfl HQ.out Try.underlying24 rfl val_size ?_; dsimp only [Val.cells]) | (refine wpList_store_part rfl 24 _ _ rfl (w.heap.size + 2) 0 _ q.p.v.cells rfl rfl rfl 24 v1.cells HR.out val_size (Nat.le_refl 5) (Val.one5 _) ?_) | fail)
      go_meet
      exact ⟨q.p.v, HT.out.put q.p.v HT.out.iq.is.fv⟩
    · go_wp2_with fail
      go_meet
      exact ⟨v1, HT.out⟩
  case rest =>
  obtain ⟨v2, hT⟩ := hcut
  clear HT
  have HT := Lib.hid hT
  clear hT
  generalize wc = W4 at HT ⊢
  go_upto_region 7 with fail
  have B1 := pbox_row (p := p.p) HT.out.rp
  have B2 := pbox_row (p := q.p) HT.out.rq
  have B3 := vbox_row HT.out.rv
  obtain ⟨c0, c1, c2, c3, c4, c5, c6, c7, c8, c9, c10, c11, c12⟩ := B1
  obtain ⟨d0, d1, d2, d3, d4, d5, d6, d7, d8, d9, d10, d11, d12⟩ := B2
  obtain ⟨a0, a1, a2, a3, a4⟩ := B3
  haveI := later_some W4
  have K0 := Lib.hid (fun x : Later W4 => calls_later (x := x) (known_any x.at_))
  have R1 := Lib.hid (fun x : Later W4 => kr (c := p.c) HT.out.ip.is rfl x)
  have R2 := Lib.hid (fun x : Later W4 => kr (c := q.c) HT.out.iq.is rfl x)
  have S1 := Lib.hid (fun x : Later W4 => rright_l (x := x) (c := p.c) HT.out.ip.is)
  have S2 := Lib.hid (fun x : Later W4 => rright_l (x := x) (c := q.c) HT.out.iq.is)
  have T1 := Lib.hid (fun x : Later W4 => kt (c := p.c) (v := v2) HT.out.ip.is HT.out.fv rfl x)
  have T2 := Lib.hid (fun x : Later W4 => kt (c := q.c) (v := v2) HT.out.iq.is HT.out.fv rfl x)
  have U1 := Lib.hid (fun x : Later W4 => rtakes_l (x := x) (c := p.c) (v := v2) HT.out.ip.is HT.out.fv)
  have U2 := Lib.hid (fun x : Later W4 => rtakes_l (x := x) (c := q.c) (v := v2) HT.out.iq.is HT.out.fv)
  have V1 := Lib.hid (fun x : Later W4 => kv (c := q.c) HT.out.iq.is rfl x)
  have V2 := Lib.hid (fun x : Later W4 => rvoid_l (x := x) (c := q.c) HT.out.iq.is)
  have X1 := Lib.hid (fun x : Later W4 => calls_later (x := x) (psame_any (c := p.c) (d := q.c) (HT.out.ip.is.later x.below) (HT.out.iq.is.later x.below)))
  have X2 := Lib.hid (fun x : Later W4 => calls_later (x := x) (rsame_any (c := p.c) (d := q.c) (HT.out.ip.is.later x.below) (HT.out.iq.is.later x.below)))
  have X3 : Hid (∀ x : Later W4, Calls Try.prog 24 #[pv p.p p.A p.p.set.length p.c, pv p.p p.A p.p.set.length p.c] x.at_ fun e w' => e = .returned (.bool true) ∧ ∃ y : Later W4, w' = y.at_) := fun x => by
    have := calls_later (x := x) (psame_any (c := p.c) (d := p.c) (HT.out.ip.is.later x.below) (HT.out.ip.is.later x.below))
    rw [Pd.same_self] at this
    exact this
  have HB4 := Lib.hid HT.out.below
  generalize (Pd.right p.p && Pd.takes p.p v2) = i1 at T1 U1
  generalize (Pd.right q.p && Pd.takes q.p v2) = i2 at T2 U2
  generalize (Pd.right q.p && Pd.void q.p) = i3 at V1 V2
  generalize Pd.same p.p q.p = i4 at X1 X2
  generalize Pd.right p.p = i5 at R1 S1
  generalize Pd.right q.p = i6 at R2 S2
  clear HT
  refine wp_region_later (W := W4) (by kernel_rfl) (by kernel_rfl) (Below.refl _ _) ?_
  repeat (go_big_quiet_step (first | (go_at_call 20; exact K0.out _) | (go_at_call 15; first | with_reducible exact R1.out _ | with_reducible exact R2.out _) | (go_at_call 21; first | with_reducible exact S1.out _ | with_reducible exact S2.out _) | (go_at_call 11; first | with_reducible exact T1.out _ | with_reducible exact T2.out _) | (go_at_call 22; first | with_reducible exact U1.out _ | with_reducible exact U2.out _) | (go_at_call 14; with_reducible exact V1.out _) | (go_at_call 23; with_reducible exact V2.out _) | (go_at_call 24; first | with_reducible exact X1.out _ | with_reducible exact X3.out _) | (go_at_call 25; with_reducible exact X2.out _)))
  refine wpQuiet_nil ?_
  rintro _ ⟨z, rfl⟩
  go_wp2_with fail
  go_ret
  exact ⟨rfl, below_then HB4.out z.below⟩
end Go.Proofs.Ytddgpbokfglieaa
