
/- PredImplies: the walk. -/
import Derived.Test.YtddgpbokfglieaaPreds
import Derived.Test.YtddgpbokfglieaaPredAlike
import Derived.Test.YtddgpbokfglieaaPredSound
import Derived.Test.YtddgpbokfglieaaRefPrd3
namespace Go.Proofs.Ytddgpbokfglieaa
open Go.RowKit
set_option linter.unusedVariables false

namespace Pd
theorem sames_self : ∀ l : List Val, sames l l = true
  | [] => rfl
  | a :: l => by rw [sames, sames_self l, Vl.same_self]; rfl
theorem sameT_self (p : Prd) : sameT p p = true := by unfold sameT; rw [Vl.same_self, Vl.same_self, sames_self]; simp
theorem same_self (p : Prd) : same p p = true := by unfold same; rw [sameT_self]; simp
theorem implies_self (p : Prd) : implies p p = right p := by
  cases h : right p
  · exact imp_wrong (.inl h)
  · exact imp_yes h h (.inr (.inr (sameT_self p)))
end Pd
theorem three_new (w : World) (o1 o2 o3 : Obj) : ∃ W, W = (((w.alloc o1).alloc o2).alloc o3) ∧ W.heap[w.heap.size]? = some o1 ∧ W.heap[w.heap.size + 1]? = some o2 ∧ W.heap[w.heap.size + 2]? = some o3 ∧ Below w.heap.size w W := by
  have s1 : (w.alloc o1).heap.size = w.heap.size + 1 := by simp
  have s2 : ((w.alloc o1).alloc o2).heap.size = w.heap.size + 2 := by simp
  refine ⟨_, rfl, ?_, ?_, ?_, below_then (below_then (one_new _ _) (one_new _ _)) (one_new _ _)⟩
  · exact below_row (one_new _ _) (below_row (one_new _ _) (heap_alloc_new _ _))
  · have := heap_alloc_new (w.alloc o1) o2
    rw [s1] at this
    exact below_row (one_new _ _) this
  · have := heap_alloc_new ((w.alloc o1).alloc o2) o3
    rw [s2] at this
    exact this
/-- A raw test, as an argument. -/
structure IsArg (w : World) (x : Pt) : Prop where
  is : IsPt w x
  low : ∀ z, x.A = some z → z.spot = none ∧ z.block < w.heap.size
  room : x.p.set.length ≤ x.c

set_option maxRecDepth 100000 in
set_option maxHeartbeats 8000000 in
theorem pimplies_walk (x y : Pt) (L : Option Addr) (len cap : Nat) (w : World) (ax : IsArg w x) (ay : IsArg w y) (hd : Draws w.heap.size w L len) :
    Calls Try.prog 5 #[pv x.p x.A x.p.set.length x.c, pv y.p y.A y.p.set.length y.c, .slice L len cap] w fun e w' => e = .returned (.bool true) ∧ Below w.heap.size w w' := by
  have h2 := two_new w x.box y.box
  have e2 : ((w.alloc x.box).alloc y.box).heap.size = w.heap.size + 1 + 1 := by simp
  have hF := feed_at (cap := cap) (hd.later h2 (Nat.le_refl _)) h2.size 40
  rw [e2] at hF
  obtain ⟨W, hW, r1, r2, -, hb⟩ := three_new w x.box y.box (.cells #[.slice L len cap, .int .i64 0] 40)
  rw [← hW] at hF
  have HW := Lib.hid hW
  have HF := Lib.hid hF
  have HX := Lib.hid (cells_row r1)
  have HY := Lib.hid (cells_row r2)
  have HB := Lib.hid hb
  have HAX := Lib.hid ax
  have HAY := Lib.hid ay
  clear h2 e2 hF hW r1 r2 hb ax ay hd
  have hst := store_float
  go_enter Try.func5, Try.ntmps5
  go_upto_region 2 with fail
  dsimp only [Pt.box, Pt.cells, List.length_nil] at HW
  rw [← HW.out]
  clear HW
  go_wp2_with (first | (refine wpList_load_at rfl 30 _ rfl w.heap.size 0 x.cells _ rfl HX.out Try.underlying30 rfl prd_size ?_; dsimp only [Pt.cells]) | (refine wpList_load_at rfl 30 _ rfl (w.heap.size + 1) 0 y.cells _ rfl HY.out Try.underlying30 rfl prd_size ?_; dsimp only [Pt.cells]) | fail)
  refine (preds_any (B := w.heap.size) (a := 0) (x := x) (y := y) _ (by omega) HF.out (HAX.out.is.later HB.out) (HAY.out.is.later HB.out) HAX.out.low HAY.out.low HAX.out.room HAY.out.room).mono ?_
  rintro e w4 ⟨p, q, rfl, ip, iq, ap, aq, hF, hK⟩
  have hb4 : Below w.heap.size w w4 := HB.out.trans (hK.below HB.out.size (by intro i hi e; omega))
  obtain ⟨W4, hW4, g1, g2⟩ : ∃ W4, W4 = (w4.alloc p.box).alloc q.box ∧ W4.heap[w4.heap.size]? = some p.box ∧ W4.heap[w4.heap.size + 1]? = some q.box := by
    refine ⟨_, rfl, below_row (one_new _ _) (heap_alloc_new _ _), ?_⟩
    have := heap_alloc_new (w4.alloc p.box) q.box
    rw [World.size_alloc] at this
    exact this
  have hb5 : Below w4.heap.size w4 W4 := hW4 ▸ two_new _ _ _
  have IP := Lib.hid (ip.later hb5).is
  have IQ := Lib.hid (iq.later hb5).is
  have HB4 := Lib.hid (below_then hb4 hb5)
  have HW4 := Lib.hid hW4
  have HG1 := Lib.hid g1
  have HG2 := Lib.hid g2
  clear HF HX HY HB HAX HAY ip iq ap aq hF hK hb4 hb5 hW4 g1 g2
  dsimp only [Pt.v, Pt.cells]
  go_upto_region 3 with fail
  dsimp only [Pt.box, Pt.cells] at HW4
  rw [← HW4.out]
  clear HW4
  generalize w4.heap.size = g at HG1 HG2 ⊢
  have B1 := pbox_row (p := p.p) HG1.out
  have B2 := pbox_row (p := q.p) HG2.out
  obtain ⟨c0, c1, c2, c3, c4, c5, c6, c7, c8, c9, c10, c11, c12⟩ := B1
  obtain ⟨d0, d1, d2, d3, d4, d5, d6, d7, d8, d9, d10, d11, d12⟩ := B2
  haveI := later_some W4
  have K0 := Lib.hid (fun x : Later W4 => calls_later (x := x) (known_any x.at_))
  have K1 := Lib.hid (fun x : Later W4 => ki (c := p.c) (d := q.c) IP.out IQ.out rfl x)
  have K2 := Lib.hid (fun x : Later W4 => ki (c := q.c) (d := p.c) IQ.out IP.out rfl x)
  have K3 := Lib.hid (fun x : Later W4 => ki (c := p.c) (d := p.c) IP.out IP.out (Pd.implies_self p.p) x)
  have R1 := Lib.hid (fun x : Later W4 => rimplies_l (x := x) (c := p.c) (d := q.c) IP.out IQ.out)
  have R2 := Lib.hid (fun x : Later W4 => rimplies_l (x := x) (c := q.c) (d := p.c) IQ.out IP.out)
  have KR := Lib.hid (fun x : Later W4 => kr (c := p.c) IP.out rfl x)
  generalize Pd.implies p.p q.p = i1 at K1 R1
  generalize Pd.implies q.p p.p = i2 at K2 R2
  generalize Pd.right p.p = i3 at K3 KR
  clear IP IQ
  refine wp_region_later (W := W4) (by kernel_rfl) (by kernel_rfl) (Below.refl _ _) ?_
  repeat (go_big_quiet_step (first | (go_at_call 20; exact K0.out _) | (go_at_call 13; first | with_reducible exact K1.out _ | with_reducible exact K2.out _ | with_reducible exact K3.out _) | (go_at_call 26; first | with_reducible exact R1.out _ | with_reducible exact R2.out _) | (go_at_call 15; with_reducible exact KR.out _)))
  refine wpQuiet_nil ?_
  rintro _ ⟨z, rfl⟩
  go_wp2_with fail
  go_ret
  exact ⟨rfl, below_then HB4.out z.below⟩
end Go.Proofs.Ytddgpbokfglieaa
