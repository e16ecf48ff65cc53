
/- wire.Lay of frames that have no Subs: the contract. -/
import Derived.Test.YtgenmebmdpnjhaaGreatG11
import Derived.Test.YtgenmebmdpnjhaaGreatWireRight3
namespace Go.Proofs.YtgenmebmdpnjhaaGreat
open Go.RowKit
set_option linter.unusedVariables false
set_option maxRecDepth 100000

/-- How Lay ends. -/
def LayPost (l : List Nat) (w : World) (e : Ending) (w' : World) : Prop := ∃ v, e = .returned v ∧ OwnB w.heap.size w' v l ∧ Below w.heap.size w w'
theorem fr_cell {w : World} {g : Nat} {f : Fr} (h : w.heap[g]? = some (frbox f)) : ∀ j v, f.cells[j]? = some v → w.cell? ⟨g, j, none⟩ = some v := fun j v hj => by have := frbox_cells h j v hj; rw [Nat.zero_add] at this; exact this

set_option maxHeartbeats 8000000 in
theorem lay_wrong {f : Fr} {w : World} (h : IsFr w f) (hr : Wr.right f = false) : Calls Tryz.prog 15 #[frv f] w fun e w' => e = .returned (.slice none 0 0) ∧ Below w.heap.size w w' := by
  have hn := one_new w (frbox f)
  have HR := Lib.hid (heap_alloc_new w (frbox f))
  have HF := Lib.hid (h.later hn)
  have HB := Lib.hid hn
  clear h hn
  go_enter Tryz.func15, Tryz.ntmps15
  go_upto_region 1 with fail
  dsimp only [frbox] at HR HF HB
  generalize w.alloc _ = w1 at HR HF HB ⊢
  have HC := Lib.hid (frbox_cells HR.out)
  go_wp2_with (first | (refine wpList_load_at rfl 38 _ rfl w.heap.size 0 f.cells _ rfl HC.out Tryz.underlying38 rfl fr_size ?_; dsimp only [Fr.cells]) | fail)
  refine (wright_any (f := f) HF.out).mono ?_
  rw [hr]
  rintro e w2 ⟨rfl, hb⟩
  have HB2 := Lib.hid (below_then HB.out hb)
  clear hb
  go_wp2_with fail
  go_ret
  exact ⟨rfl, HB2.out⟩
set_option maxHeartbeats 16000000 in
theorem lay_stop {f : Fr} {w : World} (h : IsFr w f) (hk : f.k = 2) (hr : Wr.right f = true) : Calls Tryz.prog 15 #[frv f] w (LayPost (natw 2 ++ [f.ep].flatMap natw) w) := by
  have hn := one_new w (frbox f)
  have HR := Lib.hid (heap_alloc_new w (frbox f))
  have HF := Lib.hid (h.later hn)
  have HB := Lib.hid hn
  have HK := Lib.hid hk
  have H0 := Lib.hid h
  clear h hn hk
  go_enter Tryz.func15, Tryz.ntmps15
  go_upto_region 1 with fail
  dsimp only [frbox] at HR HF HB
  generalize w.alloc _ = w1 at HR HF HB ⊢
  have HC := Lib.hid (frbox_cells HR.out)
  go_wp2_with (first | (refine wpList_load_at rfl 38 _ rfl w.heap.size 0 f.cells _ rfl HC.out Tryz.underlying38 rfl fr_size ?_; dsimp only [Fr.cells]) | fail)
  refine (wright_any (f := f) HF.out).mono ?_
  rw [hr]
  rintro e w2 ⟨rfl, hb⟩
  have HB2 := Lib.hid (below_then HB.out hb)
  have HR2 : Hid (w2.heap[w.heap.size]? = some (frbox f)) := Lib.hid (below_row hb HR.out)
  clear hb hr HR HF HB HC
  have k0 := (fr_cell HR2.out 0 _ rfl).trans (congrArg (fun z : Int => some (Value.int .i64 z)) HK.out)
  go_wp2_with fail
  refine (addnats_new [2] (ownb_nil w.heap.size w2 HB2.out.size) (by decide) 1 rfl _ rfl).mono ?_
  rintro r w3 ⟨v3, rfl, hO, hK⟩
  rw [natw_one, List.nil_append] at hO
  have HO3 := Lib.hid hO
  have HR3 : Hid (w3.heap[w.heap.size]? = some (frbox f)) := Lib.hid (hK.obj _ _ _ _ HR2.out (by decide))
  have HB3 := Lib.hid (HB2.out.trans hK.below)
  clear hO hK k0 HR2 HB2
  have k0 := (fr_cell HR3.out 0 _ rfl).trans (congrArg (fun z : Int => some (Value.int .i64 z)) HK.out)
  have k5 := fr_cell HR3.out 5 _ rfl
  go_wp2_with fail
  refine (addnats_new [f.ep] HO3.out (by show (natw 2).length + 9 * 1 ≤ 900000; have := natw_len 2; omega) 1 rfl _ rfl).mono ?_
  rintro r w4 ⟨v4, rfl, hO, hK⟩
  have HO4 := Lib.hid hO
  have HB4 := Lib.hid (HB3.out.trans hK.below)
  clear hO hK k0 k5 HR3 HB3 HO3
  go_wp2_with fail
  go_ret
  exact ⟨_, rfl, HO4.out, HB4.out⟩
set_option maxHeartbeats 16000000 in
theorem lay_quiet {f : Fr} {w : World} (h : IsFr w f) (hk : f.k = 3) (hr : Wr.right f = true) : Calls Tryz.prog 15 #[frv f] w (LayPost (natw 3 ++ [f.ep].flatMap natw) w) := by
  have hn := one_new w (frbox f)
  have HR := Lib.hid (heap_alloc_new w (frbox f))
  have HF := Lib.hid (h.later hn)
  have HB := Lib.hid hn
  have HK := Lib.hid hk
  have H0 := Lib.hid h
  clear h hn hk
  go_enter Tryz.func15, Tryz.ntmps15
  go_upto_region 1 with fail
  dsimp only [frbox] at HR HF HB
  generalize w.alloc _ = w1 at HR HF HB ⊢
  have HC := Lib.hid (frbox_cells HR.out)
  go_wp2_with (first | (refine wpList_load_at rfl 38 _ rfl w.heap.size 0 f.cells _ rfl HC.out Tryz.underlying38 rfl fr_size ?_; dsimp only [Fr.cells]) | fail)
  refine (wright_any (f := f) HF.out).mono ?_
  rw [hr]
  rintro e w2 ⟨rfl, hb⟩
  have HB2 := Lib.hid (below_then HB.out hb)
  have HR2 : Hid (w2.heap[w.heap.size]? = some (frbox f)) := Lib.hid (below_row hb HR.out)
  clear hb hr HR HF HB HC
  have k0 := (fr_cell HR2.out 0 _ rfl).trans (congrArg (fun z : Int => some (Value.int .i64 z)) HK.out)
  go_wp2_with fail
  refine (addnats_new [3] (ownb_nil w.heap.size w2 HB2.out.size) (by decide) 1 rfl _ rfl).mono ?_
  rintro r w3 ⟨v3, rfl, hO, hK⟩
  rw [natw_one, List.nil_append] at hO
  have HO3 := Lib.hid hO
  have HR3 : Hid (w3.heap[w.heap.size]? = some (frbox f)) := Lib.hid (hK.obj _ _ _ _ HR2.out (by decide))
  have HB3 := Lib.hid (HB2.out.trans hK.below)
  clear hO hK k0 HR2 HB2
  have k0 := (fr_cell HR3.out 0 _ rfl).trans (congrArg (fun z : Int => some (Value.int .i64 z)) HK.out)
  have k5 := fr_cell HR3.out 5 _ rfl
  go_wp2_with fail
  refine (addnats_new [f.ep] HO3.out (by show (natw 3).length + 9 * 1 ≤ 900000; have := natw_len 3; omega) 1 rfl _ rfl).mono ?_
  rintro r w4 ⟨v4, rfl, hO, hK⟩
  have HO4 := Lib.hid hO
  have HB4 := Lib.hid (HB3.out.trans hK.below)
  clear hO hK k0 k5 HR3 HB3 HO3
  go_wp2_with fail
  go_ret
  exact ⟨_, rfl, HO4.out, HB4.out⟩
set_option maxHeartbeats 16000000 in
theorem lay_passed {f : Fr} {w : World} (h : IsFr w f) (hk : f.k = 7) (hr : Wr.right f = true) : Calls Tryz.prog 15 #[frv f] w (LayPost (natw 7 ++ [f.tb, f.cl, f.sq].flatMap natw) w) := by
  have hn := one_new w (frbox f)
  have HR := Lib.hid (heap_alloc_new w (frbox f))
  have HF := Lib.hid (h.later hn)
  have HB := Lib.hid hn
  have HK := Lib.hid hk
  have H0 := Lib.hid h
  clear h hn hk
  go_enter Tryz.func15, Tryz.ntmps15
  go_upto_region 1 with fail
  dsimp only [frbox] at HR HF HB
  generalize w.alloc _ = w1 at HR HF HB ⊢
  have HC := Lib.hid (frbox_cells HR.out)
  go_wp2_with (first | (refine wpList_load_at rfl 38 _ rfl w.heap.size 0 f.cells _ rfl HC.out Tryz.underlying38 rfl fr_size ?_; dsimp only [Fr.cells]) | fail)
  refine (wright_any (f := f) HF.out).mono ?_
  rw [hr]
  rintro e w2 ⟨rfl, hb⟩
  have HB2 := Lib.hid (below_then HB.out hb)
  have HR2 : Hid (w2.heap[w.heap.size]? = some (frbox f)) := Lib.hid (below_row hb HR.out)
  clear hb hr HR HF HB HC
  have k0 := (fr_cell HR2.out 0 _ rfl).trans (congrArg (fun z : Int => some (Value.int .i64 z)) HK.out)
  go_wp2_with fail
  refine (addnats_new [7] (ownb_nil w.heap.size w2 HB2.out.size) (by decide) 1 rfl _ rfl).mono ?_
  rintro r w3 ⟨v3, rfl, hO, hK⟩
  rw [natw_one, List.nil_append] at hO
  have HO3 := Lib.hid hO
  have HR3 : Hid (w3.heap[w.heap.size]? = some (frbox f)) := Lib.hid (hK.obj _ _ _ _ HR2.out (by decide))
  have HB3 := Lib.hid (HB2.out.trans hK.below)
  clear hO hK k0 HR2 HB2
  have k0 := (fr_cell HR3.out 0 _ rfl).trans (congrArg (fun z : Int => some (Value.int .i64 z)) HK.out)
  have k1 := fr_cell HR3.out 1 _ rfl
  have k3 := fr_cell HR3.out 3 _ rfl
  have k4 := fr_cell HR3.out 4 _ rfl
  go_wp2_with fail
  refine (addnats_new [f.tb, f.cl, f.sq] HO3.out (by show (natw 7).length + 9 * 3 ≤ 900000; have := natw_len 7; omega) 3 rfl _ rfl).mono ?_
  rintro r w4 ⟨v4, rfl, hO, hK⟩
  have HO4 := Lib.hid hO
  have HB4 := Lib.hid (HB3.out.trans hK.below)
  clear hO hK k0 k1 k3 k4 HR3 HB3 HO3
  go_wp2_with fail
  go_ret
  exact ⟨_, rfl, HO4.out, HB4.out⟩
set_option maxHeartbeats 16000000 in
theorem lay_done {f : Fr} {w : World} (h : IsFr w f) (hk : f.k = 8) (hr : Wr.right f = true) : Calls Tryz.prog 15 #[frv f] w (LayPost (natw 8 ++ [f.tb, f.cl, f.sq, f.fm].flatMap natw) w) := by
  have hn := one_new w (frbox f)
  have HR := Lib.hid (heap_alloc_new w (frbox f))
  have HF := Lib.hid (h.later hn)
  have HB := Lib.hid hn
  have HK := Lib.hid hk
  have H0 := Lib.hid h
  clear h hn hk
  go_enter Tryz.func15, Tryz.ntmps15
  go_upto_region 1 with fail
  dsimp only [frbox] at HR HF HB
  generalize w.alloc _ = w1 at HR HF HB ⊢
  have HC := Lib.hid (frbox_cells HR.out)
  go_wp2_with (first | (refine wpList_load_at rfl 38 _ rfl w.heap.size 0 f.cells _ rfl HC.out Tryz.underlying38 rfl fr_size ?_; dsimp only [Fr.cells]) | fail)
  refine (wright_any (f := f) HF.out).mono ?_
  rw [hr]
  rintro e w2 ⟨rfl, hb⟩
  have HB2 := Lib.hid (below_then HB.out hb)
  have HR2 : Hid (w2.heap[w.heap.size]? = some (frbox f)) := Lib.hid (below_row hb HR.out)
  clear hb hr HR HF HB HC
  have k0 := (fr_cell HR2.out 0 _ rfl).trans (congrArg (fun z : Int => some (Value.int .i64 z)) HK.out)
  go_wp2_with fail
  refine (addnats_new [8] (ownb_nil w.heap.size w2 HB2.out.size) (by decide) 1 rfl _ rfl).mono ?_
  rintro r w3 ⟨v3, rfl, hO, hK⟩
  rw [natw_one, List.nil_append] at hO
  have HO3 := Lib.hid hO
  have HR3 : Hid (w3.heap[w.heap.size]? = some (frbox f)) := Lib.hid (hK.obj _ _ _ _ HR2.out (by decide))
  have HB3 := Lib.hid (HB2.out.trans hK.below)
  clear hO hK k0 HR2 HB2
  have k0 := (fr_cell HR3.out 0 _ rfl).trans (congrArg (fun z : Int => some (Value.int .i64 z)) HK.out)
  have k1 := fr_cell HR3.out 1 _ rfl
  have k3 := fr_cell HR3.out 3 _ rfl
  have k4 := fr_cell HR3.out 4 _ rfl
  have k2 := fr_cell HR3.out 2 _ rfl
  go_wp2_with fail
  refine (addnats_new [f.tb, f.cl, f.sq, f.fm] HO3.out (by show (natw 8).length + 9 * 4 ≤ 900000; have := natw_len 8; omega) 4 rfl _ rfl).mono ?_
  rintro r w4 ⟨v4, rfl, hO, hK⟩
  have HO4 := Lib.hid hO
  have HB4 := Lib.hid (HB3.out.trans hK.below)
  clear hO hK k0 k1 k3 k4 k2 HR3 HB3 HO3
  go_wp2_with fail
  go_ret
  exact ⟨_, rfl, HO4.out, HB4.out⟩
set_option maxHeartbeats 16000000 in
theorem lay_fall {f : Fr} {w : World} (h : IsFr w f) (hk : f.k = 6) (hr : Wr.right f = true) (hs : EvLays f.e) : Calls Tryz.prog 15 #[frv f] w (LayPost (natw 6 ++ eventb f.e) w) := by
  have hn := one_new w (frbox f)
  have HR := Lib.hid (heap_alloc_new w (frbox f))
  have HF := Lib.hid (h.later hn)
  have HB := Lib.hid hn
  have HK := Lib.hid hk
  have H0 := Lib.hid h
  clear h hn hk
  go_enter Tryz.func15, Tryz.ntmps15
  go_upto_region 1 with fail
  dsimp only [frbox] at HR HF HB
  generalize w.alloc _ = w1 at HR HF HB ⊢
  have HC := Lib.hid (frbox_cells HR.out)
  go_wp2_with (first | (refine wpList_load_at rfl 38 _ rfl w.heap.size 0 f.cells _ rfl HC.out Tryz.underlying38 rfl fr_size ?_; dsimp only [Fr.cells]) | fail)
  refine (wright_any (f := f) HF.out).mono ?_
  rw [hr]
  rintro e w2 ⟨rfl, hb⟩
  have HB2 := Lib.hid (below_then HB.out hb)
  have HR2 : Hid (w2.heap[w.heap.size]? = some (frbox f)) := Lib.hid (below_row hb HR.out)
  clear hb hr HR HF HB HC
  have k0 := (fr_cell HR2.out 0 _ rfl).trans (congrArg (fun z : Int => some (Value.int .i64 z)) HK.out)
  go_wp2_with fail
  refine (addnats_new [6] (ownb_nil w.heap.size w2 HB2.out.size) (by decide) 1 rfl _ rfl).mono ?_
  rintro r w3 ⟨v3, rfl, hO, hK⟩
  rw [natw_one, List.nil_append] at hO
  have HO3 := Lib.hid hO
  have HR3 : Hid (w3.heap[w.heap.size]? = some (frbox f)) := Lib.hid (hK.obj _ _ _ _ HR2.out (by decide))
  have HB3 := Lib.hid (HB2.out.trans hK.below)
  clear hO hK k0 HR2 HB2
  have k0 := (fr_cell HR3.out 0 _ rfl).trans (congrArg (fun z : Int => some (Value.int .i64 z)) HK.out)
  have HC3 := Lib.hid (cells_part (frbox_cells HR3.out) (Nat.zero_add 6) (fr_ev f))
  go_wp2_with (first | (refine wpList_load_at rfl 30 _ rfl w.heap.size 6 f.e.cells _ rfl HC3.out Tryz.underlying30 rfl ev_size ?_; dsimp only [Ev.cells]) | fail)
  refine (addevent_any (e := f.e) (W0 := w) rfl HO3.out H0.out.e hs HB3.out (by have := natw_len 6; omega)).mono ?_
  rintro r w4 ⟨v4, rfl, hO, hK⟩
  have HO4 := Lib.hid hO
  have HB4 := Lib.hid (HB3.out.trans hK.below)
  clear hO hK k0 HR3 HB3 HO3 HC3
  go_wp2_with fail
  go_ret
  exact ⟨_, rfl, HO4.out, HB4.out⟩
end Go.Proofs.YtgenmebmdpnjhaaGreat
