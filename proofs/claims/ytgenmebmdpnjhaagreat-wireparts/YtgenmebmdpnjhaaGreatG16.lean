/- G16: WireLay6, WireLay7 in one text. -/
import Derived.Test.YtgenmebmdpnjhaaGreatG12
import Derived.Test.YtgenmebmdpnjhaaGreatWireLay3
import Derived.Test.YtgenmebmdpnjhaaGreatG13
namespace Go.Proofs.YtgenmebmdpnjhaaGreat
open Go.RowKit
set_option linter.unusedVariables false
set_option maxRecDepth 100000

set_option maxHeartbeats 16000000 in
theorem lay_change {f : Fr} {w : World} (h : IsFr w f) (hk : f.k = 1) (hr : Wr.right f = true) (hs : FtLays f.s.f) : Calls Tryz.prog 15 #[frv f] w (LayPost (natw 1 ++ changeb f.g f.s) w) := by
  have hn := one_new w (frbox f)
  have HR := Lib.hid (heap_alloc_new w (frbox f))
  have HF := Lib.hid (h.later hn)
  have HB := Lib.hid hn
  have HK := Lib.hid hk
  have H0 := Lib.hid h
  have HS := Lib.hid hs
  clear h hn hk hs
  go_enter Tryz.func15, Tryz.ntmps15
  go_upto_region 1 with fail
  dsimp only [frbox] at HR HF HB
  generalize w.alloc _ = w1 at HR HF HB ⊢
  have HC := Lib.hid (frbox_cells HR.out)
  go_wp2_with (first | (refine wpList_load_at rfl 38 _ rfl w.heap.size 0 f.cells _ rfl HC.out Tryz.underlying38 rfl fr_size ?_; dsimp only [Fr.cells]) | fail)
  refine (wright_any (f := f) HF.out).mono ?_
  rw [hr]
  rintro e w2 ⟨rfl, hb⟩
  have HB2 := Lib.hid (below_then HB.out hb)
  have HR2 : Hid (w2.heap[w.heap.size]? = some (frbox f)) := Lib.hid (below_row hb HR.out)
  clear hb hr HR HF HB HC
  have k0 := (fr_cell HR2.out 0 _ rfl).trans (congrArg (fun z : Int => some (Value.int .i64 z)) HK.out)
  go_wp2_with fail
  refine (addnats_new [1] (ownb_nil w.heap.size w2 HB2.out.size) (by decide) 1 rfl _ rfl).mono ?_
  rintro r w3 ⟨v3, rfl, hO, hK⟩
  rw [natw_one, List.nil_append] at hO
  have HO3 := Lib.hid hO
  have HR3 : Hid (w3.heap[w.heap.size]? = some (frbox f)) := Lib.hid (hK.obj _ _ _ _ HR2.out (by decide))
  have HB3 := Lib.hid (HB2.out.trans hK.below)
  clear hO hK k0 HR2 HB2
  have k0 := (fr_cell HR3.out 0 _ rfl).trans (congrArg (fun z : Int => some (Value.int .i64 z)) HK.out)
  have hnk : (natw 1).length ≤ 9 := natw_len 1
  have HC3 := Lib.hid (cells_part (frbox_cells HR3.out) (Nat.zero_add 13) (fr_ch f))
  go_wp2_with (first | (refine wpList_load_at rfl 35 _ rfl w.heap.size 13 (chcells f.g f.s) _ rfl HC3.out Tryz.underlying35 rfl ch_size ?_; dsimp only [chcells, Sb.cells]) | fail)
  refine (addchange_any (b := f.g) (s := f.s) (W0 := w) rfl HO3.out H0.out.s HS.out HB3.out (by omega)).mono ?_
  rintro r w4 ⟨v4, rfl, hO, hK⟩
  have HO4 := Lib.hid hO
  have HB4 := Lib.hid (HB3.out.trans hK.below)
  clear hO hK k0 HR3 HB3 HO3 HC3
  go_wp2_with fail
  go_ret
  exact ⟨_, rfl, HO4.out, HB4.out⟩

set_option maxHeartbeats 16000000 in
theorem lay_open {f : Fr} {w : World} (h : IsFr w f) (hk : f.k = 4) (hr : Wr.right f = true) (hs : (∀ s, s ∈ f.l → FtLays s.f) ∧ f.l.length ≤ 30) : Calls Tryz.prog 15 #[frv f] w (LayPost (natw 4 ++ ([f.ep].flatMap natw ++ subsb f.l)) w) := by
  have hn := one_new w (frbox f)
  have HR := Lib.hid (heap_alloc_new w (frbox f))
  have HF := Lib.hid (h.later hn)
  have HB := Lib.hid hn
  have HK := Lib.hid hk
  have H0 := Lib.hid h
  have HS := Lib.hid hs
  clear h hn hk hs
  go_enter Tryz.func15, Tryz.ntmps15
  go_upto_region 1 with fail
  dsimp only [frbox] at HR HF HB
  generalize w.alloc _ = w1 at HR HF HB ⊢
  have HC := Lib.hid (frbox_cells HR.out)
  go_wp2_with (first | (refine wpList_load_at rfl 38 _ rfl w.heap.size 0 f.cells _ rfl HC.out Tryz.underlying38 rfl fr_size ?_; dsimp only [Fr.cells]) | fail)
  refine (wright_any (f := f) HF.out).mono ?_
  rw [hr]
  rintro e w2 ⟨rfl, hb⟩
  have HB2 := Lib.hid (below_then HB.out hb)
  have HR2 : Hid (w2.heap[w.heap.size]? = some (frbox f)) := Lib.hid (below_row hb HR.out)
  clear hb hr HR HF HB HC
  have k0 := (fr_cell HR2.out 0 _ rfl).trans (congrArg (fun z : Int => some (Value.int .i64 z)) HK.out)
  go_wp2_with fail
  refine (addnats_new [4] (ownb_nil w.heap.size w2 HB2.out.size) (by decide) 1 rfl _ rfl).mono ?_
  rintro r w3 ⟨v3, rfl, hO, hK⟩
  rw [natw_one, List.nil_append] at hO
  have HO3 := Lib.hid hO
  have HR3 : Hid (w3.heap[w.heap.size]? = some (frbox f)) := Lib.hid (hK.obj _ _ _ _ HR2.out (by decide))
  have HB3 := Lib.hid (HB2.out.trans hK.below)
  clear hO hK k0 HR2 HB2
  have k0 := (fr_cell HR3.out 0 _ rfl).trans (congrArg (fun z : Int => some (Value.int .i64 z)) HK.out)
  have hnk : (natw 4).length ≤ 9 := natw_len 4
  go_upto_region 11 with fail
  refine held_begin (fun z => Keep w.heap.size w3 z) (by kernel_rfl) ?_
  have HKn : Hid (Keep w.heap.size w3 w3.drew) := Lib.hid (Keep.later HO3.out.2 (drew_below w3))
  have HO2 := Lib.hid (HO3.out.later (drew_below w3))
  generalize w3.drew = wd at HKn HO2 ⊢
  refine held_read (i := 0) (o := { dst := some 29, op := Op.move (Operand.tmp 3), type := 23, pos := "lay.go:21", after := #[], guard := none }) (v := ?_) rfl (by kernel_rfl) (by kernel_rfl) (by kernel_rfl) (fun _ _ _ h => h) (by rfl) (by first | exact HK5.out | exact HK4.out | exact HKn.out) ?_ ?_
  rotate_left
  · (intro x0 hx; have hrow : x0.heap[w.heap.size]? = some (frbox f) := hx.obj _ _ _ _ HR3.out (by decide); have r1 := fr_cell hrow 1 _ rfl; have r5 := fr_cell hrow 5 _ rfl; have r18 := fr_cell hrow 18 _ rfl; have e6 := cells_part (frbox_cells hrow) (Nat.zero_add 6) (fr_ev f); first | (refine load_run rfl rfl e6 Tryz.underlying30 rfl ev_size ?_; rfl) | (go_simp; try with_reducible rfl))
  try simp only [Act.put, List.setIfInBounds_toArray, List.set_cons_zero, List.set_cons_succ]
  refine held_read (i := 1) (o := { dst := some 30, op := Op.fieldAddr 38 (Operand.tmp 1) 5, type := 0, pos := "lay.go:21", after := #[], guard := none }) (v := ?_) rfl (by kernel_rfl) (by kernel_rfl) (by kernel_rfl) (fun _ _ _ h => h) (by rfl) (by first | exact HK5.out | exact HK4.out | exact HKn.out) ?_ ?_
  rotate_left
  · (intro x0 hx; have hrow : x0.heap[w.heap.size]? = some (frbox f) := hx.obj _ _ _ _ HR3.out (by decide); have r1 := fr_cell hrow 1 _ rfl; have r5 := fr_cell hrow 5 _ rfl; have r18 := fr_cell hrow 18 _ rfl; have e6 := cells_part (frbox_cells hrow) (Nat.zero_add 6) (fr_ev f); first | (refine load_run rfl rfl e6 Tryz.underlying30 rfl ev_size ?_; rfl) | (go_simp; try with_reducible rfl))
  try simp only [Act.put, List.setIfInBounds_toArray, List.set_cons_zero, List.set_cons_succ]
  refine held_read (i := 2) (o := { dst := some 31, op := Op.load 3 (Operand.tmp 30), type := 3, pos := "lay.go:21", after := #[{ on := 1, ground := Ground.data }], guard := none }) (v := ?_) rfl (by kernel_rfl) (by kernel_rfl) (by kernel_rfl) (fun _ _ _ h => h) (by rfl) (by first | exact HK5.out | exact HK4.out | exact HKn.out) ?_ ?_
  rotate_left
  · (intro x0 hx; have hrow : x0.heap[w.heap.size]? = some (frbox f) := hx.obj _ _ _ _ HR3.out (by decide); have r1 := fr_cell hrow 1 _ rfl; have r5 := fr_cell hrow 5 _ rfl; have r18 := fr_cell hrow 18 _ rfl; have e6 := cells_part (frbox_cells hrow) (Nat.zero_add 6) (fr_ev f); first | (refine load_run rfl rfl e6 Tryz.underlying30 rfl ev_size ?_; rfl) | (go_simp; try with_reducible rfl))
  try simp only [Act.put, List.setIfInBounds_toArray, List.set_cons_zero, List.set_cons_succ]
  refine held_read (i := 5) (o := { dst := some 34, op := Op.fieldAddr 38 (Operand.tmp 1) 8, type := 0, pos := "lay.go:21", after := #[], guard := none }) (v := ?_) rfl (by kernel_rfl) (by kernel_rfl) (by kernel_rfl) (fun _ _ _ h => h) (by rfl) (by first | exact HK5.out | exact HK4.out | exact HKn.out) ?_ ?_
  rotate_left
  · (intro x0 hx; have hrow : x0.heap[w.heap.size]? = some (frbox f) := hx.obj _ _ _ _ HR3.out (by decide); have r1 := fr_cell hrow 1 _ rfl; have r5 := fr_cell hrow 5 _ rfl; have r18 := fr_cell hrow 18 _ rfl; have e6 := cells_part (frbox_cells hrow) (Nat.zero_add 6) (fr_ev f); first | (refine load_run rfl rfl e6 Tryz.underlying30 rfl ev_size ?_; rfl) | (go_simp; try with_reducible rfl))
  try simp only [Act.put, List.setIfInBounds_toArray, List.set_cons_zero, List.set_cons_succ]
  refine held_read (i := 6) (o := { dst := some 35, op := Op.load 36 (Operand.tmp 34), type := 36, pos := "lay.go:21", after := #[{ on := 5, ground := Ground.data }], guard := none }) (v := ?_) rfl (by kernel_rfl) (by kernel_rfl) (by kernel_rfl) (fun _ _ _ h => h) (by rfl) (by first | exact HK5.out | exact HK4.out | exact HKn.out) ?_ ?_
  rotate_left
  · (intro x0 hx; have hrow : x0.heap[w.heap.size]? = some (frbox f) := hx.obj _ _ _ _ HR3.out (by decide); have r1 := fr_cell hrow 1 _ rfl; have r5 := fr_cell hrow 5 _ rfl; have r18 := fr_cell hrow 18 _ rfl; have e6 := cells_part (frbox_cells hrow) (Nat.zero_add 6) (fr_ev f); first | (refine load_run rfl rfl e6 Tryz.underlying30 rfl ev_size ?_; rfl) | (go_simp; try with_reducible rfl))
  try simp only [Act.put, List.setIfInBounds_toArray, List.set_cons_zero, List.set_cons_succ]
  refine held_call (i := 3) (o := { dst := some 32, op := Op.buildSlice 22 1 #[(0, Operand.tmp 31)], type := 22, pos := "lay.go:21", after := #[{ on := 2, ground := Ground.data }], guard := none }) rfl (by kernel_rfl) (by rfl) (fun K hK => ?_)
  go_simp
  refine hK.out _ _ (HKn.out.then (Keep.later HO2.out.2 (one_new wd (ibox [f.ep])))) ?_
  clear hK K
  try simp only [Act.put, List.setIfInBounds_toArray, List.set_cons_zero, List.set_cons_succ]
  refine held_call (i := 4) (o := { dst := some 33, op := Op.call { callee := Callee.value (Operand.func 46), args := #[Operand.tmp 29, Operand.tmp 32], argTypes := #[23, 22] }, type := 23, pos := "lay.go:21", after := #[{ on := 0, ground := Ground.data }, { on := 3, ground := Ground.data }], guard := none }) rfl (by kernel_rfl) (by rfl) (fun K hK => ?_)
  go_simp
  refine (addnats_new (w := wd) [f.ep] HO2.out (by show (natw 4).length + 9 * 1 ≤ 900000; omega) 1 rfl _ rfl).mono ?_
  rintro r w4 ⟨v4, rfl, hO, hK4⟩
  have HO4 := Lib.hid hO
  have HK4 := Lib.hid (HKn.out.then hK4)
  refine hK.out _ _ HK4.out ?_
  clear hK K hO hK4
  try simp only [Act.put, List.setIfInBounds_toArray, List.set_cons_zero, List.set_cons_succ]
  refine held_call (i := 7) (o := { dst := some 36, op := Op.call { callee := Callee.value (Operand.func 48), args := #[Operand.tmp 33, Operand.tmp 35], argTypes := #[23, 36] }, type := 23, pos := "lay.go:21", after := #[{ on := 4, ground := Ground.data }, { on := 6, ground := Ground.data }, { on := 4, ground := Ground.chain }], guard := none }) rfl (by kernel_rfl) (by rfl) (fun K hK => ?_)
  go_simp
  have hl4 : (natw 4 ++ [f.ep].flatMap natw).length ≤ 100 := by rw [List.length_append]; have : ([f.ep].flatMap natw).length ≤ 9 := natws_len [f.ep]; omega
  refine (addsubs_any (L := f.l) (W0 := w) rfl HO4.out H0.out.l HS.out.1 HS.out.2 (HB3.out.trans HK4.out.below) (by omega)).mono ?_
  rintro r w5 ⟨v5, rfl, hO, hK5⟩
  have HO5 := Lib.hid hO
  have HK5 := Lib.hid (HK4.out.then hK5)
  refine hK.out _ _ HK5.out ?_
  clear hK K hO hK5
  try simp only [Act.put, List.setIfInBounds_toArray, List.set_cons_zero, List.set_cons_succ]
  refine held_read (i := 8) (o := { dst := some 2, op := Op.assign (Operand.tmp 36), type := 23, pos := "lay.go:21", after := #[{ on := 7, ground := Ground.data }, { on := 7, ground := Ground.chain }, { on := 0, ground := Ground.phase }, { on := 1, ground := Ground.phase }, { on := 2, ground := Ground.phase }, { on := 3, ground := Ground.phase }, { on := 4, ground := Ground.phase }, { on := 5, ground := Ground.phase }, { on := 6, ground := Ground.phase }, { on := 7, ground := Ground.phase }], guard := none }) (v := ?_) rfl (by kernel_rfl) (by kernel_rfl) (by kernel_rfl) (fun _ _ _ h => h) (by rfl) (by first | exact HK5.out | exact HK4.out | exact HKn.out) ?_ ?_
  rotate_left
  · (intro x0 hx; have hrow : x0.heap[w.heap.size]? = some (frbox f) := hx.obj _ _ _ _ HR3.out (by decide); have r1 := fr_cell hrow 1 _ rfl; have r5 := fr_cell hrow 5 _ rfl; have r18 := fr_cell hrow 18 _ rfl; have e6 := cells_part (frbox_cells hrow) (Nat.zero_add 6) (fr_ev f); first | (refine load_run rfl rfl e6 Tryz.underlying30 rfl ev_size ?_; rfl) | (go_simp; try with_reducible rfl))
  try simp only [Act.put, List.setIfInBounds_toArray, List.set_cons_zero, List.set_cons_succ]
  refine wpAnyH_done (by kernel_rfl) ?_ _
  go_wp2_with fail
  go_ret
  exact ⟨_, rfl, by rw [← List.append_assoc]; exact HO5.out, HB3.out.trans HK5.out.below⟩

set_option maxHeartbeats 16000000 in
theorem lay_rise {f : Fr} {w : World} (h : IsFr w f) (hk : f.k = 5) (hr : Wr.right f = true) (hs : EvLays f.e) : Calls Tryz.prog 15 #[frv f] w (LayPost (natw 5 ++ ([f.tb].flatMap natw ++ eventb f.e)) w) := by
  have hn := one_new w (frbox f)
  have HR := Lib.hid (heap_alloc_new w (frbox f))
  have HF := Lib.hid (h.later hn)
  have HB := Lib.hid hn
  have HK := Lib.hid hk
  have H0 := Lib.hid h
  have HS := Lib.hid hs
  clear h hn hk hs
  go_enter Tryz.func15, Tryz.ntmps15
  go_upto_region 1 with fail
  dsimp only [frbox] at HR HF HB
  generalize w.alloc _ = w1 at HR HF HB ⊢
  have HC := Lib.hid (frbox_cells HR.out)
  go_wp2_with (first | (refine wpList_load_at rfl 38 _ rfl w.heap.size 0 f.cells _ rfl HC.out Tryz.underlying38 rfl fr_size ?_; dsimp only [Fr.cells]) | fail)
  refine (wright_any (f := f) HF.out).mono ?_
  rw [hr]
  rintro e w2 ⟨rfl, hb⟩
  have HB2 := Lib.hid (below_then HB.out hb)
  have HR2 : Hid (w2.heap[w.heap.size]? = some (frbox f)) := Lib.hid (below_row hb HR.out)
  clear hb hr HR HF HB HC
  have k0 := (fr_cell HR2.out 0 _ rfl).trans (congrArg (fun z : Int => some (Value.int .i64 z)) HK.out)
  go_wp2_with fail
  refine (addnats_new [5] (ownb_nil w.heap.size w2 HB2.out.size) (by decide) 1 rfl _ rfl).mono ?_
  rintro r w3 ⟨v3, rfl, hO, hK⟩
  rw [natw_one, List.nil_append] at hO
  have HO3 := Lib.hid hO
  have HR3 : Hid (w3.heap[w.heap.size]? = some (frbox f)) := Lib.hid (hK.obj _ _ _ _ HR2.out (by decide))
  have HB3 := Lib.hid (HB2.out.trans hK.below)
  clear hO hK k0 HR2 HB2
  have k0 := (fr_cell HR3.out 0 _ rfl).trans (congrArg (fun z : Int => some (Value.int .i64 z)) HK.out)
  have hnk : (natw 5).length ≤ 9 := natw_len 5
  go_upto_region 13 with fail
  refine held_begin (fun z => Keep w.heap.size w3 z) (by kernel_rfl) ?_
  have HKn : Hid (Keep w.heap.size w3 w3.drew) := Lib.hid (Keep.later HO3.out.2 (drew_below w3))
  have HO2 := Lib.hid (HO3.out.later (drew_below w3))
  generalize w3.drew = wd at HKn HO2 ⊢
  refine held_read (i := 0) (o := { dst := some 39, op := Op.move (Operand.tmp 3), type := 23, pos := "lay.go:23", after := #[], guard := none }) (v := ?_) rfl (by kernel_rfl) (by kernel_rfl) (by kernel_rfl) (fun _ _ _ h => h) (by rfl) (by first | exact HK5.out | exact HK4.out | exact HKn.out) ?_ ?_
  rotate_left
  · (intro x0 hx; have hrow : x0.heap[w.heap.size]? = some (frbox f) := hx.obj _ _ _ _ HR3.out (by decide); have r1 := fr_cell hrow 1 _ rfl; have r5 := fr_cell hrow 5 _ rfl; have r18 := fr_cell hrow 18 _ rfl; have e6 := cells_part (frbox_cells hrow) (Nat.zero_add 6) (fr_ev f); first | (refine load_run rfl rfl e6 Tryz.underlying30 rfl ev_size ?_; rfl) | (go_simp; try with_reducible rfl))
  try simp only [Act.put, List.setIfInBounds_toArray, List.set_cons_zero, List.set_cons_succ]
  refine held_read (i := 1) (o := { dst := some 40, op := Op.fieldAddr 38 (Operand.tmp 1) 1, type := 0, pos := "lay.go:23", after := #[], guard := none }) (v := ?_) rfl (by kernel_rfl) (by kernel_rfl) (by kernel_rfl) (fun _ _ _ h => h) (by rfl) (by first | exact HK5.out | exact HK4.out | exact HKn.out) ?_ ?_
  rotate_left
  · (intro x0 hx; have hrow : x0.heap[w.heap.size]? = some (frbox f) := hx.obj _ _ _ _ HR3.out (by decide); have r1 := fr_cell hrow 1 _ rfl; have r5 := fr_cell hrow 5 _ rfl; have r18 := fr_cell hrow 18 _ rfl; have e6 := cells_part (frbox_cells hrow) (Nat.zero_add 6) (fr_ev f); first | (refine load_run rfl rfl e6 Tryz.underlying30 rfl ev_size ?_; rfl) | (go_simp; try with_reducible rfl))
  try simp only [Act.put, List.setIfInBounds_toArray, List.set_cons_zero, List.set_cons_succ]
  refine held_read (i := 2) (o := { dst := some 41, op := Op.load 3 (Operand.tmp 40), type := 3, pos := "lay.go:23", after := #[{ on := 1, ground := Ground.data }], guard := none }) (v := ?_) rfl (by kernel_rfl) (by kernel_rfl) (by kernel_rfl) (fun _ _ _ h => h) (by rfl) (by first | exact HK5.out | exact HK4.out | exact HKn.out) ?_ ?_
  rotate_left
  · (intro x0 hx; have hrow : x0.heap[w.heap.size]? = some (frbox f) := hx.obj _ _ _ _ HR3.out (by decide); have r1 := fr_cell hrow 1 _ rfl; have r5 := fr_cell hrow 5 _ rfl; have r18 := fr_cell hrow 18 _ rfl; have e6 := cells_part (frbox_cells hrow) (Nat.zero_add 6) (fr_ev f); first | (refine load_run rfl rfl e6 Tryz.underlying30 rfl ev_size ?_; rfl) | (go_simp; try with_reducible rfl))
  try simp only [Act.put, List.setIfInBounds_toArray, List.set_cons_zero, List.set_cons_succ]
  refine held_read (i := 5) (o := { dst := some 44, op := Op.fieldAddr 38 (Operand.tmp 1) 6, type := 0, pos := "lay.go:23", after := #[], guard := none }) (v := ?_) rfl (by kernel_rfl) (by kernel_rfl) (by kernel_rfl) (fun _ _ _ h => h) (by rfl) (by first | exact HK5.out | exact HK4.out | exact HKn.out) ?_ ?_
  rotate_left
  · (intro x0 hx; have hrow : x0.heap[w.heap.size]? = some (frbox f) := hx.obj _ _ _ _ HR3.out (by decide); have r1 := fr_cell hrow 1 _ rfl; have r5 := fr_cell hrow 5 _ rfl; have r18 := fr_cell hrow 18 _ rfl; have e6 := cells_part (frbox_cells hrow) (Nat.zero_add 6) (fr_ev f); first | (refine load_run rfl rfl e6 Tryz.underlying30 rfl ev_size ?_; rfl) | (go_simp; try with_reducible rfl))
  try simp only [Act.put, List.setIfInBounds_toArray, List.set_cons_zero, List.set_cons_succ]
  refine held_read (i := 6) (o := { dst := some 45, op := Op.load 30 (Operand.tmp 44), type := 30, pos := "lay.go:23", after := #[{ on := 5, ground := Ground.data }], guard := none }) (v := ?_) rfl (by kernel_rfl) (by kernel_rfl) (by kernel_rfl) (fun _ _ _ h => h) (by rfl) (by first | exact HK5.out | exact HK4.out | exact HKn.out) ?_ ?_
  rotate_left
  · (intro x0 hx; have hrow : x0.heap[w.heap.size]? = some (frbox f) := hx.obj _ _ _ _ HR3.out (by decide); have r1 := fr_cell hrow 1 _ rfl; have r5 := fr_cell hrow 5 _ rfl; have r18 := fr_cell hrow 18 _ rfl; have e6 := cells_part (frbox_cells hrow) (Nat.zero_add 6) (fr_ev f); first | (refine load_run rfl rfl e6 Tryz.underlying30 rfl ev_size ?_; rfl) | (go_simp; try with_reducible rfl))
  try simp only [Act.put, List.setIfInBounds_toArray, List.set_cons_zero, List.set_cons_succ]
  refine held_call (i := 3) (o := { dst := some 42, op := Op.buildSlice 22 1 #[(0, Operand.tmp 41)], type := 22, pos := "lay.go:23", after := #[{ on := 2, ground := Ground.data }], guard := none }) rfl (by kernel_rfl) (by rfl) (fun K hK => ?_)
  go_simp
  refine hK.out _ _ (HKn.out.then (Keep.later HO2.out.2 (one_new wd (ibox [f.tb])))) ?_
  clear hK K
  try simp only [Act.put, List.setIfInBounds_toArray, List.set_cons_zero, List.set_cons_succ]
  refine held_call (i := 4) (o := { dst := some 43, op := Op.call { callee := Callee.value (Operand.func 46), args := #[Operand.tmp 39, Operand.tmp 42], argTypes := #[23, 22] }, type := 23, pos := "lay.go:23", after := #[{ on := 0, ground := Ground.data }, { on := 3, ground := Ground.data }], guard := none }) rfl (by kernel_rfl) (by rfl) (fun K hK => ?_)
  go_simp
  refine (addnats_new (w := wd) [f.tb] HO2.out (by show (natw 5).length + 9 * 1 ≤ 900000; omega) 1 rfl _ rfl).mono ?_
  rintro r w4 ⟨v4, rfl, hO, hK4⟩
  have HO4 := Lib.hid hO
  have HK4 := Lib.hid (HKn.out.then hK4)
  refine hK.out _ _ HK4.out ?_
  clear hK K hO hK4
  try simp only [Act.put, List.setIfInBounds_toArray, List.set_cons_zero, List.set_cons_succ]
  refine held_call (i := 7) (o := { dst := some 46, op := Op.call { callee := Callee.value (Operand.func 49), args := #[Operand.tmp 43, Operand.tmp 45], argTypes := #[23, 30] }, type := 23, pos := "lay.go:23", after := #[{ on := 4, ground := Ground.data }, { on := 6, ground := Ground.data }, { on := 4, ground := Ground.chain }], guard := none }) rfl (by kernel_rfl) (by rfl) (fun K hK => ?_)
  go_simp
  have hl4 : (natw 5 ++ [f.tb].flatMap natw).length ≤ 100 := by rw [List.length_append]; have : ([f.tb].flatMap natw).length ≤ 9 := natws_len [f.tb]; omega
  refine (addevent_any (e := f.e) (W0 := w) rfl HO4.out H0.out.e HS.out (HB3.out.trans HK4.out.below) (by omega)).mono ?_
  rintro r w5 ⟨v5, rfl, hO, hK5⟩
  have HO5 := Lib.hid hO
  have HK5 := Lib.hid (HK4.out.then hK5)
  refine hK.out _ _ HK5.out ?_
  clear hK K hO hK5
  try simp only [Act.put, List.setIfInBounds_toArray, List.set_cons_zero, List.set_cons_succ]
  refine held_read (i := 8) (o := { dst := some 2, op := Op.assign (Operand.tmp 46), type := 23, pos := "lay.go:23", after := #[{ on := 7, ground := Ground.data }, { on := 7, ground := Ground.chain }, { on := 0, ground := Ground.phase }, { on := 1, ground := Ground.phase }, { on := 2, ground := Ground.phase }, { on := 3, ground := Ground.phase }, { on := 4, ground := Ground.phase }, { on := 5, ground := Ground.phase }, { on := 6, ground := Ground.phase }, { on := 7, ground := Ground.phase }], guard := none }) (v := ?_) rfl (by kernel_rfl) (by kernel_rfl) (by kernel_rfl) (fun _ _ _ h => h) (by rfl) (by first | exact HK5.out | exact HK4.out | exact HKn.out) ?_ ?_
  rotate_left
  · (intro x0 hx; have hrow : x0.heap[w.heap.size]? = some (frbox f) := hx.obj _ _ _ _ HR3.out (by decide); have r1 := fr_cell hrow 1 _ rfl; have r5 := fr_cell hrow 5 _ rfl; have r18 := fr_cell hrow 18 _ rfl; have e6 := cells_part (frbox_cells hrow) (Nat.zero_add 6) (fr_ev f); first | (refine load_run rfl rfl e6 Tryz.underlying30 rfl ev_size ?_; rfl) | (go_simp; try with_reducible rfl))
  try simp only [Act.put, List.setIfInBounds_toArray, List.set_cons_zero, List.set_cons_succ]
  refine wpAnyH_done (by kernel_rfl) ?_ _
  go_wp2_with fail
  go_ret
  exact ⟨_, rfl, by rw [← List.append_assoc]; exact HO5.out, HB3.out.trans HK5.out.below⟩
end Go.Proofs.YtgenmebmdpnjhaaGreat

namespace Go.Proofs.YtgenmebmdpnjhaaGreat
open Go.RowKit
set_option linter.unusedVariables false
namespace Cd
theorem word_size {s : ByteArray} (h : At.word s = true) : s.size ≤ 6 := by
  simp only [At.word, Bool.and_eq_true, decide_eq_true_eq] at h
  omega
theorem size_of_nil {s : ByteArray} (h : s.toList = []) : s.size = 0 := by
  rw [toList_data] at h
  show s.data.size = 0
  rw [← Array.length_toList, h]; rfl
theorem right_size {v : Val} (h : Vl.right v = true) : v.s.size ≤ 12 := by
  by_cases h1 : v.k = 1
  · have := size_of_nil (rt1 h1 h).2.1; omega
  by_cases h2 : v.k = 2
  · have := size_of_nil (rt2 h2 h).2.1; omega
  by_cases h3 : v.k = 3
  · unfold Vl.right at h; simp [h3] at h; exact h.2
  by_cases h4 : v.k = 4
  · have := size_of_nil (rt4 h4 h).2.2; omega
  unfold Vl.right at h
  rw [if_neg h1, if_neg h2, if_neg h3, if_neg h4] at h
  cases h
theorem zero_size {v : Val} (h : Pd.zero v = true) : v.s.size = 0 := size_of_nil ((same_iff.1 h).2.2.2.1.trans (by rw [toList_data]; rfl))
theorem lays_right {v : Val} (h : Vl.right v = true) (hn : Nok v) : Lays v := ⟨hn.x, by have := right_size h; omega⟩
theorem lays_zero {v : Val} (h : Pd.zero v = true) (hn : Nok v) : Lays v := ⟨hn.x, by have := zero_size h; omega⟩
theorem okFrom_word : ∀ {l : List Att} {p : Option ByteArray}, At.okFrom p l = true → ∀ a, a ∈ l → At.word a.name = true
  | [], _, _, a, h => by cases h
  | b :: l, p, h, a, ha => by
    simp only [At.okFrom, Bool.and_eq_true] at h
    rcases List.mem_cons.1 ha with rfl | ha
    · exact h.1.1.1
    · exact okFrom_word h.2 a ha
theorem ev_lays {e : Ev} (h : Wr.rightEv e = true) (hn : ∀ a, a ∈ e.l → Nok a.v) : EvLays e := by
  simp only [Wr.rightEv, Bool.and_eq_true] at h
  obtain ⟨-, -, -, -, -, h6, h7⟩ := h
  obtain ⟨a1, a2⟩ := atts_right h6
  obtain ⟨s1, -⟩ := sts_right h7
  simp only [At.right, Bool.and_eq_true] at h6
  exact ⟨fun a ha => ⟨by have := word_size (okFrom_word h6.2 a ha); omega, lays_right (a2 a ha) (hn a ha)⟩, by omega, s1⟩
theorem pt_lays {x : Pt} (h : Pd.right x.p = true) (hn : Nok x.p.v ∧ Nok x.p.w ∧ ∀ a, a ∈ x.p.set → Nok a) : PtLays x := by
  have hw : At.word x.p.name = true := by
    have h' := h
    unfold Pd.right at h'
    simp only [Bool.and_eq_true] at h'
    exact h'.1
  have hs := word_size hw
  rcases pd_facts h with ⟨-, x1, x2, x3⟩ | ⟨-, x1, x2, x3⟩ | ⟨-, x1, x2, x3⟩ | ⟨-, x1, x2, x3⟩ | ⟨-, x1, x2, x3⟩
  · exact ⟨by omega, lays_zero x1 hn.1, lays_zero x2 hn.2.1, by rw [x3]; simp, by rw [x3]; simp⟩
  · exact ⟨by omega, lays_right x1 hn.1, lays_right x2 hn.2.1, by rw [x3]; simp, by rw [x3]; simp⟩
  · exact ⟨by omega, lays_right x1 hn.1, lays_zero x2 hn.2.1, by rw [x3]; simp, by rw [x3]; simp⟩
  · obtain ⟨r1, r2⟩ := rset_facts x3
    exact ⟨by omega, lays_zero x1 hn.1, lays_zero x2 hn.2.1, fun a ha => lays_right (r2 a ha) (hn.2.2 a ha), by omega⟩
  · exact ⟨by omega, lays_right x1 hn.1, lays_zero x2 hn.2.1, by rw [x3]; simp, by rw [x3]; simp⟩
theorem ft_lays {s : Sb} (h : Wr.rightSb s = true) (hn : ∀ x, x ∈ s.f.l → Nok x.p.v ∧ Nok x.p.w ∧ ∀ a, a ∈ x.p.set → Nok a) : FtLays s.f := by
  simp only [Wr.rightSb, Bool.and_eq_true] at h
  obtain ⟨f1, f2⟩ := filter_right h.2.2.2
  exact ⟨fun x hx => pt_lays (f2 x hx) (hn x hx), by omega⟩
theorem fts_lays {l : List Sb} (h : Wr.rightSbs l = true) (hn : ∀ s, s ∈ l → ∀ x, x ∈ s.f.l → Nok x.p.v ∧ Nok x.p.w ∧ ∀ a, a ∈ x.p.set → Nok a) : (∀ s, s ∈ l → FtLays s.f) ∧ l.length ≤ 30 := by
  simp only [Wr.rightSbs, Bool.and_eq_true, decide_eq_true_eq, List.all_eq_true, List.mem_range] at h
  refine ⟨fun s hs => ?_, by omega⟩
  obtain ⟨k, hk⟩ := List.mem_iff_getElem?.1 hs
  have hl := (List.getElem?_eq_some_iff.1 hk).1
  have := h.2 k hl
  have hr : Wr.rightSb s = true := by
    cases hr : Wr.rightSb s
    · rw [Wr.sb_wrong hk hr] at this; cases this
    · rfl
  exact ft_lays hr (hn s hs)
end Cd
/-- What Lay tells of a right frame. -/
theorem lay_any {f : Fr} {w : World} (h : IsFr w f) (hr : Wr.right f = true) (hn : Cd.Fnok f) : Calls Tryz.prog 15 #[frv f] w (LayPost (Cd.frameb f) w) := by
  have kf := Cd.kind_ok hr
  have hr' := hr
  unfold Wr.right at hr'
  unfold Cd.frameb
  by_cases k1 : f.k = 1
  · rw [if_pos k1] at hr' ⊢
    simp only [Bool.and_eq_true, Wr.rightCh] at hr'
    rw [k1]
    exact lay_change h k1 hr (Cd.ft_lays hr'.1.1 hn.sub)
  rw [if_neg k1] at hr' ⊢
  by_cases k2 : f.k = 2
  · rw [if_pos (.inl k2), k2]
    exact lay_stop h k2 hr
  by_cases k3 : f.k = 3
  · rw [if_pos (.inr k3), k3]
    exact lay_quiet h k3 hr
  have k23 : ¬ (f.k = 2 ∨ f.k = 3) := by omega
  rw [if_neg k23] at hr' ⊢
  by_cases k4 : f.k = 4
  · rw [if_pos k4] at hr' ⊢
    simp only [Bool.and_eq_true] at hr'
    rw [k4]
    exact lay_open h k4 hr (Cd.fts_lays hr'.2.1 hn.subs)
  rw [if_neg k4] at hr' ⊢
  by_cases k5 : f.k = 5
  · rw [if_pos k5] at hr' ⊢
    simp only [Bool.and_eq_true] at hr'
    rw [k5]
    exact lay_rise h k5 hr (Cd.ev_lays hr'.2.1 hn.atts)
  rw [if_neg k5] at hr' ⊢
  by_cases k6 : f.k = 6
  · rw [if_pos k6] at hr' ⊢
    simp only [Bool.and_eq_true] at hr'
    rw [k6]
    exact lay_fall h k6 hr (Cd.ev_lays hr'.1 hn.atts)
  rw [if_neg k6] at hr' ⊢
  by_cases k7 : f.k = 7
  · rw [if_pos k7, k7]
    exact lay_passed h k7 hr
  rw [if_neg k7] at hr' ⊢
  have k8 : f.k = 8 := by omega
  rw [if_pos k8, k8]
  exact lay_done h k8 hr
end Go.Proofs.YtgenmebmdpnjhaaGreat
