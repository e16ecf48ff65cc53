
/- Hand's Bent: ways 0, 1, 2. -/
import Derived.Test.YtgenmebmdpnjhaaGreatG17
namespace Go.Proofs.YtgenmebmdpnjhaaGreat
open Go.RowKit
set_option linter.unusedVariables false

set_option maxRecDepth 100000 in
set_option maxHeartbeats 16000000 in
theorem bent_A {x : Fr} {w : World} (h : IsFr w x) (hn : Cd.Fnok x) (hf : x.e.l.length ≤ 900 ∧ x.e.t.length ≤ 900 ∧ x.l.length ≤ 900) (how n : Int) (hgrp : how % 16 = 0 ∨ how % 16 = 1 ∨ how % 16 = 2) :
    Calls Tryz.prog 8 #[frv x, .int .i64 how, .int .i64 n] w (BentPost w) := by
  have h1 := one_new w (frbox x)
  have h2 := one_new (w.alloc (frbox x)) (frbox fr00)
  have hx := below_row h2 (heap_alloc_new w (frbox x))
  have hr := heap_alloc_new (w.alloc (frbox x)) (frbox fr00)
  have hs1 : (w.alloc (frbox x)).heap.size = w.heap.size + 1 := World.size_alloc _ _
  have hs2 : ((w.alloc (frbox x)).alloc (frbox fr00)).heap.size = w.heap.size + 2 := by rw [World.size_alloc, hs1]
  rw [hs1] at hr
  have HX := Lib.hid hx
  have HRES := Lib.hid hr
  have HB := Lib.hid ((h1.trans (below_sub h2 h1.size)) : Below w.heap.size w ((w.alloc (frbox x)).alloc (frbox fr00)))
  have HSZ := Lib.hid (Nat.le_of_eq hs2.symm)
  have HI := Lib.hid h
  have HN := Lib.hid hn
  clear h1 h2 hx hr hs1 hs2 h hn
  dsimp only [frbox, fr00, ev00, List.length_nil] at HX HRES HB HSZ
  go_enter Tryz.func8, Tryz.ntmps8
  go_upto_region 1 with fail
  generalize (w.alloc _).alloc _ = w0 at HX HRES HB HSZ ⊢
  have HX0 := HX
  have HRES0 := HRES
  have HB0 := HB
  have HSZ0 := HSZ
  clear HX HRES HB HSZ
  have HI0 := Lib.hid (HI.out.later HB0.out)
  have c18 : w0.cell? ⟨w.heap.size, 18, none⟩ = some (.slice x.A x.l.length x.c) := cell_of_row w0 w.heap.size 18 _ _ _ HX0.out
  go_upto_region 2 with (first
    | (at_builtin; refine wpList_ownw rfl _ _ 36 rfl Tryz.underlying36 bsb_info rfl (by decide) (w.heap.size + 2) _ 0 [] rfl (OwnW.nil _ _ _ HSZ0.out) x.A x.l.length x.c rfl HI0.out.none_ (sbflat x.l) HI0.out.l.row (sbflat_ones x.l) (by omega) (by decide) ?_; intro v1 w1 hv1 hk1; rw [Nat.zero_add, List.nil_append] at hv1; obtain ⟨A1, d1, rfl, -, -, -, -, -, -⟩ := OwnW.reads hv1; have hb1 := kept_none hk1; have HV1 := Lib.hid hv1; have HX1 := Lib.hid (below_row hb1 HX0.out); have HRES1 := Lib.hid (below_row hb1 HRES0.out); have HBL1 := Lib.hid hb1; have HB1 := Lib.hid (HB0.out.trans (below_sub hb1 HB0.out.size)); clear hv1 hk1 hb1)
    | (obtain ⟨he, hs⟩ := ffset_frame (p := 18) (x := x) (x' := { x with A := A1, c := d1 }) (cs := [.slice A1 x.l.length d1]) rfl HX1.out; have HX2 := Lib.hid he; have HS2 := Lib.hid hs; clear he hs; refine wpList_store_part rfl 36 _ _ rfl w.heap.size 18 _ [.slice A1 x.l.length d1] rfl rfl rfl 38 (Fr.cells x) HX1.out sbs_size1 (show (19 : Nat) ≤ 19 by decide) (fun u hu => by rw [List.mem_singleton.1 hu]; rfl) ?_; generalize World.setRow w1 _ _ = w2 at HX2 HS2 ⊢))
  have HRES2 := Lib.hid (HS2.out.row HRES1.out (by show ¬ w.heap.size + 1 = w.heap.size; omega))
  have HB2 := Lib.hid (below_kept HB1.out HS2.out (fun i hi e => by have e : i = w.heap.size := e; omega))
  have HSZ2 := Lib.hid (Nat.le_trans HSZ0.out (Nat.le_trans HBL1.out.size HS2.out.size))
  have HO2 := Lib.hid (OwnW.kept HV1.out HS2.out (ownw_not HV1.out HX1.out (by decide)))
  have HI2 := Lib.hid (HI.out.later HB2.out)
  clear HX0 HRES0 HB0 HSZ0 HI0 c18 HV1 HX1 HRES1 HBL1 HB1 HS2
  have c11 : w2.cell? ⟨w.heap.size, 11, none⟩ = some (.slice x.e.A x.e.l.length x.e.ca) := cell_of_row w2 w.heap.size 11 _ _ _ HX2.out
  go_upto_region 3 with (first
    | (at_builtin; refine wpList_ownw rfl _ _ 27 rfl Tryz.underlying27 bat_info rfl (by decide) (w.heap.size + 2) _ 0 [] rfl (OwnW.nil _ _ _ HSZ2.out) x.e.A x.e.l.length x.e.ca rfl HI2.out.e.none_ (flat x.e.l) HI2.out.e.l.row (flat_one x.e.l) (by omega) (by decide) ?_; intro v1 w3 hv1 hk1; rw [Nat.zero_add, List.nil_append] at hv1; obtain ⟨A2, d2, rfl, -, -, -, -, -, -⟩ := OwnW.reads hv1; have hb1 := kept_none hk1; have HV3 := Lib.hid hv1; have HX3 := Lib.hid (below_row hb1 HX2.out); have HRES3 := Lib.hid (below_row hb1 HRES2.out); have HBL3 := Lib.hid hb1; have HB3 := Lib.hid (HB2.out.trans (below_sub hb1 HB2.out.size)); clear hv1 hk1 hb1)
    | (obtain ⟨he, hs⟩ := ffset_frame (p := 11) (x := { x with A := A1, c := d1 }) (x' := { x with A := A1, c := d1, e := { x.e with A := A2, ca := d2 } }) (cs := [.slice A2 x.e.l.length d2]) rfl HX3.out; have HX4 := Lib.hid he; have HS4 := Lib.hid hs; clear he hs; refine wpList_store_part rfl 27 _ _ rfl w.heap.size 11 _ [.slice A2 x.e.l.length d2] rfl rfl rfl 38 (Fr.cells { x with A := A1, c := d1 }) HX3.out bats_size1 (show (12 : Nat) ≤ 19 by decide) (fun u hu => by rw [List.mem_singleton.1 hu]; rfl) ?_; generalize World.setRow w3 _ _ = w4 at HX4 HS4 ⊢))
  have HRES4 := Lib.hid (HS4.out.row HRES3.out (by show ¬ w.heap.size + 1 = w.heap.size; omega))
  have HB4 := Lib.hid (below_kept HB3.out HS4.out (fun i hi e => by have e : i = w.heap.size := e; omega))
  have HSZ4 := Lib.hid (Nat.le_trans HSZ2.out (Nat.le_trans HBL3.out.size HS4.out.size))
  have HO3 := Lib.hid (OwnW.later HO2.out HBL3.out)
  have HO4 := Lib.hid (OwnW.kept HO3.out HS4.out (ownw_not HO3.out HX3.out (by decide)))
  have HP4 := Lib.hid (OwnW.kept HV3.out HS4.out (ownw_not HV3.out HX3.out (by decide)))
  have HI4 := Lib.hid (HI.out.later HB4.out)
  clear HX2 HRES2 HB2 HSZ2 HI2 c11 HV3 HX3 HRES3 HBL3 HB3 HS4 HO2 HO3
  have c12 : w4.cell? ⟨w.heap.size, 12, none⟩ = some (.slice x.e.B x.e.t.length x.e.cb) := cell_of_row w4 w.heap.size 12 _ _ _ HX4.out
  go_upto_region 4 with (first
    | (at_builtin; refine wpList_ownw rfl _ _ 28 rfl Tryz.underlying28 bst_info rfl (by decide) (w.heap.size + 2) _ 0 [] rfl (OwnW.nil _ _ _ HSZ4.out) x.e.B x.e.t.length x.e.cb rfl HI4.out.e.noneb (stflat x.e.t) HI4.out.e.t.row (stflat_ones x.e.t) (by omega) (by decide) ?_; intro v1 w5 hv1 hk1; rw [Nat.zero_add, List.nil_append] at hv1; obtain ⟨A3, d3, rfl, -, -, -, -, -, -⟩ := OwnW.reads hv1; have hb1 := kept_none hk1; have HV5 := Lib.hid hv1; have HX5 := Lib.hid (below_row hb1 HX4.out); have HRES5 := Lib.hid (below_row hb1 HRES4.out); have HBL5 := Lib.hid hb1; have HB5 := Lib.hid (HB4.out.trans (below_sub hb1 HB4.out.size)); clear hv1 hk1 hb1)
    | (obtain ⟨he, hs⟩ := ffset_frame (p := 12) (x := { x with A := A1, c := d1, e := { x.e with A := A2, ca := d2 } }) (x' := { x with A := A1, c := d1, e := { x.e with A := A2, ca := d2, B := A3, cb := d3 } }) (cs := [.slice A3 x.e.t.length d3]) rfl HX5.out; have HX6 := Lib.hid he; have HS6 := Lib.hid hs; clear he hs; refine wpList_store_part rfl 28 _ _ rfl w.heap.size 12 _ [.slice A3 x.e.t.length d3] rfl rfl rfl 38 (Fr.cells { x with A := A1, c := d1, e := { x.e with A := A2, ca := d2 } }) HX5.out bsts_size1 (show (13 : Nat) ≤ 19 by decide) (fun u hu => by rw [List.mem_singleton.1 hu]; rfl) ?_; generalize World.setRow w5 _ _ = w6 at HX6 HS6 ⊢))
  have HRES6 := Lib.hid (HS6.out.row HRES5.out (by show ¬ w.heap.size + 1 = w.heap.size; omega))
  have HB6 := Lib.hid (below_kept HB5.out HS6.out (fun i hi e => by have e : i = w.heap.size := e; omega))
  have HSZ6 := Lib.hid (Nat.le_trans HSZ4.out (Nat.le_trans HBL5.out.size HS6.out.size))
  have HO5 := Lib.hid (OwnW.later HO4.out HBL5.out)
  have HP5 := Lib.hid (OwnW.later HP4.out HBL5.out)
  have HS : Hid (Bst w w6 { x with A := A1, c := d1, e := { x.e with A := A2, ca := d2, B := A3, cb := d3 } }) := Lib.hid ⟨HX6.out, HRES6.out, OwnW.kept HP5.out HS6.out (ownw_not HP5.out HX5.out (by decide)), OwnW.kept HV5.out HS6.out (ownw_not HV5.out HX5.out (by decide)), OwnW.kept HO5.out HS6.out (ownw_not HO5.out HX5.out (by decide)), fun s hs => HI.out.l.each s hs, HI.out.s, fun a ha => ⟨HI.out.e.fit a ha, HI.out.e.l.names a ha⟩, ⟨HN.out.atts, HN.out.sub, HN.out.subs⟩, ⟨by dsimp only; omega, by dsimp only; omega, by dsimp only; omega⟩, HB6.out⟩
  have hfy : ({ x with A := A1, c := d1, e := { x.e with A := A2, ca := d2, B := A3, cb := d3 } } : Fr).e.l.length ≤ 900 ∧ ({ x with A := A1, c := d1, e := { x.e with A := A2, ca := d2, B := A3, cb := d3 } } : Fr).e.t.length ≤ 900 ∧ ({ x with A := A1, c := d1, e := { x.e with A := A2, ca := d2, B := A3, cb := d3 } } : Fr).l.length ≤ 900 := hf
  clear HX4 HRES4 HB4 HSZ4 HI4 c12 HV5 HX5 HRES5 HBL5 HB5 HS6 HO4 HO5 HP4 HP5 HX6 HRES6 HB6 HSZ6 HI HN hf
  generalize ({ x with A := A1, c := d1, e := { x.e with A := A2, ca := d2, B := A3, cb := d3 } } : Fr) = y at HS hfy ⊢
  try simp only [Act.put]
  go_cut [7] (fun s wx => ∃ ed : Int, s = .int .i64 ed ∧ w6 = wx)
  case first =>
    obtain ⟨j, hj⟩ : ∃ j, n % 6 = j := ⟨_, rfl⟩
    have hj6 : 0 ≤ j ∧ j < 6 := by rw [← hj]; exact ⟨Int.emod_nonneg _ (by omega), Int.emod_lt_of_pos _ (by omega)⟩
    obtain ⟨v, hv⟩ := idx6 (-1) 0 8 7 4611686018427387904 n w6 j hj6
    have HV := Lib.hid hv
    clear hv
    go_wp2_with (first | (go_at_call 17; refine (bpick (by omega) (by omega) hj _).mono ?_; rintro e w' ⟨rfl, rfl⟩) | (refine wpList_idx rfl 60 _ _ rfl rfl rfl HV.out ?_))
    go_meet
    exact ⟨_, rfl, rfl⟩
  case rest =>
  obtain ⟨ed, rfl, rfl⟩ := hcut
  obtain ⟨j, hj⟩ : ∃ j, how % 16 = j := ⟨_, rfl⟩
  rw [hj] at hgrp
  go_upto_block 0 with (first | (go_at_call 17; refine (bpick (by omega) (by omega) hj _).mono ?_; rintro e w' ⟨rfl, rfl⟩))
  try simp only [Act.put]
  clear hj
  go_cut [] (fun wx => ∃ y', Bst w wx y')
  case first =>
    rcases hgrp with rfl | rfl | rfl
    · have HE := Lib.hid (HS.out.set (p := 0) (cs := [.int .i64 ed]) (y' := { y with k := ed }) rfl rfl)
      go_wp2_with (first | (refine wpList_store_part rfl 3 _ _ rfl w.heap.size 0 _ [.int .i64 ed] rfl rfl rfl 38 (Fr.cells y) HS.out.row int_size1 (show (1 : Nat) ≤ 19 by decide) (fun u hu => by rw [List.mem_singleton.1 hu]; rfl) ?_; generalize World.setRow w6 _ _ = w7 at HE ⊢))
      go_meet
      exact ⟨_, HE.out⟩
    · have HE := Lib.hid (HS.out.set (p := 1) (cs := [.int .i64 ed]) (y' := { y with tb := ed }) rfl rfl)
      go_wp2_with (first | (refine wpList_store_part rfl 3 _ _ rfl w.heap.size 1 _ [.int .i64 ed] rfl rfl rfl 38 (Fr.cells y) HS.out.row int_size1 (show (2 : Nat) ≤ 19 by decide) (fun u hu => by rw [List.mem_singleton.1 hu]; rfl) ?_; generalize World.setRow w6 _ _ = w7 at HE ⊢))
      go_meet
      exact ⟨_, HE.out⟩
    · have HE := Lib.hid (HS.out.set (p := 2) (cs := [.int .i64 ed]) (y' := { y with fm := ed }) rfl rfl)
      go_wp2_with (first | (refine wpList_store_part rfl 3 _ _ rfl w.heap.size 2 _ [.int .i64 ed] rfl rfl rfl 38 (Fr.cells y) HS.out.row int_size1 (show (3 : Nat) ≤ 19 by decide) (fun u hu => by rw [List.mem_singleton.1 hu]; rfl) ?_; generalize World.setRow w6 _ _ = w7 at HE ⊢))
      go_meet
      exact ⟨_, HE.out⟩
  case rest =>
  obtain ⟨y', hS⟩ := hcut
  have HE := Lib.hid hS
  clear hS HS hfy
  generalize wc = w7 at HE ⊢
  generalize y' = z at HE
  have HC := Lib.hid (cells_row (cs := Fr.cells z) HE.out.row)
  have HEN := Lib.hid HE.out.ends
  have HRS := Lib.hid HE.out.res
  go_upto_region 41 with fail
  refine wp_region_lit ?_
  refine wpList_load_at rfl 38 _ rfl w.heap.size 0 (Fr.cells z) _ rfl HC.out Tryz.underlying38 rfl fr_size1 ?_
  dsimp only [Fr.cells]
  simp only [Act.put, List.setIfInBounds_toArray, List.set_cons_zero, List.set_cons_succ]
  refine wpList_store_part rfl 38 _ _ rfl (w.heap.size + 1) 0 _ (Fr.cells z) rfl rfl rfl 38 fr00.cells HRS.out fr_size1 (show (19 : Nat) ≤ 19 by decide) (ffr_one _) ?_
  generalize World.setRow w7 _ _ = wz at HEN ⊢
  try simp only [Act.put]
  obtain ⟨g1, g2, g3, g4⟩ := HEN.out
  unfold wpList
  simp only [Exit.then]
  refine (‹∀ (a : Act) (w' : World), Code.wp Tryz.prog Code.ret _ a w' → _› _ _ ?_)
  refine wp_ret ?_
  refine bodyPost_ret (results_cell_row rfl _ _ _ _ _ _ _ rfl g1 Tryz.underlying38 rfl (by kernel_rfl)) rfl ?_
  exact ⟨z, rfl, g2, g3, g4⟩
end Go.Proofs.YtgenmebmdpnjhaaGreat
