
/- Hand's Bent: ways 10. -/
import Derived.Test.YtgenmebmdpnjhaaGreatG17
namespace Go.Proofs.YtgenmebmdpnjhaaGreat
open Go.RowKit
set_option linter.unusedVariables false

set_option maxRecDepth 100000 in
set_option maxHeartbeats 16000000 in
theorem bent_E {x : Fr} {w : World} (h : IsFr w x) (hn : Cd.Fnok x) (hf : x.e.l.length ≤ 900 ∧ x.e.t.length ≤ 900 ∧ x.l.length ≤ 900) (how n : Int) (hgrp : how % 16 = 10) :
    Calls Tryz.prog 8 #[frv x, .int .i64 how, .int .i64 n] w (BentPost w) := by
  have h1 := one_new w (frbox x)
  have h2 := one_new (w.alloc (frbox x)) (frbox fr00)
  have hx := below_row h2 (heap_alloc_new w (frbox x))
  have hr := heap_alloc_new (w.alloc (frbox x)) (frbox fr00)
  have hs1 : (w.alloc (frbox x)).heap.size = w.heap.size + 1 := World.size_alloc _ _
  have hs2 : ((w.alloc (frbox x)).alloc (frbox fr00)).heap.size = w.heap.size + 2 := by rw [World.size_alloc, hs1]
  rw [hs1] at hr
  have HX := Lib.hid hx
  have HRES := Lib.hid hr
  have HB := Lib.hid ((h1.trans (below_sub h2 h1.size)) : Below w.heap.size w ((w.alloc (frbox x)).alloc (frbox fr00)))
  have HSZ := Lib.hid (Nat.le_of_eq hs2.symm)
  have HI := Lib.hid h
  have HN := Lib.hid hn
  clear h1 h2 hx hr hs1 hs2 h hn
  dsimp only [frbox, fr00, ev00, List.length_nil] at HX HRES HB HSZ
  go_enter Tryz.func8, Tryz.ntmps8
  go_upto_region 1 with fail
  generalize (w.alloc _).alloc _ = w0 at HX HRES HB HSZ ⊢
  have HX0 := HX
  have HRES0 := HRES
  have HB0 := HB
  have HSZ0 := HSZ
  clear HX HRES HB HSZ
  have HI0 := Lib.hid (HI.out.later HB0.out)
  have c18 : w0.cell? ⟨w.heap.size, 18, none⟩ = some (.slice x.A x.l.length x.c) := cell_of_row w0 w.heap.size 18 _ _ _ HX0.out
  go_upto_region 2 with (first
    | (at_builtin; refine wpList_ownw rfl _ _ 36 rfl Tryz.underlying36 bsb_info rfl (by decide) (w.heap.size + 2) _ 0 [] rfl (OwnW.nil _ _ _ HSZ0.out) x.A x.l.length x.c rfl HI0.out.none_ (sbflat x.l) HI0.out.l.row (sbflat_ones x.l) (by omega) (by decide) ?_; intro v1 w1 hv1 hk1; rw [Nat.zero_add, List.nil_append] at hv1; obtain ⟨A1, d1, rfl, -, -, -, -, -, -⟩ := OwnW.reads hv1; have hb1 := kept_none hk1; have HV1 := Lib.hid hv1; have HX1 := Lib.hid (below_row hb1 HX0.out); have HRES1 := Lib.hid (below_row hb1 HRES0.out); have HBL1 := Lib.hid hb1; have HB1 := Lib.hid (HB0.out.trans (below_sub hb1 HB0.out.size)); clear hv1 hk1 hb1)
    | (obtain ⟨he, hs⟩ := ffset_frame (p := 18) (x := x) (x' := { x with A := A1, c := d1 }) (cs := [.slice A1 x.l.length d1]) rfl HX1.out; have HX2 := Lib.hid he; have HS2 := Lib.hid hs; clear he hs; refine wpList_store_part rfl 36 _ _ rfl w.heap.size 18 _ [.slice A1 x.l.length d1] rfl rfl rfl 38 (Fr.cells x) HX1.out sbs_size1 (show (19 : Nat) ≤ 19 by decide) (fun u hu => by rw [List.mem_singleton.1 hu]; rfl) ?_; generalize World.setRow w1 _ _ = w2 at HX2 HS2 ⊢))
  have HRES2 := Lib.hid (HS2.out.row HRES1.out (by show ¬ w.heap.size + 1 = w.heap.size; omega))
  have HB2 := Lib.hid (below_kept HB1.out HS2.out (fun i hi e => by have e : i = w.heap.size := e; omega))
  have HSZ2 := Lib.hid (Nat.le_trans HSZ0.out (Nat.le_trans HBL1.out.size HS2.out.size))
  have HO2 := Lib.hid (OwnW.kept HV1.out HS2.out (ownw_not HV1.out HX1.out (by decide)))
  have HI2 := Lib.hid (HI.out.later HB2.out)
  clear HX0 HRES0 HB0 HSZ0 HI0 c18 HV1 HX1 HRES1 HBL1 HB1 HS2
  have c11 : w2.cell? ⟨w.heap.size, 11, none⟩ = some (.slice x.e.A x.e.l.length x.e.ca) := cell_of_row w2 w.heap.size 11 _ _ _ HX2.out
  go_upto_region 3 with (first
    | (at_builtin; refine wpList_ownw rfl _ _ 27 rfl Tryz.underlying27 bat_info rfl (by decide) (w.heap.size + 2) _ 0 [] rfl (OwnW.nil _ _ _ HSZ2.out) x.e.A x.e.l.length x.e.ca rfl HI2.out.e.none_ (flat x.e.l) HI2.out.e.l.row (flat_one x.e.l) (by omega) (by decide) ?_; intro v1 w3 hv1 hk1; rw [Nat.zero_add, List.nil_append] at hv1; obtain ⟨A2, d2, rfl, -, -, -, -, -, -⟩ := OwnW.reads hv1; have hb1 := kept_none hk1; have HV3 := Lib.hid hv1; have HX3 := Lib.hid (below_row hb1 HX2.out); have HRES3 := Lib.hid (below_row hb1 HRES2.out); have HBL3 := Lib.hid hb1; have HB3 := Lib.hid (HB2.out.trans (below_sub hb1 HB2.out.size)); clear hv1 hk1 hb1)
    | (obtain ⟨he, hs⟩ := ffset_frame (p := 11) (x := { x with A := A1, c := d1 }) (x' := { x with A := A1, c := d1, e := { x.e with A := A2, ca := d2 } }) (cs := [.slice A2 x.e.l.length d2]) rfl HX3.out; have HX4 := Lib.hid he; have HS4 := Lib.hid hs; clear he hs; refine wpList_store_part rfl 27 _ _ rfl w.heap.size 11 _ [.slice A2 x.e.l.length d2] rfl rfl rfl 38 (Fr.cells { x with A := A1, c := d1 }) HX3.out bats_size1 (show (12 : Nat) ≤ 19 by decide) (fun u hu => by rw [List.mem_singleton.1 hu]; rfl) ?_; generalize World.setRow w3 _ _ = w4 at HX4 HS4 ⊢))
  have HRES4 := Lib.hid (HS4.out.row HRES3.out (by show ¬ w.heap.size + 1 = w.heap.size; omega))
  have HB4 := Lib.hid (below_kept HB3.out HS4.out (fun i hi e => by have e : i = w.heap.size := e; omega))
  have HSZ4 := Lib.hid (Nat.le_trans HSZ2.out (Nat.le_trans HBL3.out.size HS4.out.size))
  have HO3 := Lib.hid (OwnW.later HO2.out HBL3.out)
  have HO4 := Lib.hid (OwnW.kept HO3.out HS4.out (ownw_not HO3.out HX3.out (by decide)))
  have HP4 := Lib.hid (OwnW.kept HV3.out HS4.out (ownw_not HV3.out HX3.out (by decide)))
  have HI4 := Lib.hid (HI.out.later HB4.out)
  clear HX2 HRES2 HB2 HSZ2 HI2 c11 HV3 HX3 HRES3 HBL3 HB3 HS4 HO2 HO3
  have c12 : w4.cell? ⟨w.heap.size, 12, none⟩ = some (.slice x.e.B x.e.t.length x.e.cb) := cell_of_row w4 w.heap.size 12 _ _ _ HX4.out
  go_upto_region 4 with (first
    | (at_builtin; refine wpList_ownw rfl _ _ 28 rfl Tryz.underlying28 bst_info rfl (by decide) (w.heap.size + 2) _ 0 [] rfl (OwnW.nil _ _ _ HSZ4.out) x.e.B x.e.t.length x.e.cb rfl HI4.out.e.noneb (stflat x.e.t) HI4.out.e.t.row (stflat_ones x.e.t) (by omega) (by decide) ?_; intro v1 w5 hv1 hk1; rw [Nat.zero_add, List.nil_append] at hv1; obtain ⟨A3, d3, rfl, -, -, -, -, -, -⟩ := OwnW.reads hv1; have hb1 := kept_none hk1; have HV5 := Lib.hid hv1; have HX5 := Lib.hid (below_row hb1 HX4.out); have HRES5 := Lib.hid (below_row hb1 HRES4.out); have HBL5 := Lib.hid hb1; have HB5 := Lib.hid (HB4.out.trans (below_sub hb1 HB4.out.size)); clear hv1 hk1 hb1)
    | (obtain ⟨he, hs⟩ := ffset_frame (p := 12) (x := { x with A := A1, c := d1, e := { x.e with A := A2, ca := d2 } }) (x' := { x with A := A1, c := d1, e := { x.e with A := A2, ca := d2, B := A3, cb := d3 } }) (cs := [.slice A3 x.e.t.length d3]) rfl HX5.out; have HX6 := Lib.hid he; have HS6 := Lib.hid hs; clear he hs; refine wpList_store_part rfl 28 _ _ rfl w.heap.size 12 _ [.slice A3 x.e.t.length d3] rfl rfl rfl 38 (Fr.cells { x with A := A1, c := d1, e := { x.e with A := A2, ca := d2 } }) HX5.out bsts_size1 (show (13 : Nat) ≤ 19 by decide) (fun u hu => by rw [List.mem_singleton.1 hu]; rfl) ?_; generalize World.setRow w5 _ _ = w6 at HX6 HS6 ⊢))
  have HRES6 := Lib.hid (HS6.out.row HRES5.out (by show ¬ w.heap.size + 1 = w.heap.size; omega))
  have HB6 := Lib.hid (below_kept HB5.out HS6.out (fun i hi e => by have e : i = w.heap.size := e; omega))
  have HSZ6 := Lib.hid (Nat.le_trans HSZ4.out (Nat.le_trans HBL5.out.size HS6.out.size))
  have HO5 := Lib.hid (OwnW.later HO4.out HBL5.out)
  have HP5 := Lib.hid (OwnW.later HP4.out HBL5.out)
  have HS : Hid (Bst w w6 { x with A := A1, c := d1, e := { x.e with A := A2, ca := d2, B := A3, cb := d3 } }) := Lib.hid ⟨HX6.out, HRES6.out, OwnW.kept HP5.out HS6.out (ownw_not HP5.out HX5.out (by decide)), OwnW.kept HV5.out HS6.out (ownw_not HV5.out HX5.out (by decide)), OwnW.kept HO5.out HS6.out (ownw_not HO5.out HX5.out (by decide)), fun s hs => HI.out.l.each s hs, HI.out.s, fun a ha => ⟨HI.out.e.fit a ha, HI.out.e.l.names a ha⟩, ⟨HN.out.atts, HN.out.sub, HN.out.subs⟩, ⟨by dsimp only; omega, by dsimp only; omega, by dsimp only; omega⟩, HB6.out⟩
  have hfy : ({ x with A := A1, c := d1, e := { x.e with A := A2, ca := d2, B := A3, cb := d3 } } : Fr).e.l.length ≤ 900 ∧ ({ x with A := A1, c := d1, e := { x.e with A := A2, ca := d2, B := A3, cb := d3 } } : Fr).e.t.length ≤ 900 ∧ ({ x with A := A1, c := d1, e := { x.e with A := A2, ca := d2, B := A3, cb := d3 } } : Fr).l.length ≤ 900 := hf
  clear HX4 HRES4 HB4 HSZ4 HI4 c12 HV5 HX5 HRES5 HBL5 HB5 HS6 HO4 HO5 HP4 HP5 HX6 HRES6 HB6 HSZ6 HI HN hf
  generalize ({ x with A := A1, c := d1, e := { x.e with A := A2, ca := d2, B := A3, cb := d3 } } : Fr) = y at HS hfy ⊢
  try simp only [Act.put]
  go_cut [7] (fun s wx => ∃ ed : Int, s = .int .i64 ed ∧ w6 = wx)
  case first =>
    obtain ⟨j, hj⟩ : ∃ j, n % 6 = j := ⟨_, rfl⟩
    have hj6 : 0 ≤ j ∧ j < 6 := by rw [← hj]; exact ⟨Int.emod_nonneg _ (by omega), Int.emod_lt_of_pos _ (by omega)⟩
    obtain ⟨v, hv⟩ := idx6 (-1) 0 8 7 4611686018427387904 n w6 j hj6
    have HV := Lib.hid hv
    clear hv
    go_wp2_with (first | (go_at_call 17; refine (bpick (by omega) (by omega) hj _).mono ?_; rintro e w' ⟨rfl, rfl⟩) | (refine wpList_idx rfl 60 _ _ rfl rfl rfl HV.out ?_))
    go_meet
    exact ⟨_, rfl, rfl⟩
  case rest =>
  obtain ⟨ed, rfl, rfl⟩ := hcut
  obtain ⟨j, hj⟩ : ∃ j, how % 16 = j := ⟨_, rfl⟩
  rw [hj] at hgrp
  go_upto_block 0 with (first | (go_at_call 17; refine (bpick (by omega) (by omega) hj _).mono ?_; rintro e w' ⟨rfl, rfl⟩))
  try simp only [Act.put]
  clear hj
  go_cut [] (fun wx => ∃ y', Bst w wx y')
  case first =>
    obtain rfl := hgrp
    · have c18 : w6.cell? ⟨w.heap.size, 18, none⟩ = some (.slice y.A y.l.length y.c) := cell_of_row w6 w.heap.size 18 _ _ _ HS.out.row
      by_cases h0 : (y.l.length : Int) > 1
      case neg =>
        go_wp2_with fail
        go_meet
        exact ⟨_, HS.out⟩
      have hq0 : 0 ≤ n % ((y.l.length : Int) - 1) ∧ n % ((y.l.length : Int) - 1) < (y.l.length : Int) - 1 := ⟨Int.emod_nonneg _ (by omega), Int.emod_lt_of_pos _ (by omega)⟩
      obtain ⟨q, hq⟩ : ∃ q : Nat, n % ((y.l.length : Int) - 1) = (q : Int) := ⟨(n % ((y.l.length : Int) - 1)).toNat, by omega⟩
      have hql : q + 1 < y.l.length := by omega
      have HQ := Lib.hid hq
      clear hq hq0
      go_upto_region 31 with (first | (go_at_call 17; refine (bpick (by omega) (by omega) HQ.out _).mono ?_; rintro e w' ⟨rfl, rfl⟩))
      obtain ⟨g, hA⟩ := OwnW.at0 HS.out.parts.l (by omega)
      have HSd : Hid (Bst w w6.drew y) := Lib.hid HS.out.drawn
      have C0 := Lib.hid (HSd.out.c18 hA)
      obtain ⟨k, hk⟩ : ∃ k, k = q + 1 := ⟨_, rfl⟩
      have e1 : 1 + (q : Int) = (k : Int) := by omega
      have hwk : IntKind.i64.wrap ((k : Int) - 1) = (q : Int) := by rw [show (k : Int) - 1 = (q : Int) by omega]; exact IntWalk.i64_in _ (by omega)
      have hkl : k < y.l.length := by omega
      have hkl' : (k : Int) < (y.l.length : Int) := by omega
      have hql' : (q : Int) < (y.l.length : Int) := by omega
      obtain ⟨a0, ha0⟩ : ∃ a, y.l[q]? = some a := ⟨_, List.getElem?_eq_getElem (by omega)⟩
      obtain ⟨a1, ha1⟩ : ∃ a, y.l[k]? = some a := ⟨_, List.getElem?_eq_getElem hkl⟩
      obtain ⟨old1, hold1, hol1, hb1⟩ := HSd.out.sub (cs := a0.cells) (q := 0) (a' := a0) hA ha1 rfl (show (4 : Nat) ≤ 4 by decide) (HS.out.parts.each a0 (List.mem_of_getElem? ha0)) (HS.out.parts.nok.subs a0 (List.mem_of_getElem? ha0))
      obtain ⟨old2, hold2, hol2, hb2⟩ := hb1.sub (k := q) (cs := a1.cells) (q := 0) (a := a0) (a' := a1) hA (by dsimp only; rw [List.getElem?_set_ne (by omega)]; exact ha0) rfl (show (4 : Nat) ≤ 4 by decide) (HS.out.parts.each a1 (List.mem_of_getElem? ha1)) (HS.out.parts.nok.subs a1 (List.mem_of_getElem? ha1))
      have hown := HSd.out.parts.l
      rw [hA] at hown
      have HC0 := Lib.hid (ownsb_cells hown ha0)
      have HC1 := Lib.hid (ownsb_cells hown ha1)
      have HO1 := Lib.hid hold1
      have HL1 := Lib.hid hol1
      have HO2 := Lib.hid hold2
      have HL2 := Lib.hid hol2
      have HB2 := Lib.hid hb2
      have C1 := hb1.c18 (g := g) hA
      have C2 := hb2.c18 (g := g) hA
      dsimp only at C1 C2
      rw [List.length_set] at C1
      rw [List.length_set, List.length_set] at C2
      replace C1 := Lib.hid C1
      replace C2 := Lib.hid C2
      clear hold1 hol1 hb1 hold2 hol2 hb2 hown ha0 ha1 hk c18
      rw [e1]
      clear e1
      refine held_begin (fun z => z.cell? ⟨w.heap.size, 18, none⟩ = some (.slice (some ⟨g, 0, none⟩) y.l.length y.c)) (by kernel_rfl) ?_
      generalize w6.drew = wd at C0 C1 C2 HSd HC0 HC1 HO1 HO2 HB2 ⊢
      refine held_read (i := 0) (o := { dst := some 121, op := Op.fieldAddr 38 (Operand.tmp 3) 8, type := 0, pos := "hand.go:250", after := #[], guard := none }) (v := ?_) rfl (by kernel_rfl) (by kernel_rfl) (by kernel_rfl) (fun _ _ _ h => h) (by rfl) (by first | exact C2.out | exact C1.out | exact C0.out) ?_ ?_
      rotate_left
      · (intro x hx; replace hx : x.cell? ⟨w.heap.size, 18, none⟩ = some (.slice (some ⟨g, 0, none⟩) y.l.length y.c) := hx; go_simp; try with_reducible rfl)
      try simp only [Act.put, List.setIfInBounds_toArray, List.set_cons_zero, List.set_cons_succ]
      refine held_read (i := 1) (o := { dst := some 122, op := Op.load 36 (Operand.tmp 121), type := 36, pos := "hand.go:250", after := #[{ on := 0, ground := Ground.data }], guard := none }) (v := ?_) rfl (by kernel_rfl) (by kernel_rfl) (by kernel_rfl) (fun _ _ _ h => h) (by rfl) (by first | exact C2.out | exact C1.out | exact C0.out) ?_ ?_
      rotate_left
      · (intro x hx; replace hx : x.cell? ⟨w.heap.size, 18, none⟩ = some (.slice (some ⟨g, 0, none⟩) y.l.length y.c) := hx; go_simp; try with_reducible rfl)
      try simp only [Act.put, List.setIfInBounds_toArray, List.set_cons_zero, List.set_cons_succ]
      refine held_read (i := 2) (o := { dst := some 123, op := Op.move (Operand.tmp 8), type := 3, pos := "hand.go:250", after := #[], guard := none }) (v := ?_) rfl (by kernel_rfl) (by kernel_rfl) (by kernel_rfl) (fun _ _ _ h => h) (by rfl) (by first | exact C2.out | exact C1.out | exact C0.out) ?_ ?_
      rotate_left
      · (intro x hx; replace hx : x.cell? ⟨w.heap.size, 18, none⟩ = some (.slice (some ⟨g, 0, none⟩) y.l.length y.c) := hx; go_simp; try with_reducible rfl)
      try simp only [Act.put, List.setIfInBounds_toArray, List.set_cons_zero, List.set_cons_succ]
      refine held_read (i := 3) (o := { dst := some 124, op := Op.fieldAddr 38 (Operand.tmp 3) 8, type := 0, pos := "hand.go:250", after := #[{ on := 19, ground := Ground.gcOnly Departure.lateStores }], guard := none }) (v := ?_) rfl (by kernel_rfl) (by kernel_rfl) (by kernel_rfl) (fun _ _ _ h => h) (by rfl) (by first | exact C2.out | exact C1.out | exact C0.out) ?_ ?_
      rotate_left
      · (intro x hx; replace hx : x.cell? ⟨w.heap.size, 18, none⟩ = some (.slice (some ⟨g, 0, none⟩) y.l.length y.c) := hx; go_simp; try with_reducible rfl)
      try simp only [Act.put, List.setIfInBounds_toArray, List.set_cons_zero, List.set_cons_succ]
      refine held_read (i := 4) (o := { dst := some 125, op := Op.load 36 (Operand.tmp 124), type := 36, pos := "hand.go:250", after := #[{ on := 3, ground := Ground.data }, { on := 19, ground := Ground.gcOnly Departure.lateStores }], guard := none }) (v := ?_) rfl (by kernel_rfl) (by kernel_rfl) (by kernel_rfl) (fun _ _ _ h => h) (by rfl) (by first | exact C2.out | exact C1.out | exact C0.out) ?_ ?_
      rotate_left
      · (intro x hx; replace hx : x.cell? ⟨w.heap.size, 18, none⟩ = some (.slice (some ⟨g, 0, none⟩) y.l.length y.c) := hx; go_simp; try with_reducible rfl)
      try simp only [Act.put, List.setIfInBounds_toArray, List.set_cons_zero, List.set_cons_succ]
      refine held_read (i := 5) (o := { dst := some 126, op := Op.move (Operand.tmp 8), type := 3, pos := "hand.go:250", after := #[{ on := 19, ground := Ground.gcOnly Departure.lateStores }], guard := none }) (v := ?_) rfl (by kernel_rfl) (by kernel_rfl) (by kernel_rfl) (fun _ _ _ h => h) (by rfl) (by first | exact C2.out | exact C1.out | exact C0.out) ?_ ?_
      rotate_left
      · (intro x hx; replace hx : x.cell? ⟨w.heap.size, 18, none⟩ = some (.slice (some ⟨g, 0, none⟩) y.l.length y.c) := hx; go_simp; try with_reducible rfl)
      try simp only [Act.put, List.setIfInBounds_toArray, List.set_cons_zero, List.set_cons_succ]
      refine held_read (i := 6) (o := { dst := some 127, op := Op.binOp BinOp.sub 3 (Operand.tmp 126) (Operand.const (Value.int IntKind.i64 1)) 3, type := 3, pos := "hand.go:250", after := #[{ on := 5, ground := Ground.data }, { on := 19, ground := Ground.gcOnly Departure.lateStores }], guard := none }) (v := ?_) rfl (by kernel_rfl) (by kernel_rfl) (by kernel_rfl) (fun _ _ _ h => h) (by rfl) (by first | exact C2.out | exact C1.out | exact C0.out) ?_ ?_
      rotate_left
      · (intro x hx; replace hx : x.cell? ⟨w.heap.size, 18, none⟩ = some (.slice (some ⟨g, 0, none⟩) y.l.length y.c) := hx; go_simp; try with_reducible rfl)
      try simp only [Act.put, List.setIfInBounds_toArray, List.set_cons_zero, List.set_cons_succ]
      refine held_read (i := 7) (o := { dst := some 128, op := Op.fieldAddr 38 (Operand.tmp 3) 8, type := 0, pos := "hand.go:250", after := #[], guard := none }) (v := ?_) rfl (by kernel_rfl) (by kernel_rfl) (by kernel_rfl) (fun _ _ _ h => h) (by rfl) (by first | exact C2.out | exact C1.out | exact C0.out) ?_ ?_
      rotate_left
      · (intro x hx; replace hx : x.cell? ⟨w.heap.size, 18, none⟩ = some (.slice (some ⟨g, 0, none⟩) y.l.length y.c) := hx; go_simp; try with_reducible rfl)
      try simp only [Act.put, List.setIfInBounds_toArray, List.set_cons_zero, List.set_cons_succ]
      refine held_read (i := 8) (o := { dst := some 129, op := Op.load 36 (Operand.tmp 128), type := 36, pos := "hand.go:250", after := #[{ on := 7, ground := Ground.data }], guard := none }) (v := ?_) rfl (by kernel_rfl) (by kernel_rfl) (by kernel_rfl) (fun _ _ _ h => h) (by rfl) (by first | exact C2.out | exact C1.out | exact C0.out) ?_ ?_
      rotate_left
      · (intro x hx; replace hx : x.cell? ⟨w.heap.size, 18, none⟩ = some (.slice (some ⟨g, 0, none⟩) y.l.length y.c) := hx; go_simp; try with_reducible rfl)
      try simp only [Act.put, List.setIfInBounds_toArray, List.set_cons_zero, List.set_cons_succ]
      refine held_read (i := 9) (o := { dst := some 130, op := Op.move (Operand.tmp 8), type := 3, pos := "hand.go:250", after := #[], guard := none }) (v := ?_) rfl (by kernel_rfl) (by kernel_rfl) (by kernel_rfl) (fun _ _ _ h => h) (by rfl) (by first | exact C2.out | exact C1.out | exact C0.out) ?_ ?_
      rotate_left
      · (intro x hx; replace hx : x.cell? ⟨w.heap.size, 18, none⟩ = some (.slice (some ⟨g, 0, none⟩) y.l.length y.c) := hx; go_simp; try with_reducible rfl)
      try simp only [Act.put, List.setIfInBounds_toArray, List.set_cons_zero, List.set_cons_succ]
      refine held_read (i := 10) (o := { dst := some 131, op := Op.binOp BinOp.sub 3 (Operand.tmp 130) (Operand.const (Value.int IntKind.i64 1)) 3, type := 3, pos := "hand.go:250", after := #[{ on := 9, ground := Ground.data }], guard := none }) (v := ?_) rfl (by kernel_rfl) (by kernel_rfl) (by kernel_rfl) (fun _ _ _ h => h) (by rfl) (by first | exact C2.out | exact C1.out | exact C0.out) ?_ ?_
      rotate_left
      · (intro x hx; replace hx : x.cell? ⟨w.heap.size, 18, none⟩ = some (.slice (some ⟨g, 0, none⟩) y.l.length y.c) := hx; go_simp; try with_reducible rfl)
      try simp only [Act.put, List.setIfInBounds_toArray, List.set_cons_zero, List.set_cons_succ]
      refine held_read (i := 11) (o := { dst := some 132, op := Op.indexAddr 36 (Operand.tmp 129) (Operand.tmp 131), type := 0, pos := "hand.go:250", after := #[{ on := 8, ground := Ground.data }, { on := 10, ground := Ground.data }], guard := none }) (v := ?_) rfl (by kernel_rfl) (by kernel_rfl) (by kernel_rfl) (fun _ _ _ h => h) (by rfl) (by first | exact C2.out | exact C1.out | exact C0.out) ?_ ?_
      rotate_left
      · (intro x hx; replace hx : x.cell? ⟨w.heap.size, 18, none⟩ = some (.slice (some ⟨g, 0, none⟩) y.l.length y.c) := hx; go_simp; try with_reducible rfl)
      try simp only [Act.put, List.setIfInBounds_toArray, List.set_cons_zero, List.set_cons_succ]
      refine held_read (i := 13) (o := { dst := some 134, op := Op.fieldAddr 38 (Operand.tmp 3) 8, type := 0, pos := "hand.go:250", after := #[], guard := none }) (v := ?_) rfl (by kernel_rfl) (by kernel_rfl) (by kernel_rfl) (fun _ _ _ h => h) (by rfl) (by first | exact C2.out | exact C1.out | exact C0.out) ?_ ?_
      rotate_left
      · (intro x hx; replace hx : x.cell? ⟨w.heap.size, 18, none⟩ = some (.slice (some ⟨g, 0, none⟩) y.l.length y.c) := hx; go_simp; try with_reducible rfl)
      try simp only [Act.put, List.setIfInBounds_toArray, List.set_cons_zero, List.set_cons_succ]
      refine held_read (i := 14) (o := { dst := some 135, op := Op.load 36 (Operand.tmp 134), type := 36, pos := "hand.go:250", after := #[{ on := 13, ground := Ground.data }], guard := none }) (v := ?_) rfl (by kernel_rfl) (by kernel_rfl) (by kernel_rfl) (fun _ _ _ h => h) (by rfl) (by first | exact C2.out | exact C1.out | exact C0.out) ?_ ?_
      rotate_left
      · (intro x hx; replace hx : x.cell? ⟨w.heap.size, 18, none⟩ = some (.slice (some ⟨g, 0, none⟩) y.l.length y.c) := hx; go_simp; try with_reducible rfl)
      try simp only [Act.put, List.setIfInBounds_toArray, List.set_cons_zero, List.set_cons_succ]
      refine held_read (i := 15) (o := { dst := some 136, op := Op.move (Operand.tmp 8), type := 3, pos := "hand.go:250", after := #[], guard := none }) (v := ?_) rfl (by kernel_rfl) (by kernel_rfl) (by kernel_rfl) (fun _ _ _ h => h) (by rfl) (by first | exact C2.out | exact C1.out | exact C0.out) ?_ ?_
      rotate_left
      · (intro x hx; replace hx : x.cell? ⟨w.heap.size, 18, none⟩ = some (.slice (some ⟨g, 0, none⟩) y.l.length y.c) := hx; go_simp; try with_reducible rfl)
      try simp only [Act.put, List.setIfInBounds_toArray, List.set_cons_zero, List.set_cons_succ]
      refine held_read (i := 16) (o := { dst := some 137, op := Op.indexAddr 36 (Operand.tmp 135) (Operand.tmp 136), type := 0, pos := "hand.go:250", after := #[{ on := 14, ground := Ground.data }, { on := 15, ground := Ground.data }], guard := none }) (v := ?_) rfl (by kernel_rfl) (by kernel_rfl) (by kernel_rfl) (fun _ _ _ h => h) (by rfl) (by first | exact C2.out | exact C1.out | exact C0.out) ?_ ?_
      rotate_left
      · (intro x hx; replace hx : x.cell? ⟨w.heap.size, 18, none⟩ = some (.slice (some ⟨g, 0, none⟩) y.l.length y.c) := hx; go_simp; try with_reducible rfl)
      try simp only [Act.put, List.setIfInBounds_toArray, List.set_cons_zero, List.set_cons_succ]
      refine held_two (i := 12) (j := 17) (o := { dst := some 133, op := Op.load 33 (Operand.tmp 132), type := 33, pos := "hand.go:250", after := #[{ on := 11, ground := Ground.data }], guard := none }) (p := { dst := some 138, op := Op.load 33 (Operand.tmp 137), type := 33, pos := "hand.go:250", after := #[{ on := 16, ground := Ground.data }], guard := none }) rfl rfl (by kernel_rfl) (by rfl) (by rfl) (fun K hK => ?_) (fun K hK => ?_)
      · skip
        refine step_load_at 33 _ rfl g (q * 4) a0.cells _ rfl HC0.out Tryz.underlying33 rfl sb_size ?_
        refine hK.out _ _ C0.out ?_
        clear hK K
        dsimp only [Sb.cells]
        try simp only [Act.put, List.setIfInBounds_toArray, List.set_cons_zero, List.set_cons_succ]
        refine held_call (i := 17) (o := { dst := some 138, op := Op.load 33 (Operand.tmp 137), type := 33, pos := "hand.go:250", after := #[{ on := 16, ground := Ground.data }], guard := none }) rfl (by kernel_rfl) (by rfl) (fun K hK => ?_)
        refine step_load_at 33 _ rfl g (k * 4) a1.cells _ rfl HC1.out Tryz.underlying33 rfl sb_size ?_
        refine hK.out _ _ C0.out ?_
        clear hK K
        dsimp only [Sb.cells]
        try simp only [Act.put, List.setIfInBounds_toArray, List.set_cons_zero, List.set_cons_succ]
        refine held_read (i := 18) (o := { dst := some 139, op := Op.indexAddr 36 (Operand.tmp 122) (Operand.tmp 123), type := 0, pos := "hand.go:250", after := #[{ on := 1, ground := Ground.data }, { on := 2, ground := Ground.data }, { on := 0, ground := Ground.phase }, { on := 1, ground := Ground.phase }, { on := 2, ground := Ground.phase }, { on := 3, ground := Ground.textOnly Departure.lateStores }, { on := 4, ground := Ground.textOnly Departure.lateStores }, { on := 5, ground := Ground.textOnly Departure.lateStores }, { on := 6, ground := Ground.textOnly Departure.lateStores }, { on := 7, ground := Ground.phase }, { on := 8, ground := Ground.phase }, { on := 9, ground := Ground.phase }, { on := 10, ground := Ground.phase }, { on := 11, ground := Ground.phase }, { on := 12, ground := Ground.phase }, { on := 13, ground := Ground.textOnly Departure.lateStores }, { on := 14, ground := Ground.textOnly Departure.lateStores }, { on := 15, ground := Ground.textOnly Departure.lateStores }, { on := 16, ground := Ground.textOnly Departure.lateStoresUnsure }, { on := 17, ground := Ground.phase }], guard := none }) (v := ?_) rfl (by kernel_rfl) (by kernel_rfl) (by kernel_rfl) (fun _ _ _ h => h) (by rfl) (by first | exact C2.out | exact C1.out | exact C0.out) ?_ ?_
        rotate_left
        · (intro x hx; replace hx : x.cell? ⟨w.heap.size, 18, none⟩ = some (.slice (some ⟨g, 0, none⟩) y.l.length y.c) := hx; go_simp; try with_reducible rfl)
        try simp only [Act.put, List.setIfInBounds_toArray, List.set_cons_zero, List.set_cons_succ]
        refine held_call (i := 19) (o := { dst := none, op := Op.store 33 (Operand.tmp 139) (Operand.tmp 133), type := 0, pos := "hand.go:250", after := #[{ on := 18, ground := Ground.data }, { on := 12, ground := Ground.data }, { on := 0, ground := Ground.phase }, { on := 1, ground := Ground.phase }, { on := 2, ground := Ground.phase }, { on := 3, ground := Ground.textOnly Departure.lateStores }, { on := 4, ground := Ground.textOnly Departure.lateStores }, { on := 5, ground := Ground.textOnly Departure.lateStores }, { on := 6, ground := Ground.textOnly Departure.lateStores }, { on := 7, ground := Ground.phase }, { on := 8, ground := Ground.phase }, { on := 9, ground := Ground.phase }, { on := 10, ground := Ground.phase }, { on := 11, ground := Ground.phase }, { on := 12, ground := Ground.phase }, { on := 13, ground := Ground.textOnly Departure.lateStores }, { on := 14, ground := Ground.textOnly Departure.lateStores }, { on := 15, ground := Ground.textOnly Departure.lateStores }, { on := 16, ground := Ground.textOnly Departure.lateStoresUnsure }, { on := 17, ground := Ground.phase }], guard := none }) rfl (by kernel_rfl) (by rfl) (fun K hK => ?_)
        refine step_store_part 33 _ _ rfl g (k * 4) _ a0.cells rfl rfl rfl 33 old1 HO1.out sb_size HL1.out (Sb.one a0) ?_
        refine hK.out _ _ C1.out ?_
        clear hK K
        generalize World.setRow wd _ _ = w7 at C1 C2 HO2 HB2 ⊢
        try simp only [Act.put]
        refine held_read (i := 20) (o := { dst := some 140, op := Op.indexAddr 36 (Operand.tmp 125) (Operand.tmp 127), type := 0, pos := "hand.go:250", after := #[{ on := 4, ground := Ground.data }, { on := 6, ground := Ground.data }, { on := 0, ground := Ground.phase }, { on := 1, ground := Ground.phase }, { on := 2, ground := Ground.phase }, { on := 3, ground := Ground.phase }, { on := 4, ground := Ground.phase }, { on := 5, ground := Ground.phase }, { on := 6, ground := Ground.phase }, { on := 7, ground := Ground.phase }, { on := 8, ground := Ground.phase }, { on := 9, ground := Ground.phase }, { on := 10, ground := Ground.phase }, { on := 11, ground := Ground.phase }, { on := 12, ground := Ground.phase }, { on := 13, ground := Ground.phase }, { on := 14, ground := Ground.phase }, { on := 15, ground := Ground.phase }, { on := 16, ground := Ground.phase }, { on := 17, ground := Ground.phase }, { on := 18, ground := Ground.phase }, { on := 19, ground := Ground.phase }], guard := none }) (v := ?_) rfl (by kernel_rfl) (by kernel_rfl) (by kernel_rfl) (fun _ _ _ h => h) (by rfl) (by first | exact C2.out | exact C1.out | exact C0.out) ?_ ?_
        rotate_left
        · (intro x hx; replace hx : x.cell? ⟨w.heap.size, 18, none⟩ = some (.slice (some ⟨g, 0, none⟩) y.l.length y.c) := hx; go_simp; try with_reducible rfl)
        try simp only [Act.put, List.setIfInBounds_toArray, List.set_cons_zero, List.set_cons_succ]
        refine held_call (i := 21) (o := { dst := none, op := Op.store 33 (Operand.tmp 140) (Operand.tmp 138), type := 0, pos := "hand.go:250", after := #[{ on := 20, ground := Ground.data }, { on := 17, ground := Ground.data }, { on := 19, ground := Ground.chain }, { on := 0, ground := Ground.phase }, { on := 1, ground := Ground.phase }, { on := 2, ground := Ground.phase }, { on := 3, ground := Ground.phase }, { on := 4, ground := Ground.phase }, { on := 5, ground := Ground.phase }, { on := 6, ground := Ground.phase }, { on := 7, ground := Ground.phase }, { on := 8, ground := Ground.phase }, { on := 9, ground := Ground.phase }, { on := 10, ground := Ground.phase }, { on := 11, ground := Ground.phase }, { on := 12, ground := Ground.phase }, { on := 13, ground := Ground.phase }, { on := 14, ground := Ground.phase }, { on := 15, ground := Ground.phase }, { on := 16, ground := Ground.phase }, { on := 17, ground := Ground.phase }, { on := 18, ground := Ground.phase }, { on := 19, ground := Ground.phase }], guard := none }) rfl (by kernel_rfl) (by rfl) (fun K hK => ?_)
        refine step_store_part 33 _ _ rfl g (q * 4) _ a1.cells rfl rfl rfl 33 old2 HO2.out sb_size HL2.out (Sb.one a1) ?_
        refine hK.out _ _ C2.out ?_
        clear hK K
        generalize World.setRow w7 _ _ = w8 at C2 HB2 ⊢
        try simp only [Act.put]
        refine wpAnyH_done (by kernel_rfl) ?_ _
        go_wp2_with fail
        go_meet
        exact ⟨_, HB2.out⟩
      · skip
        refine step_load_at 33 _ rfl g (k * 4) a1.cells _ rfl HC1.out Tryz.underlying33 rfl sb_size ?_
        refine hK.out _ _ C0.out ?_
        clear hK K
        dsimp only [Sb.cells]
        try simp only [Act.put, List.setIfInBounds_toArray, List.set_cons_zero, List.set_cons_succ]
        refine held_call (i := 12) (o := { dst := some 133, op := Op.load 33 (Operand.tmp 132), type := 33, pos := "hand.go:250", after := #[{ on := 11, ground := Ground.data }], guard := none }) rfl (by kernel_rfl) (by rfl) (fun K hK => ?_)
        refine step_load_at 33 _ rfl g (q * 4) a0.cells _ rfl HC0.out Tryz.underlying33 rfl sb_size ?_
        refine hK.out _ _ C0.out ?_
        clear hK K
        dsimp only [Sb.cells]
        try simp only [Act.put, List.setIfInBounds_toArray, List.set_cons_zero, List.set_cons_succ]
        refine held_read (i := 18) (o := { dst := some 139, op := Op.indexAddr 36 (Operand.tmp 122) (Operand.tmp 123), type := 0, pos := "hand.go:250", after := #[{ on := 1, ground := Ground.data }, { on := 2, ground := Ground.data }, { on := 0, ground := Ground.phase }, { on := 1, ground := Ground.phase }, { on := 2, ground := Ground.phase }, { on := 3, ground := Ground.textOnly Departure.lateStores }, { on := 4, ground := Ground.textOnly Departure.lateStores }, { on := 5, ground := Ground.textOnly Departure.lateStores }, { on := 6, ground := Ground.textOnly Departure.lateStores }, { on := 7, ground := Ground.phase }, { on := 8, ground := Ground.phase }, { on := 9, ground := Ground.phase }, { on := 10, ground := Ground.phase }, { on := 11, ground := Ground.phase }, { on := 12, ground := Ground.phase }, { on := 13, ground := Ground.textOnly Departure.lateStores }, { on := 14, ground := Ground.textOnly Departure.lateStores }, { on := 15, ground := Ground.textOnly Departure.lateStores }, { on := 16, ground := Ground.textOnly Departure.lateStoresUnsure }, { on := 17, ground := Ground.phase }], guard := none }) (v := ?_) rfl (by kernel_rfl) (by kernel_rfl) (by kernel_rfl) (fun _ _ _ h => h) (by rfl) (by first | exact C2.out | exact C1.out | exact C0.out) ?_ ?_
        rotate_left
        · (intro x hx; replace hx : x.cell? ⟨w.heap.size, 18, none⟩ = some (.slice (some ⟨g, 0, none⟩) y.l.length y.c) := hx; go_simp; try with_reducible rfl)
        try simp only [Act.put, List.setIfInBounds_toArray, List.set_cons_zero, List.set_cons_succ]
        refine held_call (i := 19) (o := { dst := none, op := Op.store 33 (Operand.tmp 139) (Operand.tmp 133), type := 0, pos := "hand.go:250", after := #[{ on := 18, ground := Ground.data }, { on := 12, ground := Ground.data }, { on := 0, ground := Ground.phase }, { on := 1, ground := Ground.phase }, { on := 2, ground := Ground.phase }, { on := 3, ground := Ground.textOnly Departure.lateStores }, { on := 4, ground := Ground.textOnly Departure.lateStores }, { on := 5, ground := Ground.textOnly Departure.lateStores }, { on := 6, ground := Ground.textOnly Departure.lateStores }, { on := 7, ground := Ground.phase }, { on := 8, ground := Ground.phase }, { on := 9, ground := Ground.phase }, { on := 10, ground := Ground.phase }, { on := 11, ground := Ground.phase }, { on := 12, ground := Ground.phase }, { on := 13, ground := Ground.textOnly Departure.lateStores }, { on := 14, ground := Ground.textOnly Departure.lateStores }, { on := 15, ground := Ground.textOnly Departure.lateStores }, { on := 16, ground := Ground.textOnly Departure.lateStoresUnsure }, { on := 17, ground := Ground.phase }], guard := none }) rfl (by kernel_rfl) (by rfl) (fun K hK => ?_)
        refine step_store_part 33 _ _ rfl g (k * 4) _ a0.cells rfl rfl rfl 33 old1 HO1.out sb_size HL1.out (Sb.one a0) ?_
        refine hK.out _ _ C1.out ?_
        clear hK K
        generalize World.setRow wd _ _ = w7 at C1 C2 HO2 HB2 ⊢
        try simp only [Act.put]
        refine held_read (i := 20) (o := { dst := some 140, op := Op.indexAddr 36 (Operand.tmp 125) (Operand.tmp 127), type := 0, pos := "hand.go:250", after := #[{ on := 4, ground := Ground.data }, { on := 6, ground := Ground.data }, { on := 0, ground := Ground.phase }, { on := 1, ground := Ground.phase }, { on := 2, ground := Ground.phase }, { on := 3, ground := Ground.phase }, { on := 4, ground := Ground.phase }, { on := 5, ground := Ground.phase }, { on := 6, ground := Ground.phase }, { on := 7, ground := Ground.phase }, { on := 8, ground := Ground.phase }, { on := 9, ground := Ground.phase }, { on := 10, ground := Ground.phase }, { on := 11, ground := Ground.phase }, { on := 12, ground := Ground.phase }, { on := 13, ground := Ground.phase }, { on := 14, ground := Ground.phase }, { on := 15, ground := Ground.phase }, { on := 16, ground := Ground.phase }, { on := 17, ground := Ground.phase }, { on := 18, ground := Ground.phase }, { on := 19, ground := Ground.phase }], guard := none }) (v := ?_) rfl (by kernel_rfl) (by kernel_rfl) (by kernel_rfl) (fun _ _ _ h => h) (by rfl) (by first | exact C2.out | exact C1.out | exact C0.out) ?_ ?_
        rotate_left
        · (intro x hx; replace hx : x.cell? ⟨w.heap.size, 18, none⟩ = some (.slice (some ⟨g, 0, none⟩) y.l.length y.c) := hx; go_simp; try with_reducible rfl)
        try simp only [Act.put, List.setIfInBounds_toArray, List.set_cons_zero, List.set_cons_succ]
        refine held_call (i := 21) (o := { dst := none, op := Op.store 33 (Operand.tmp 140) (Operand.tmp 138), type := 0, pos := "hand.go:250", after := #[{ on := 20, ground := Ground.data }, { on := 17, ground := Ground.data }, { on := 19, ground := Ground.chain }, { on := 0, ground := Ground.phase }, { on := 1, ground := Ground.phase }, { on := 2, ground := Ground.phase }, { on := 3, ground := Ground.phase }, { on := 4, ground := Ground.phase }, { on := 5, ground := Ground.phase }, { on := 6, ground := Ground.phase }, { on := 7, ground := Ground.phase }, { on := 8, ground := Ground.phase }, { on := 9, ground := Ground.phase }, { on := 10, ground := Ground.phase }, { on := 11, ground := Ground.phase }, { on := 12, ground := Ground.phase }, { on := 13, ground := Ground.phase }, { on := 14, ground := Ground.phase }, { on := 15, ground := Ground.phase }, { on := 16, ground := Ground.phase }, { on := 17, ground := Ground.phase }, { on := 18, ground := Ground.phase }, { on := 19, ground := Ground.phase }], guard := none }) rfl (by kernel_rfl) (by rfl) (fun K hK => ?_)
        refine step_store_part 33 _ _ rfl g (q * 4) _ a1.cells rfl rfl rfl 33 old2 HO2.out sb_size HL2.out (Sb.one a1) ?_
        refine hK.out _ _ C2.out ?_
        clear hK K
        generalize World.setRow w7 _ _ = w8 at C2 HB2 ⊢
        try simp only [Act.put]
        refine wpAnyH_done (by kernel_rfl) ?_ _
        go_wp2_with fail
        go_meet
        exact ⟨_, HB2.out⟩
  case rest =>
  obtain ⟨y', hS⟩ := hcut
  have HE := Lib.hid hS
  clear hS HS hfy
  generalize wc = w7 at HE ⊢
  generalize y' = z at HE
  have HC := Lib.hid (cells_row (cs := Fr.cells z) HE.out.row)
  have HEN := Lib.hid HE.out.ends
  have HRS := Lib.hid HE.out.res
  go_upto_region 41 with fail
  refine wp_region_lit ?_
  refine wpList_load_at rfl 38 _ rfl w.heap.size 0 (Fr.cells z) _ rfl HC.out Tryz.underlying38 rfl fr_size1 ?_
  dsimp only [Fr.cells]
  simp only [Act.put, List.setIfInBounds_toArray, List.set_cons_zero, List.set_cons_succ]
  refine wpList_store_part rfl 38 _ _ rfl (w.heap.size + 1) 0 _ (Fr.cells z) rfl rfl rfl 38 fr00.cells HRS.out fr_size1 (show (19 : Nat) ≤ 19 by decide) (ffr_one _) ?_
  generalize World.setRow w7 _ _ = wz at HEN ⊢
  try simp only [Act.put]
  obtain ⟨g1, g2, g3, g4⟩ := HEN.out
  unfold wpList
  simp only [Exit.then]
  refine (‹∀ (a : Act) (w' : World), Code.wp Tryz.prog Code.ret _ a w' → _› _ _ ?_)
  refine wp_ret ?_
  refine bodyPost_ret (results_cell_row rfl _ _ _ _ _ _ _ rfl g1 Tryz.underlying38 rfl (by kernel_rfl)) rfl ?_
  exact ⟨z, rfl, g2, g3, g4⟩
end Go.Proofs.YtgenmebmdpnjhaaGreat
