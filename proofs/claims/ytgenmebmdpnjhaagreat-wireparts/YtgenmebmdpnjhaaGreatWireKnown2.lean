
/- WireKnown: the walk. -/
import Derived.Test.YtgenmebmdpnjhaaGreatG15
namespace Go.Proofs.YtgenmebmdpnjhaaGreat
open Go.RowKit
set_option linter.unusedVariables false
set_option maxRecDepth 100000

theorem stop_is {w : World} {k ep : Int} : IsFr w (stopFr k ep) := ⟨ev0_is _, ft0_is _, sbs0_is _, fun _ => ⟨rfl, rfl⟩⟩
abbrev exA : Att := ⟨⟨#[97]⟩, ⟨4, 0, 0, ⟨#[]⟩, true⟩⟩
abbrev exS : St := ⟨6, 7⟩
abbrev exX (g : Nat) : Fr := ⟨6, 0, 0, 0, 0, 0, ⟨1, 2, 3, 4, 5, some ⟨g, 0, none⟩, 1, [exA], some ⟨g + 1, 0, none⟩, 1, [exS]⟩, false, sb0, none, 0, []⟩
abbrev exY (g : Nat) : Fr := ⟨6, 1, 0, 0, 0, 0, ⟨1, 2, 3, 4, 5, some ⟨g, 0, none⟩, 1, [exA], some ⟨g + 1, 0, none⟩, 1, [exS]⟩, false, sb0, none, 0, []⟩
abbrev exZ : Fr := ⟨7, 1, 0, 2, 3, 0, ev0, false, sb0, none, 0, []⟩
abbrev exbA : Obj := .cells #[.string ⟨#[97]⟩, .int .i64 4, .int .i64 0, .float .f64 0, .string ⟨#[]⟩, .bool true] 66
theorem ex_ev {w : World} {g : Nat} (h1 : w.heap[g]? = some exbA) (h2 : w.heap[g + 1]? = some (stbox exS)) : IsEv w (exX g).e := by
  refine ⟨⟨⟨rfl, .inr ⟨g, 0, rfl, fun j u hj => cells_row (cs := Att.cells exA) h1 j u (by simpa [flat] using hj)⟩⟩, fun a ha => ?_, by show (1:Nat) ≤ _; omega⟩, fun a ha => ?_, ⟨⟨rfl, .inr ⟨g + 1, 0, rfl, fun j u hj => cells_row (cs := St.cells exS) h2 j u (by simpa [stflat] using hj)⟩⟩, by show (1:Nat) ≤ _; omega⟩, (fun e => by cases e), (fun e => by cases e)⟩
  · rw [List.mem_singleton.1 ha]; decide
  · rw [List.mem_singleton.1 ha]; exact ⟨by decide, by decide, by decide⟩
theorem ex_x {w : World} {g : Nat} (h1 : w.heap[g]? = some exbA) (h2 : w.heap[g + 1]? = some (stbox exS)) : IsFr w (exX g) := ⟨ex_ev h1 h2, ft0_is _, sbs0_is _, fun _ => ⟨rfl, rfl⟩⟩
theorem ex_y {w : World} {g : Nat} (h1 : w.heap[g]? = some exbA) (h2 : w.heap[g + 1]? = some (stbox exS)) : IsFr w (exY g) := ⟨ex_ev h1 h2, ft0_is _, sbs0_is _, fun _ => ⟨rfl, rfl⟩⟩
theorem ex_z {w : World} : IsFr w exZ := ⟨ev0_is _, ft0_is _, sbs0_is _, fun _ => ⟨rfl, rfl⟩⟩
theorem ex_lays (g : Nat) : EvLays (exX g).e := by
  refine ⟨fun a ha => ?_, by show (1:Nat) ≤ _; omega, by show (1:Nat) ≤ _; omega⟩
  rw [List.mem_singleton.1 ha]
  exact ⟨by decide, ⟨by decide, by decide⟩⟩
theorem ex_right (g : Nat) : Wr.right (exX g) = true := by kernel_rfl
theorem ex_wrong (g : Nat) : Wr.right (exY g) = false := by kernel_rfl
theorem ex_other (g : Nat) : Wr.same (exX g) (exY g) = false := by kernel_rfl
theorem ex_same (g : Nat) : Wr.same (exX g) (exX g) = true := by kernel_rfl
theorem ex_bytes (g : Nat) : natw 6 ++ eventb (exX g).e = [6, 1, 2, 3, 4, 5, 1, 1, 97, 4, 1, 1, 6, 7] := by kernel_rfl
theorem set_y {w : World} {g y : Nat} (h : w.heap[y]? = some (frbox (exX g))) : (w.setRow y (part (Fr.cells (exX g)) 1 [Value.int .i64 1]).toArray).heap[y]? = some (frbox (exY g)) ∧ Kept (· = y) w (w.setRow y (part (Fr.cells (exX g)) 1 [Value.int .i64 1]).toArray) := by
  have e : part (Fr.cells (exX g)) 1 [Value.int .i64 1] = Fr.cells (exY g) := by rfl
  rw [e]; exact ⟨setRow_heap w y _ (Fr.cells (exY g)).toArray _ _ h, Kept.setRow _ _ _⟩
theorem z_bytes : natw 7 ++ [exZ.tb, exZ.cl, exZ.sq].flatMap natw = [7, 1, 2, 3] := by decide +kernel
theorem z_right : Wr.right exZ = true := by kernel_rfl
/-- The rest of a region, in the order of the text. -/
theorem wpList_later {ops : Array Oper} {Q : Exit → Act → World → Prop} {a : Act} {W : World} {l : List Oper}
    (h : wpQuiet Tryz.prog ops (fun w' => ∃ x : Later W, w' = x.at_) (fun a' => ∀ w', (∃ x : Later W, w' = x.at_) → Q .normal a' w') l a) : wpList Tryz.prog ops Q l a W :=
  wpList_of_quiet (fun _ w hc hr => hr w hc) l a W ⟨⟨W, Below.refl _ _⟩, rfl⟩ h
theorem wpList_split_at {ops : Array Oper} {Q : Exit → Act → World → Prop} {a : Act} {w : World} {l : List Oper} (n : Nat) (h : wpList Tryz.prog ops (Second Tryz.prog ops Q (l.drop n)) (l.take n) a w) : wpList Tryz.prog ops Q l a w := by
  have := wpList_split (l.drop n) (l.take n) a w h
  rw [List.take_append_drop] at this
  exact this
set_option maxHeartbeats 32000000 in
theorem wknown_walk (w : World) : Calls Tryz.prog 24 #[] w fun e w' => e = .returned (.bool true) ∧ Below w.heap.size w w' := by
  go_enter Tryz.func24, Tryz.ntmps24
  go_upto_region 1 with fail
  refine region_split 6 ?_
  simp only [List.take_succ_cons, List.take_zero, List.drop_succ_cons, List.drop_zero]
  go_wp2_with fail
  refine (kread_2 _).mono ?_
  rintro e v1 ⟨rfl, hb⟩
  have HB1 := Lib.hid hb
  clear hb
  go_wp2_with fail
  have hnf := new_frame v1 (stopFr 0 0)
  have hz : (v1.alloc zbox).heap[v1.heap.size]? = some zbox := heap_alloc_new v1 zbox
  change wpList Tryz.prog _ _ _ _ (v1.alloc zbox)
  generalize v1.alloc zbox = W1 at hnf hz ⊢
  refine wpList_store_part rfl 38 _ _ rfl v1.heap.size 0 _ (Fr.cells (stopFr 0 0)) rfl rfl rfl 38 (Fr.cells (stopFr 0 0)) hz fr_size (Nat.le_of_eq rfl) (fr_one _) ?_
  have HN := Lib.hid hnf
  clear hnf hz
  generalize World.setRow _ _ _ = u1 at HN ⊢
  have HA1 := Lib.hid (below_then HB1.out HN.out.2)
  clear HN HB1
  go_upto_region 2 with fail
  refine region_split 6 ?_
  simp only [List.take_succ_cons, List.take_zero, List.drop_succ_cons, List.drop_zero]
  go_wp2_with fail
  refine (kread_9 _).mono ?_
  rintro e v2 ⟨rfl, hb⟩
  have HB2 := Lib.hid (below_then HA1.out hb)
  clear hb
  clear HA1
  go_wp2_with fail
  have hnf := new_frame v2 (stopFr 0 0)
  have hz : (v2.alloc zbox).heap[v2.heap.size]? = some zbox := heap_alloc_new v2 zbox
  change wpList Tryz.prog _ _ _ _ (v2.alloc zbox)
  generalize v2.alloc zbox = W1 at hnf hz ⊢
  refine wpList_store_part rfl 38 _ _ rfl v2.heap.size 0 _ (Fr.cells (stopFr 0 0)) rfl rfl rfl 38 (Fr.cells (stopFr 0 0)) hz fr_size (Nat.le_of_eq rfl) (fr_one _) ?_
  have HN := Lib.hid hnf
  clear hnf hz
  generalize World.setRow _ _ _ = u2 at HN ⊢
  have HA2 := Lib.hid (below_then HB2.out HN.out.2)
  clear HN HB2
  go_upto_region 3 with fail
  refine region_split 6 ?_
  simp only [List.take_succ_cons, List.take_zero, List.drop_succ_cons, List.drop_zero]
  go_wp2_with fail
  refine (kread_234 _).mono ?_
  rintro e v3 ⟨rfl, hb⟩
  have HB3 := Lib.hid (below_then HA2.out hb)
  clear hb
  clear HA2
  go_wp2_with fail
  have hnf := new_frame v3 (stopFr 0 0)
  have hz : (v3.alloc zbox).heap[v3.heap.size]? = some zbox := heap_alloc_new v3 zbox
  change wpList Tryz.prog _ _ _ _ (v3.alloc zbox)
  generalize v3.alloc zbox = W1 at hnf hz ⊢
  refine wpList_store_part rfl 38 _ _ rfl v3.heap.size 0 _ (Fr.cells (stopFr 0 0)) rfl rfl rfl 38 (Fr.cells (stopFr 0 0)) hz fr_size (Nat.le_of_eq rfl) (fr_one _) ?_
  have HN := Lib.hid hnf
  clear hnf hz
  generalize World.setRow _ _ _ = u3 at HN ⊢
  have HA3 := Lib.hid (below_then HB3.out HN.out.2)
  clear HN HB3
  go_upto_region 4 with fail
  refine region_split 6 ?_
  simp only [List.take_succ_cons, List.take_zero, List.drop_succ_cons, List.drop_zero]
  go_wp2_with fail
  refine (kread_23 _).mono ?_
  rintro e v4 ⟨rfl, hb⟩
  have HB4 := Lib.hid (below_then HA3.out hb)
  clear hb
  clear HA3
  go_wp2_with fail
  have hnf := new_frame v4 (stopFr 2 3)
  have hz : (v4.alloc zbox).heap[v4.heap.size]? = some zbox := heap_alloc_new v4 zbox
  change wpList Tryz.prog _ _ _ _ (v4.alloc zbox)
  generalize v4.alloc zbox = W1 at hnf hz ⊢
  refine wpList_store_part rfl 38 _ _ rfl v4.heap.size 0 _ (Fr.cells (stopFr 2 3)) rfl rfl rfl 38 (Fr.cells (stopFr 0 0)) hz fr_size (Nat.le_of_eq rfl) (fr_one _) ?_
  have HN := Lib.hid hnf
  clear hnf hz
  generalize World.setRow _ _ _ = u4 at HN ⊢
  have HA4 := Lib.hid (below_then HB4.out HN.out.2)
  have HR4 := Lib.hid HN.out.1
  generalize v4.heap.size = b7 at HR4 ⊢
  clear HN HB4
  go_upto_region 5 with fail
  refine region_split 5 ?_
  simp only [List.take_succ_cons, List.take_zero, List.drop_succ_cons, List.drop_zero]
  go_wp2_with fail
  refine (kread_nil _).mono ?_
  rintro e v5 ⟨rfl, hb⟩
  have HB5 := Lib.hid (below_then HA4.out hb)
  have HR5 := Lib.hid (below_row hb HR4.out)
  clear HR4
  clear hb
  clear HA4
  go_wp2_with fail
  have hnf := new_frame v5 (stopFr 0 0)
  have hz : (v5.alloc zbox).heap[v5.heap.size]? = some zbox := heap_alloc_new v5 zbox
  change wpList Tryz.prog _ _ _ _ (v5.alloc zbox)
  generalize v5.alloc zbox = W1 at hnf hz ⊢
  refine wpList_store_part rfl 38 _ _ rfl v5.heap.size 0 _ (Fr.cells (stopFr 0 0)) rfl rfl rfl 38 (Fr.cells (stopFr 0 0)) hz fr_size (Nat.le_of_eq rfl) (fr_one _) ?_
  have HN := Lib.hid hnf
  clear hnf hz
  generalize World.setRow _ _ _ = u5 at HN ⊢
  have HA5 := Lib.hid (below_then HB5.out HN.out.2)
  replace HR5 := Lib.hid (below_row HN.out.2 HR5.out)
  clear HN HB5
  have k0 := fr_cell HR5.out 0 _ rfl
  have k5 := fr_cell HR5.out 5 _ rfl
  go_wp2_with fail
  refine (lay_stop (f := stopFr 2 3) stop_is rfl (by decide +kernel)).mono ?_
  rintro e w6 ⟨v, rfl, hO, hb⟩
  obtain ⟨A6, c6, rfl, -⟩ := hO.reads
  have hrd := (ownb_rd hO).2
  have e6 : natw 2 ++ [(stopFr 2 3).ep].flatMap natw = [2, 3] := by decide +kernel
  rw [e6] at hrd ⊢
  have hs : tstr [2, 3] = ⟨#[2, 3]⟩ := by decide +kernel
  have hconv : (convert 23 9 (.slice A6 2 c6)).run Tryz.prog w6 = .ok (.string ⟨#[2, 3]⟩) w6 := hs ▸ conv_bytes hrd
  have HR6 := Lib.hid (below_row hb HR5.out)
  have HA6 := Lib.hid (below_then HA5.out hb)
  clear hO hrd hb k0 k5 HR5 HA5 e6 hs
  have k0 := fr_cell HR6.out 0 _ rfl
  have k5 := fr_cell HR6.out 5 _ rfl
  go_upto_region 8 with fail
  clear hconv k0 k5 HR6
  refine region_split 8 ?_
  simp only [List.take_succ_cons, List.take_zero, List.drop_succ_cons, List.drop_zero]
  go_wp2_with fail
  refine (vbool_any true _).mono ?_
  rintro e w7 ⟨rfl, hb⟩
  have HA7 := Lib.hid (below_then HA6.out hb)
  clear hb HA6
  have hst := store_float
  go_wp2_with fail
  have hsz : ((w7.alloc exbA).alloc (stbox exS)).heap.size = w7.heap.size + 1 + 1 := by simp
  have hnf := new_frame ((w7.alloc exbA).alloc (stbox exS)) (exX w7.heap.size)
  have hz : (((w7.alloc exbA).alloc (stbox exS)).alloc zbox).heap[((w7.alloc exbA).alloc (stbox exS)).heap.size]? = some zbox := heap_alloc_new _ zbox
  have hr1 := first_of w7 exbA (stbox exS)
  have hr2 := new_second w7 exbA (stbox exS)
  have hbb := two_new w7 exbA (stbox exS)
  rw [hsz] at hnf hz
  change wpList Tryz.prog _ _ _ _ (((w7.alloc exbA).alloc (stbox exS)).alloc zbox)
  generalize ((w7.alloc exbA).alloc (stbox exS)).alloc zbox = W1 at hnf hz ⊢
  generalize (w7.alloc exbA).alloc (stbox exS) = W7 at hnf hr1 hr2 hbb hsz
  refine wpList_store_part rfl 38 _ _ rfl (w7.heap.size + 1 + 1) 0 _ (Fr.cells (exX w7.heap.size)) rfl rfl rfl 38 (Fr.cells (stopFr 0 0)) hz fr_size (Nat.le_of_eq rfl) (fr_one _) ?_
  generalize World.setRow _ _ _ = w8 at hnf ⊢
  have hnf2 : Below W7.heap.size W7 w8 := by rw [hsz]; exact hnf.2
  have HX := Lib.hid hnf.1
  have H1 := Lib.hid (below_row hnf2 hr1)
  have H2 := Lib.hid (below_row hnf2 hr2)
  have HB8 := Lib.hid (below_then HA7.out (below_then hbb hnf2))
  have hg2 : w7.heap.size + 2 ≤ w8.heap.size := by have := hnf2.size; omega
  clear hnf hnf2 hz hr1 hr2 hbb HA7 hsz
  generalize w7.heap.size = g at HX H1 H2 hg2 ⊢
  go_upto_region 9 with fail
  refine region_split 5 ?_
  simp only [List.take_succ_cons, List.take_zero, List.drop_succ_cons, List.drop_zero]
  have HC8 := Lib.hid (frbox_cells HX.out)
  go_wp2_with (first | (refine wpList_load_at rfl 38 _ rfl (g + 1 + 1) 0 (Fr.cells (exX g)) _ rfl HC8.out Tryz.underlying38 rfl fr_size ?_; dsimp only [Fr.cells]) | fail)
  refine (lay_fall (f := exX g) (ex_x H1.out H2.out) rfl (ex_right g) (ex_lays g)).mono ?_
  rw [ex_bytes]
  rintro e w9 ⟨v, rfl, hO, hb⟩
  obtain ⟨A9, c9, rfl, -⟩ := hO.reads
  have hrd := (ownb_rd hO).2
  have hs : tstr [6, 1, 2, 3, 4, 5, 1, 1, 97, 4, 1, 1, 6, 7] = ⟨#[6, 1, 2, 3, 4, 5, 1, 1, 97, 4, 1, 1, 6, 7]⟩ := by decide +kernel
  have hconv : (convert 23 9 (.slice A9 14 c9)).run Tryz.prog w9 = .ok (.string ⟨#[6, 1, 2, 3, 4, 5, 1, 1, 97, 4, 1, 1, 6, 7]⟩) w9 := hs ▸ conv_bytes hrd
  replace HX := Lib.hid (below_row hb HX.out)
  replace H1 := Lib.hid (below_row hb H1.out)
  replace H2 := Lib.hid (below_row hb H2.out)
  have HB9 := Lib.hid (below_then HB8.out hb)
  have hsz9 := hb.size
  clear hO hrd hb hs HB8 HC8
  go_wp2_with fail
  change wpList Tryz.prog _ _ _ _ w9
  clear hconv
  have HCX := Lib.hid (later_cells (frbox_cells HX.out))
  have K1 := Lib.hid (fun x : Later w9 => (ex_right g) ▸ wright_any (f := exX g) ((ex_x H1.out H2.out).later x.below))
  have K2 := Lib.hid (fun x : Later w9 => (show Wr.right (stopFr 0 0) = false by kernel_rfl) ▸ wright_any (f := stopFr 0 0) (stop_is (w := x.at_)))
  haveI := later_some w9
  refine wpList_later ?_
  (go_big_quiet_want; refine quiet_load 38 _ rfl _ 0 (Fr.cells (exX g)) _ rfl HCX.out Tryz.underlying38 rfl fr_size ?_; go_big_quiet_on; simp only [Act.put, List.setIfInBounds_toArray, List.set_cons_succ, List.set_cons_zero])
  go_big_quiet_step (first | (go_at_call 10; exact calls_later (K1.out _)))
  clear K1
  repeat (first | go_big_quiet_step (first | (go_at_call 10; exact calls_later (K2.out _))))
  refine wpQuiet_nil ?_
  rintro _ ⟨x, rfl⟩
  replace HX := Lib.hid (below_row x.below HX.out)
  replace H1 := Lib.hid (below_row x.below H1.out)
  replace H2 := Lib.hid (below_row x.below H2.out)
  have HBa := Lib.hid (below_then HB9.out x.below)
  have hsza := x.below.size
  clear K2 HCX HB9
  generalize x.at_ = wa at HX H1 H2 HBa hsza ⊢
  go_upto_region 11 with fail
  refine region_split 2 ?_
  simp only [List.take_succ_cons, List.take_zero, List.drop_succ_cons, List.drop_zero]
  have HCa := Lib.hid (frbox_cells HX.out)
  go_wp2_with (first | (refine wpList_load_at rfl 38 _ rfl (g + 1 + 1) 0 (Fr.cells (exX g)) _ rfl HCa.out Tryz.underlying38 rfl fr_size ?_; dsimp only [Fr.cells]) | fail)
  have hnf := new_frame wa (exX g)
  have hz : (wa.alloc zbox).heap[wa.heap.size]? = some zbox := heap_alloc_new wa zbox
  change wpList Tryz.prog _ _ _ _ (wa.alloc zbox)
  generalize wa.alloc zbox = W1 at hnf hz ⊢
  refine wpList_store_part rfl 38 _ _ rfl wa.heap.size 0 _ (Fr.cells (exX g)) rfl rfl rfl 38 (Fr.cells (stopFr 0 0)) hz fr_size (Nat.le_of_eq rfl) (fr_one _) ?_
  generalize World.setRow _ _ _ = wb at hnf ⊢
  have HY := Lib.hid hnf.1
  have hlt : g + 1 + 1 < wa.heap.size := (Array.getElem?_eq_some_iff.1 HX.out).1
  have hyw : w.heap.size ≤ wa.heap.size := HBa.out.size
  replace HX := Lib.hid (below_row hnf.2 HX.out)
  replace H1 := Lib.hid (below_row hnf.2 H1.out)
  replace H2 := Lib.hid (below_row hnf.2 H2.out)
  have HBb := Lib.hid (below_then HBa.out hnf.2)
  clear hnf hz HBa hsza HCa
  generalize wa.heap.size = y at HY hlt hyw ⊢
  go_upto_region 12 with fail
  refine region_split 1 ?_
  simp only [List.take_succ_cons, List.take_zero, List.drop_succ_cons, List.drop_zero]
  go_wp2_with fail
  have hst := set_y HY.out
  change wpList Tryz.prog _ _ _ _ wb
  refine wpList_store_part rfl 3 _ _ rfl y 1 _ [Value.int .i64 1] rfl rfl rfl 38 (Fr.cells (exX g)) HY.out (by kernel_rfl) (by show 1 + 1 ≤ 19; omega) (by intro u hu; rw [List.mem_singleton.1 hu]; rfl) ?_
  generalize World.setRow _ _ _ = wc at hst ⊢
  clear HY
  have HY := Lib.hid hst.1
  replace HX := Lib.hid (hst.2.row HX.out (fun e => by omega))
  replace H1 := Lib.hid (hst.2.row H1.out (fun e => by omega))
  replace H2 := Lib.hid (hst.2.row H2.out (fun e => by omega))
  have HBc := Lib.hid (HBb.out.trans (hst.2.below HBb.out.size (fun k hk e => by omega)))
  clear hst HBb
  go_upto_region 13 with fail
  refine region_split 2 ?_
  simp only [List.take_succ_cons, List.take_zero, List.drop_succ_cons, List.drop_zero]
  go_wp2_with fail
  have hnf := new_frame wc exZ
  have hz : (wc.alloc zbox).heap[wc.heap.size]? = some zbox := heap_alloc_new wc zbox
  change wpList Tryz.prog _ _ _ _ (wc.alloc zbox)
  generalize wc.alloc zbox = W1 at hnf hz ⊢
  refine wpList_store_part rfl 38 _ _ rfl wc.heap.size 0 _ (Fr.cells exZ) rfl rfl rfl 38 (Fr.cells (stopFr 0 0)) hz fr_size (Nat.le_of_eq rfl) (fr_one _) ?_
  generalize World.setRow _ _ _ = wd at hnf ⊢
  have HZ := Lib.hid hnf.1
  replace HX := Lib.hid (below_row hnf.2 HX.out)
  replace HY := Lib.hid (below_row hnf.2 HY.out)
  replace H1 := Lib.hid (below_row hnf.2 H1.out)
  replace H2 := Lib.hid (below_row hnf.2 H2.out)
  have HBd := Lib.hid (below_then HBc.out hnf.2)
  clear hnf hz HBc hlt hyw
  generalize wc.heap.size = z at HZ ⊢
  go_upto_region 14 with fail
  refine region_split 21 ?_
  simp only [List.take_succ_cons, List.take_zero, List.drop_succ_cons, List.drop_zero]
  have HCX := Lib.hid (later_cells (frbox_cells HX.out))
  have HCY := Lib.hid (later_cells (frbox_cells HY.out))
  have K1 := Lib.hid (fun x : Later wd => (ex_wrong g) ▸ wright_any (f := exY g) ((ex_y H1.out H2.out).later x.below))
  have K2 := Lib.hid (fun x : Later wd => lay_wrong (f := exY g) ((ex_y H1.out H2.out).later x.below) (ex_wrong g))
  have K3 := Lib.hid (fun x : Later wd => (ex_other g) ▸ wsame_any (a := exX g) (b := exY g) ((ex_x H1.out H2.out).later x.below) ((ex_y H1.out H2.out).later x.below))
  have K4 := Lib.hid (fun x : Later wd => (ex_same g) ▸ wsame_any (a := exX g) (b := exX g) ((ex_x H1.out H2.out).later x.below) ((ex_x H1.out H2.out).later x.below))
  haveI := later_some wd
  simp only [Act.put]
  refine wpList_later ?_
  (go_big_quiet_want; refine quiet_load 38 _ rfl y 0 (Fr.cells (exY g)) _ rfl HCY.out Tryz.underlying38 rfl fr_size ?_; go_big_quiet_on; simp only [Act.put, List.setIfInBounds_toArray, List.set_cons_succ, List.set_cons_zero])
  go_big_quiet_step (first | (go_at_call 10; exact calls_later (K1.out _)))
  go_big_quiet_step (first | fail)
  go_big_quiet_step (first | fail)
  (go_big_quiet_want; refine quiet_load 38 _ rfl y 0 (Fr.cells (exY g)) _ rfl HCY.out Tryz.underlying38 rfl fr_size ?_; go_big_quiet_on; simp only [Act.put, List.setIfInBounds_toArray, List.set_cons_succ, List.set_cons_zero])
  go_big_quiet_step (first | (go_at_call 15; exact calls_later (K2.out _)))
  go_big_quiet_step (first | fail)
  go_big_quiet_step (first | fail)
  go_big_quiet_step (first | fail)
  go_big_quiet_step (first | fail)
  (go_big_quiet_want; refine quiet_load 38 _ rfl (g + 1 + 1) 0 (Fr.cells (exX g)) _ rfl HCX.out Tryz.underlying38 rfl fr_size ?_; go_big_quiet_on; simp only [Act.put, List.setIfInBounds_toArray, List.set_cons_succ, List.set_cons_zero])
  (go_big_quiet_want; refine quiet_load 38 _ rfl y 0 (Fr.cells (exY g)) _ rfl HCY.out Tryz.underlying38 rfl fr_size ?_; go_big_quiet_on; simp only [Act.put, List.setIfInBounds_toArray, List.set_cons_succ, List.set_cons_zero])
  go_big_quiet_step (first | (go_at_call 12; exact calls_later (K3.out _)))
  go_big_quiet_step (first | fail)
  go_big_quiet_step (first | fail)
  go_big_quiet_step (first | fail)
  (go_big_quiet_want; refine quiet_load 38 _ rfl (g + 1 + 1) 0 (Fr.cells (exX g)) _ rfl HCX.out Tryz.underlying38 rfl fr_size ?_; go_big_quiet_on; simp only [Act.put, List.setIfInBounds_toArray, List.set_cons_succ, List.set_cons_zero])
  (go_big_quiet_want; refine quiet_load 38 _ rfl (g + 1 + 1) 0 (Fr.cells (exX g)) _ rfl HCX.out Tryz.underlying38 rfl fr_size ?_; go_big_quiet_on; simp only [Act.put, List.setIfInBounds_toArray, List.set_cons_succ, List.set_cons_zero])
  go_big_quiet_step (first | (go_at_call 12; exact calls_later (K4.out _)))
  go_big_quiet_step (first | fail)
  go_big_quiet_step (first | fail)
  refine wpQuiet_nil ?_
  rintro _ ⟨x, rfl⟩
  replace HZ := Lib.hid (below_row x.below HZ.out)
  have HBe := Lib.hid (below_then HBd.out x.below)
  clear K1 K2 K3 K4 HCX HCY HBd HX HY H1 H2
  generalize x.at_ = we at HZ HBe ⊢
  change wpList Tryz.prog _ _ _ _ we
  refine wpList_split_at 1 ?_
  simp only [List.take_succ_cons, List.take_zero, List.drop_succ_cons, List.drop_zero]
  have HCZ := Lib.hid (later_cells (frbox_cells HZ.out))
  haveI := later_some we
  refine wpList_later ?_
  (go_big_quiet_want; refine quiet_load 38 _ rfl z 0 (Fr.cells exZ) _ rfl HCZ.out Tryz.underlying38 rfl fr_size ?_; go_big_quiet_on; simp only [Act.put, List.setIfInBounds_toArray, List.set_cons_succ, List.set_cons_zero])
  refine wpQuiet_nil ?_
  rintro _ ⟨x', rfl⟩
  replace HZ := Lib.hid (below_row x'.below HZ.out)
  have HBf := Lib.hid (below_then HBe.out x'.below)
  clear HCZ HBe
  generalize x'.at_ = wf at HZ HBf ⊢
  change wpList Tryz.prog _ _ _ _ wf
  refine wpList_split_at 3 ?_
  simp only [List.take_succ_cons, List.take_zero, List.drop_succ_cons, List.drop_zero]
  go_wp2_with fail
  refine (lay_passed (f := exZ) ex_z rfl z_right).mono ?_
  rw [z_bytes]
  rintro e wg ⟨v, rfl, hO, hb⟩
  obtain ⟨Ag, cg, rfl, -⟩ := hO.reads
  have hrd := (ownb_rd hO).2
  have hs : tstr [7, 1, 2, 3] = ⟨#[7, 1, 2, 3]⟩ := by decide +kernel
  have hconv : (convert 23 9 (.slice Ag 4 cg)).run Tryz.prog wg = .ok (.string ⟨#[7, 1, 2, 3]⟩) wg := hs ▸ conv_bytes hrd
  replace HZ := Lib.hid (below_row hb HZ.out)
  have HBg := Lib.hid (below_then HBf.out hb)
  clear hO hrd hb hs HBf
  go_wp2_with fail
  change wpList Tryz.prog _ _ _ _ wg
  clear hconv
  have HCZ := Lib.hid (later_cells (frbox_cells HZ.out))
  have K5 := Lib.hid (fun x : Later wg => z_right ▸ wright_any (f := exZ) (ex_z (w := x.at_)))
  haveI := later_some wg
  refine wpList_split_at 5 ?_
  simp only [List.take_succ_cons, List.take_zero, List.drop_succ_cons, List.drop_zero]
  refine wpList_later ?_
  go_big_quiet_step (first | fail)
  go_big_quiet_step (first | fail)
  (go_big_quiet_want; refine quiet_load 38 _ rfl z 0 (Fr.cells exZ) _ rfl HCZ.out Tryz.underlying38 rfl fr_size ?_; go_big_quiet_on; simp only [Act.put, List.setIfInBounds_toArray, List.set_cons_succ, List.set_cons_zero])
  go_big_quiet_step (first | (go_at_call 10; exact calls_later (K5.out _)))
  go_big_quiet_step (first | fail)
  refine wpQuiet_nil ?_
  rintro _ ⟨x2, rfl⟩
  have HBh := Lib.hid (below_then HBg.out x2.below)
  clear K5 HCZ HBg HZ
  generalize x2.at_ = wh at HBh ⊢
  change wpList Tryz.prog _ _ _ _ wh
  go_wp2_with fail
  go_ret
  exact ⟨rfl, HBh.out⟩
end Go.Proofs.YtgenmebmdpnjhaaGreat
