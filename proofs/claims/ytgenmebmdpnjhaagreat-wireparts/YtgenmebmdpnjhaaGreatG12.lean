/- G12: WireLay4, WireLay5 in one text. -/
import Derived.Test.YtgenmebmdpnjhaaGreatG11
import Derived.Test.YtgenmebmdpnjhaaGreatG1c
import Derived.Test.YtgenmebmdpnjhaaGreatWireSame
namespace Go.Proofs.YtgenmebmdpnjhaaGreat
open Go.RowKit
set_option linter.unusedVariables false
set_option maxRecDepth 100000

/-- A test, a filter that can be laid. -/
structure PtLays (x : Pt) : Prop where
  name : x.p.name.size ≤ 100
  v : Lays x.p.v
  w : Lays x.p.w
  set : ∀ a, a ∈ x.p.set → Lays a
  few : x.p.set.length ≤ 10
structure FtLays (f : Ft) : Prop where
  each : ∀ x, x ∈ f.l → PtLays x
  few : f.l.length ≤ 10
def setb (l : List Val) : List Nat := natw l.length ++ l.flatMap valueb
def needsb (p : Prd) : List Nat := if p.t = 2 ∨ p.t = 3 ∨ p.t = 4 ∨ p.t = 5 ∨ p.t = 6 ∨ p.t = 7 ∨ p.t = 9 then valueb p.v else if p.t = 8 then valueb p.v ++ valueb p.w else if p.t = 10 then setb p.set else []
def predb (x : Pt) : List Nat := textb x.p.name ++ (natw x.p.t ++ needsb x.p)
def filterb (l : List Pt) : List Nat := natw l.length ++ l.flatMap predb
theorem flat_len_le {α : Type} (f : α → List Nat) {m : Nat} : ∀ (l : List α), (∀ a, a ∈ l → (f a).length ≤ m) → (l.flatMap f).length ≤ m * l.length
  | [], _ => by simp
  | a :: l, h => by
    rw [List.flatMap_cons, List.length_append, List.length_cons, Nat.mul_succ]
    have h1 := h a (List.mem_cons_self ..)
    have h2 := flat_len_le f l (fun b hb => h b (List.mem_cons_of_mem _ hb))
    omega
theorem setb_len {l : List Val} (h : ∀ a, a ∈ l → Lays a) (hf : l.length ≤ 10) : (setb l).length ≤ 1210 := by
  unfold setb
  rw [List.length_append]
  have h1 := natw_len (l.length : Int)
  have h2 := flat_len_le valueb (m := 120) l (fun a ha => valueb_len (h a ha))
  omega
theorem needsb_len {x : Pt} (h : PtLays x) : (needsb x.p).length ≤ 1210 := by
  have h1 := valueb_len h.v
  have h2 := valueb_len h.w
  have h3 := setb_len h.set h.few
  unfold needsb
  split
  · omega
  · split
    · rw [List.length_append]; omega
    · split
      · exact h3
      · simp
theorem predb_len {x : Pt} (h : PtLays x) : (predb x).length ≤ 1330 := by
  unfold predb
  rw [List.length_append, List.length_append]
  have h1 := textb_len h.name
  have h2 := natw_len x.p.t
  have h3 := needsb_len h
  omega
theorem filterb_len {f : Ft} (h : FtLays f) : (filterb f.l).length ≤ 13310 := by
  unfold filterb
  rw [List.length_append]
  have h1 := natw_len (f.l.length : Int)
  have h2 := flat_len_le predb (m := 1330) f.l (fun x hx => predb_len (h.each x hx))
  have := h.few
  omega
theorem Vs.run {w wr : World} {A : Option Addr} {n : Nat} {l : List Val} (h : Vs w A n l) (hb : Below w.heap.size w wr) {k : Nat} (hk : k < l.length) :
    ∃ g o x, A = some ⟨g, o, none⟩ ∧ l[k]? = some x ∧ ∀ j u, x.cells[j]? = some u → wr.cell? ⟨g, o + k * 5 + j, none⟩ = some u := by
  obtain ⟨x, hx⟩ : ∃ x, l[k]? = some x := ⟨_, List.getElem?_eq_getElem hk⟩
  have hp : 0 < (vflat l).length := by rw [flat_len _ Val.cells_len]; omega
  rcases h.row.2 with h1 | ⟨g, o, rfl, hc⟩
  · rw [h1] at hp; simp at hp
  · refine ⟨g, o, x, rfl, hx, fun j u hj => ?_⟩
    have hlt : j < 5 := (List.getElem?_eq_some_iff.1 hj).1
    have h0 := hc (k * 5 + j) u (by rw [flat_get _ Val.cells_len l k j x hx hlt]; exact hj)
    rw [← Nat.add_assoc] at h0
    exact (hb.cell (cell_lt h0)).trans h0

set_option maxHeartbeats 16000000 in
theorem addset_any {B : Nat} {v : Value} {l : List Nat} {L : List Val} {A : Option Addr} {n c : Nat} {W0 w : World} (hB : W0.heap.size = B) (h : OwnB B w v l) (hL : Vs W0 A n L) (hs : ∀ a, a ∈ L → Lays a) (hfew : n ≤ 10) (hb : Below B W0 w) (hl : l.length ≤ 600000) :
    Calls Tryz.prog 155 #[v, .slice A n c] w (AddPost B (l ++ setb L) w) := by
  subst hB
  obtain rfl := hL.len.symm
  have HL := Lib.hid hL
  have HS := Lib.hid hs
  have HB := Lib.hid hb
  have HO := Lib.hid h
  clear h hL hs hb
  have hst := store_float
  have HEV : Hid (setb L = natw L.length ++ L.flatMap valueb) := Lib.hid rfl
  have hn1 := natw_len (L.length : Int)
  go_enter Tryz.func155, Tryz.ntmps155
  go_wp2_with fail
  refine (addnats_new [(L.length : Int)] HO.out (by show l.length + 9 * 1 ≤ 900000; omega) 1 rfl _ rfl).mono ?_
  rintro r w3 ⟨v3, rfl, hO, hK⟩
  rw [natw_one] at hO
  generalize natw (L.length : Int) = na at hO HEV hn1
  have HO3 := Lib.hid hO
  have HK3 := Lib.hid hK
  have HB3 := Lib.hid (HB.out.trans hK.below)
  clear hO hK HO HB
  have hlen3 : (l ++ na).length ≤ 600009 := by rw [List.length_append]; omega
  generalize hq3 : l ++ na = l3 at HO3 hlen3
  have HL3 := Lib.hid hq3
  clear hq3
  go_wp2_with fail
  go_loopw [0, 14] (fun vv ii wr => ∃ k : Nat, k ≤ L.length ∧ ii = .int .i64 (k : Int) ∧ OwnB W0.heap.size wr vv (l3 ++ (L.take k).flatMap valueb) ∧ Keep W0.heap.size w3 wr ∧ (l3 ++ (L.take k).flatMap valueb).length ≤ 600009 + 120 * k) (fun _ ii _ => L.length - (intOf ii).toNat)
  case atStart => exact ⟨0, by omega, rfl, by simpa using HO3.out, Keep.refl _ _, by simpa using hlen3⟩
  case round =>
    obtain ⟨k, hk, rfl, hO, hK, hLe⟩ := hrel
    have HO4 := Lib.hid hO
    have HK4 := Lib.hid hK
    have HL4 := Lib.hid hLe
    clear hO hK hLe
    by_cases hlt : k < L.length
    · obtain ⟨ga, oa, a, hA, ha, hc⟩ := HL.out.run (HB3.out.trans HK4.out.below) hlt
      have hsm := HS.out a (List.mem_of_getElem? ha)
      have HN := Lib.hid (flat_next (f := valueb) ha)
      have hal := valueb_len hsm
      have HG := Lib.hid hc
      have HSM := Lib.hid hsm
      clear ha hc hsm
      generalize hq4 : l3 ++ (L.take k).flatMap valueb = l4 at HO4 HL4
      have HL5 := Lib.hid hq4
      have hl4 := HL4.out
      clear hq4
      rw [hA]
      go_upto_region 5 with (first | (refine wpList_load_at rfl 64 _ rfl ga (oa + k * 5) a.cells _ rfl HG.out Tryz.underlying64 rfl val_size ?_; dsimp only [Val.cells]))
      have hn2 := one_new wr (vbox a)
      have HN2 := Lib.hid (heap_alloc_new wr (vbox a))
      have HO5 := Lib.hid (HO4.out.later hn2)
      have HK5 := Lib.hid (HK4.out.then (Keep.later HO4.out.2 hn2))
      clear hn2 HO4 HK4 HG
      dsimp only [vbox] at HN2 HO5 HK5
      generalize wr.alloc _ = w4 at HN2 HO5 HK5 ⊢
      generalize wr.heap.size = gb at HN2 ⊢
      have HV := Lib.hid (cells_row (cs := a.cells) HN2.out)
      go_wp2_with (first | (refine wpList_load_at rfl 64 _ rfl gb 0 a.cells _ rfl HV.out Tryz.underlying64 rfl val_size ?_; dsimp only [Val.cells]) | fail)
      refine (addvalue_any (a := a) HO5.out HSM.out (by omega)).mono ?_
      rintro r w6 ⟨v6, rfl, hO, hK⟩
      have HO7 := Lib.hid hO
      have HK7 := Lib.hid (HK5.out.then hK)
      clear hO hK HO5 HK5 HN2 HV
      have HF : Hid (l4 ++ valueb a = l3 ++ (L.take (k + 1)).flatMap valueb) := Lib.hid (by rw [HN.out, ← List.append_assoc, HL5.out])
      go_wp2_with fail
      refine ⟨⟨k + 1, by omega, rfl, by rw [← HF.out]; exact HO7.out, HK7.out, ?_⟩, by simp [intOf]; omega⟩
      rw [HN.out, ← List.append_assoc, HL5.out, List.length_append]
      omega
    · obtain rfl : k = L.length := by omega
      have hO := HO4.out
      rw [List.take_length] at hO
      have HO5 := Lib.hid hO
      have HK5 := Lib.hid (HK3.out.then HK4.out)
      have HF : Hid (l ++ setb L = l3 ++ L.flatMap valueb) := Lib.hid (by rw [HEV.out, ← List.append_assoc, HL3.out])
      clear hO HO4
      go_wp2_with fail
      go_ret
      exact ⟨_, rfl, by rw [HF.out]; exact HO5.out, HK5.out⟩
theorem pt_v (x : Pt) : ∀ j u, x.p.v.cells[j]? = some u → x.cells[2 + j]? = some u := by
  intro j u hj
  match j, hj with
  | 0, hj | 1, hj | 2, hj | 3, hj | 4, hj => exact hj
theorem pt_w (x : Pt) : ∀ j u, x.p.w.cells[j]? = some u → x.cells[7 + j]? = some u := by
  intro j u hj
  match j, hj with
  | 0, hj | 1, hj | 2, hj | 3, hj | 4, hj => exact hj
abbrev ptbox (x : Pt) : Obj := pbox x.p x.A x.p.set.length x.c
theorem pt_row {w : World} {g : Nat} {x : Pt} (h : w.heap[g]? = some (ptbox x)) : ∀ j u, x.cells[j]? = some u → w.cell? ⟨g, 0 + j, none⟩ = some u := cells_row (cs := x.cells) h

set_option maxHeartbeats 16000000 in
theorem addneeds_any {B : Nat} {v : Value} {l : List Nat} {x : Pt} {W0 w : World} (hB : W0.heap.size = B) (h : OwnB B w v l) (hx : IsPt W0 x) (hs : PtLays x) (hb : Below B W0 w) (hl : l.length ≤ 500000) :
    Calls Tryz.prog 138 #[v, pv x.p x.A x.p.set.length x.c] w (AddPost B (l ++ needsb x.p) w) := by
  subst hB
  have hn := one_new w (ptbox x)
  have HR := Lib.hid (heap_alloc_new w (ptbox x))
  have HO := Lib.hid (h.later hn)
  have HK0 := Lib.hid (Keep.later h.2 hn)
  have HB := Lib.hid (hb.trans (below_sub hn h.2))
  have HX := Lib.hid hx
  have HS := Lib.hid hs
  clear h hn hb hx hs
  have hst := store_float
  go_enter Tryz.func138, Tryz.ntmps138
  go_upto_region 1 with fail
  dsimp only [ptbox] at HR HO HK0 HB
  generalize w.alloc _ = w1 at HR HO HK0 HB ⊢
  generalize w.heap.size = g at HR ⊢
  have c1 := cell_of_row _ _ 1 _ _ _ HR.out
  have HV := Lib.hid (cells_part (pt_row HR.out) (Nat.zero_add 2) (pt_v x))
  by_cases ht : x.p.t = 2 ∨ x.p.t = 3 ∨ x.p.t = 4 ∨ x.p.t = 5 ∨ x.p.t = 6 ∨ x.p.t = 7 ∨ x.p.t = 9
  · have HW : Hid (needsb x.p = valueb x.p.v) := Lib.hid (if_pos ht)
    have HLv := Lib.hid HS.out.v
    generalize x.p.t = t at ht c1
    rcases ht with rfl | rfl | rfl | rfl | rfl | rfl | rfl
    all_goals
      go_wp2_with (first | (refine wpList_load_at rfl 64 _ rfl g 2 x.p.v.cells _ rfl HV.out Tryz.underlying64 rfl val_size ?_; dsimp only [Val.cells]) | fail)
      refine (addvalue_any (a := x.p.v) HO.out HLv.out (by omega)).mono ?_
      rintro r w3 ⟨v3, rfl, hO, hK⟩
      have HH := Lib.hid (And.intro hO (HK0.out.then hK))
      clear hO hK c1
      go_wp2_with fail
      go_ret
      exact ⟨_, rfl, by rw [HW.out]; exact HH.out.1, HH.out.2⟩
  by_cases h8 : x.p.t = 8
  · have HW : Hid (needsb x.p = valueb x.p.v ++ valueb x.p.w) := Lib.hid ((if_neg ht).trans (if_pos h8))
    generalize x.p.t = t at ht h8 c1
    subst h8
    clear ht
    have hvl := valueb_len HS.out.v
    go_upto_region 11 with fail
    refine held_begin (fun z => Keep W0.heap.size w1 z) (by kernel_rfl) ?_
    have HKn : Hid (Keep W0.heap.size w1 w1.drew) := Lib.hid (Keep.later HO.out.2 (drew_below w1))
    have HO2 := Lib.hid (HO.out.later (drew_below w1))
    generalize w1.drew = wd at HKn HO2 ⊢
    refine held_read (i := 0) (o := { dst := some 21, op := Op.move (Operand.tmp 0), type := 23, pos := "lay.go:115", after := #[], guard := none }) (v := ?_) rfl (by kernel_rfl) (by kernel_rfl) (by kernel_rfl) (fun _ _ _ h => h) (by rfl) (by first | exact HK4.out | exact HK3.out | exact HKn.out) ?_ ?_
    rotate_left
    · (intro x0 hx; have hrow := hx.obj _ _ _ _ HR.out (by decide); have e2 := cells_part (pt_row hrow) (Nat.zero_add 2) (pt_v x); have e7 := cells_part (pt_row hrow) (Nat.zero_add 7) (pt_w x); first | (refine load_run rfl rfl e2 Tryz.underlying64 rfl val_size ?_; rfl) | (refine load_run rfl rfl e7 Tryz.underlying64 rfl val_size ?_; rfl) | (go_simp; try with_reducible rfl))
    try simp only [Act.put, List.setIfInBounds_toArray, List.set_cons_zero, List.set_cons_succ]
    refine held_read (i := 1) (o := { dst := some 22, op := Op.fieldAddr 98 (Operand.tmp 3) 2, type := 0, pos := "lay.go:115", after := #[], guard := none }) (v := ?_) rfl (by kernel_rfl) (by kernel_rfl) (by kernel_rfl) (fun _ _ _ h => h) (by rfl) (by first | exact HK4.out | exact HK3.out | exact HKn.out) ?_ ?_
    rotate_left
    · (intro x0 hx; have hrow := hx.obj _ _ _ _ HR.out (by decide); have e2 := cells_part (pt_row hrow) (Nat.zero_add 2) (pt_v x); have e7 := cells_part (pt_row hrow) (Nat.zero_add 7) (pt_w x); first | (refine load_run rfl rfl e2 Tryz.underlying64 rfl val_size ?_; rfl) | (refine load_run rfl rfl e7 Tryz.underlying64 rfl val_size ?_; rfl) | (go_simp; try with_reducible rfl))
    try simp only [Act.put, List.setIfInBounds_toArray, List.set_cons_zero, List.set_cons_succ]
    refine held_read (i := 2) (o := { dst := some 23, op := Op.load 64 (Operand.tmp 22), type := 64, pos := "lay.go:115", after := #[{ on := 1, ground := Ground.data }], guard := none }) (v := ?_) rfl (by kernel_rfl) (by kernel_rfl) (by kernel_rfl) (fun _ _ _ h => h) (by rfl) (by first | exact HK4.out | exact HK3.out | exact HKn.out) ?_ ?_
    rotate_left
    · (intro x0 hx; have hrow := hx.obj _ _ _ _ HR.out (by decide); have e2 := cells_part (pt_row hrow) (Nat.zero_add 2) (pt_v x); have e7 := cells_part (pt_row hrow) (Nat.zero_add 7) (pt_w x); first | (refine load_run rfl rfl e2 Tryz.underlying64 rfl val_size ?_; rfl) | (refine load_run rfl rfl e7 Tryz.underlying64 rfl val_size ?_; rfl) | (go_simp; try with_reducible rfl))
    try simp only [Act.put, List.setIfInBounds_toArray, List.set_cons_zero, List.set_cons_succ]
    refine held_read (i := 4) (o := { dst := some 25, op := Op.fieldAddr 98 (Operand.tmp 3) 3, type := 0, pos := "lay.go:115", after := #[], guard := none }) (v := ?_) rfl (by kernel_rfl) (by kernel_rfl) (by kernel_rfl) (fun _ _ _ h => h) (by rfl) (by first | exact HK4.out | exact HK3.out | exact HKn.out) ?_ ?_
    rotate_left
    · (intro x0 hx; have hrow := hx.obj _ _ _ _ HR.out (by decide); have e2 := cells_part (pt_row hrow) (Nat.zero_add 2) (pt_v x); have e7 := cells_part (pt_row hrow) (Nat.zero_add 7) (pt_w x); first | (refine load_run rfl rfl e2 Tryz.underlying64 rfl val_size ?_; rfl) | (refine load_run rfl rfl e7 Tryz.underlying64 rfl val_size ?_; rfl) | (go_simp; try with_reducible rfl))
    try simp only [Act.put, List.setIfInBounds_toArray, List.set_cons_zero, List.set_cons_succ]
    refine held_read (i := 5) (o := { dst := some 26, op := Op.load 64 (Operand.tmp 25), type := 64, pos := "lay.go:115", after := #[{ on := 4, ground := Ground.data }], guard := none }) (v := ?_) rfl (by kernel_rfl) (by kernel_rfl) (by kernel_rfl) (fun _ _ _ h => h) (by rfl) (by first | exact HK4.out | exact HK3.out | exact HKn.out) ?_ ?_
    rotate_left
    · (intro x0 hx; have hrow := hx.obj _ _ _ _ HR.out (by decide); have e2 := cells_part (pt_row hrow) (Nat.zero_add 2) (pt_v x); have e7 := cells_part (pt_row hrow) (Nat.zero_add 7) (pt_w x); first | (refine load_run rfl rfl e2 Tryz.underlying64 rfl val_size ?_; rfl) | (refine load_run rfl rfl e7 Tryz.underlying64 rfl val_size ?_; rfl) | (go_simp; try with_reducible rfl))
    try simp only [Act.put, List.setIfInBounds_toArray, List.set_cons_zero, List.set_cons_succ]
    refine held_call (i := 3) (o := { dst := some 24, op := Op.call { callee := Callee.value (Operand.func 85), args := #[Operand.tmp 21, Operand.tmp 23], argTypes := #[23, 64] }, type := 23, pos := "lay.go:115", after := #[{ on := 0, ground := Ground.data }, { on := 2, ground := Ground.data }], guard := none }) rfl (by kernel_rfl) (by rfl) (fun K hK => ?_)
    go_simp
    refine (addvalue_any (a := x.p.v) HO2.out HS.out.v (by omega)).mono ?_
    rintro r w3 ⟨v3, rfl, hO, hK3⟩
    have HO3 := Lib.hid hO
    have HK3 := Lib.hid (HKn.out.then hK3)
    refine hK.out _ _ HK3.out ?_
    clear hK K hO hK3
    try simp only [Act.put, List.setIfInBounds_toArray, List.set_cons_zero, List.set_cons_succ]
    refine held_call (i := 6) (o := { dst := some 27, op := Op.call { callee := Callee.value (Operand.func 85), args := #[Operand.tmp 24, Operand.tmp 26], argTypes := #[23, 64] }, type := 23, pos := "lay.go:115", after := #[{ on := 3, ground := Ground.data }, { on := 5, ground := Ground.data }, { on := 3, ground := Ground.chain }], guard := none }) rfl (by kernel_rfl) (by rfl) (fun K hK => ?_)
    go_simp
    refine (addvalue_any (a := x.p.w) HO3.out HS.out.w (by rw [List.length_append]; omega)).mono ?_
    rintro r w4 ⟨v4, rfl, hO, hK4⟩
    have HO4 := Lib.hid hO
    have HK4 := Lib.hid (HK3.out.then hK4)
    refine hK.out _ _ HK4.out ?_
    clear hK K hO hK4
    try simp only [Act.put, List.setIfInBounds_toArray, List.set_cons_zero, List.set_cons_succ]
    refine held_read (i := 7) (o := { dst := some 4, op := Op.assign (Operand.tmp 27), type := 23, pos := "lay.go:115", after := #[{ on := 6, ground := Ground.data }, { on := 6, ground := Ground.chain }, { on := 0, ground := Ground.phase }, { on := 1, ground := Ground.phase }, { on := 2, ground := Ground.phase }, { on := 3, ground := Ground.phase }, { on := 4, ground := Ground.phase }, { on := 5, ground := Ground.phase }, { on := 6, ground := Ground.phase }], guard := none }) (v := ?_) rfl (by kernel_rfl) (by kernel_rfl) (by kernel_rfl) (fun _ _ _ h => h) (by rfl) (by first | exact HK4.out | exact HK3.out | exact HKn.out) ?_ ?_
    rotate_left
    · (intro x0 hx; have hrow := hx.obj _ _ _ _ HR.out (by decide); have e2 := cells_part (pt_row hrow) (Nat.zero_add 2) (pt_v x); have e7 := cells_part (pt_row hrow) (Nat.zero_add 7) (pt_w x); first | (refine load_run rfl rfl e2 Tryz.underlying64 rfl val_size ?_; rfl) | (refine load_run rfl rfl e7 Tryz.underlying64 rfl val_size ?_; rfl) | (go_simp; try with_reducible rfl))
    try simp only [Act.put, List.setIfInBounds_toArray, List.set_cons_zero, List.set_cons_succ]
    refine wpAnyH_done (by kernel_rfl) ?_ _
    go_wp2_with fail
    go_ret
    exact ⟨_, rfl, by rw [HW.out, ← List.append_assoc]; exact HO4.out, HK0.out.then HK4.out⟩
  by_cases h10 : x.p.t = 10
  · have HW : Hid (needsb x.p = setb x.p.set) := Lib.hid ((if_neg ht).trans ((if_neg h8).trans (if_pos h10)))
    have c12 := cell_of_row _ _ 12 _ _ _ HR.out
    generalize x.p.t = t at ht h8 h10 c1
    subst h10
    clear ht h8
    go_wp2_with fail
    refine (addset_any (W0 := W0) rfl HO.out HX.out.is.set HS.out.set HS.out.few HB.out (by omega)).mono ?_
    rintro r w3 ⟨v3, rfl, hO, hK⟩
    have HH := Lib.hid (And.intro hO (HK0.out.then hK))
    clear hO hK c1 c12
    go_wp2_with fail
    go_ret
    exact ⟨_, rfl, by rw [HW.out]; exact HH.out.1, HH.out.2⟩
  have HW : Hid (needsb x.p = []) := Lib.hid ((if_neg ht).trans ((if_neg h8).trans (if_neg h10)))
  generalize x.p.t = t at ht h8 h10 c1
  have t2 : ¬ t = 2 := fun e => ht (.inl e)
  have t3 : ¬ t = 3 := fun e => ht (.inr (.inl e))
  have t4 : ¬ t = 4 := fun e => ht (.inr (.inr (.inl e)))
  have t5 : ¬ t = 5 := fun e => ht (.inr (.inr (.inr (.inl e))))
  have t6 : ¬ t = 6 := fun e => ht (.inr (.inr (.inr (.inr (.inl e)))))
  have t7 : ¬ t = 7 := fun e => ht (.inr (.inr (.inr (.inr (.inr (.inl e))))))
  have t9 : ¬ t = 9 := fun e => ht (.inr (.inr (.inr (.inr (.inr (.inr e))))))
  clear ht
  go_wp2_with fail
  go_ret
  exact ⟨_, rfl, by rw [HW.out, List.append_nil]; exact HO.out, HK0.out⟩

set_option maxHeartbeats 16000000 in
theorem addfilter_any {B : Nat} {v : Value} {l : List Nat} {f : Ft} {W0 w : World} (hB : W0.heap.size = B) (h : OwnB B w v l) (hf : IsFt W0 f) (hs : FtLays f) (hb : Below B W0 w) (hl : l.length ≤ 480000) :
    Calls Tryz.prog 114 #[v, .slice f.A f.l.length f.c] w (AddPost B (l ++ filterb f.l) w) := by
  subst hB
  have HF := Lib.hid hf
  have HS := Lib.hid hs
  have HB := Lib.hid hb
  have HO := Lib.hid h
  have hfew := hs.few
  have hpn := hf.ps.few
  clear h hf hs hb
  have hst := store_float
  have HEV : Hid (filterb f.l = natw f.l.length ++ f.l.flatMap predb) := Lib.hid rfl
  have hn1 := natw_len (f.l.length : Int)
  go_enter Tryz.func114, Tryz.ntmps114
  go_wp2_with fail
  refine (addnats_new [(f.l.length : Int)] HO.out (by show l.length + 9 * 1 ≤ 900000; omega) 1 rfl _ rfl).mono ?_
  rintro r w3 ⟨v3, rfl, hO, hK⟩
  rw [natw_one] at hO
  generalize natw (f.l.length : Int) = na at hO HEV hn1
  have HO3 := Lib.hid hO
  have HK3 := Lib.hid hK
  have HB3 := Lib.hid (HB.out.trans hK.below)
  clear hO hK HO HB
  have hlen3 : (l ++ na).length ≤ 480009 := by rw [List.length_append]; omega
  generalize hq3 : l ++ na = l3 at HO3 hlen3
  have HL3 := Lib.hid hq3
  clear hq3
  go_wp2_with fail
  go_loopw [0, 14] (fun vv ii wr => ∃ k : Nat, k ≤ f.l.length ∧ ii = .int .i64 (k : Int) ∧ OwnB W0.heap.size wr vv (l3 ++ (f.l.take k).flatMap predb) ∧ Keep W0.heap.size w3 wr ∧ (l3 ++ (f.l.take k).flatMap predb).length ≤ 480009 + 1330 * k) (fun _ ii _ => f.l.length - (intOf ii).toNat)
  case atStart => exact ⟨0, by omega, rfl, by simpa using HO3.out, Keep.refl _ _, by simpa using hlen3⟩
  case round =>
    obtain ⟨k, hk, rfl, hO, hK, hLe⟩ := hrel
    have HO4 := Lib.hid hO
    have HK4 := Lib.hid hK
    have HL4 := Lib.hid hLe
    clear hO hK hLe
    by_cases hlt : k < f.l.length
    · obtain ⟨ga, oa, a, hA, ha, hi, hc, -⟩ := HF.out.ps.cells (HB3.out.trans HK4.out.below) hlt
      have hsm := HS.out.each a (List.mem_of_getElem? ha)
      have HI := Lib.hid (HF.out.ps.each a (List.mem_of_getElem? ha))
      have HN := Lib.hid (flat_next (f := predb) ha)
      have hal := predb_len hsm
      have HG := Lib.hid hc
      have HSM := Lib.hid hsm
      clear ha hc hsm hi
      generalize hq4 : l3 ++ (f.l.take k).flatMap predb = l4 at HO4 HL4
      have HL5 := Lib.hid hq4
      have hl4 := HL4.out
      clear hq4
      rw [hA]
      go_upto_region 5 with (first | (refine wpList_load_at rfl 98 _ rfl ga (oa + k * 13) a.cells _ rfl HG.out Tryz.underlying98 rfl prd_size ?_; dsimp only [Pt.cells]))
      have hn2 := one_new wr (ptbox a)
      have HN2 := Lib.hid (heap_alloc_new wr (ptbox a))
      have HO5 := Lib.hid (HO4.out.later hn2)
      have HK5 := Lib.hid (HK4.out.then (Keep.later HO4.out.2 hn2))
      clear hn2 HO4 HK4 HG
      dsimp only [ptbox] at HN2 HO5 HK5
      generalize wr.alloc _ = w4 at HN2 HO5 HK5 ⊢
      generalize wr.heap.size = gb at HN2 ⊢
      have q0 := cell_of_row _ _ 0 _ _ _ HN2.out
      go_wp2_with fail
      refine (addtext_any HO5.out HSM.out.name (by omega)).mono ?_
      rintro r w5 ⟨v5, rfl, hO, hK⟩
      have HO6 := Lib.hid hO
      have HN3 := Lib.hid (hK.obj _ _ _ _ HN2.out (by decide))
      have HK6 := Lib.hid (HK5.out.then hK)
      have htl := textb_len HSM.out.name
      have hl5 : (l4 ++ textb a.p.name).length ≤ 600000 := by rw [List.length_append]; omega
      clear hO hK q0 HN2 HO5 HK5
      have q1 := cell_of_row _ _ 1 _ _ _ HN3.out
      go_wp2_with fail
      refine (addnats_new [a.p.t] HO6.out (by show (l4 ++ textb a.p.name).length + 9 * 1 ≤ 900000; omega) 1 rfl _ rfl).mono ?_
      rintro r w6 ⟨v6, rfl, hO, hK⟩
      rw [natw_one] at hO
      have htn := natw_len a.p.t
      have HO7 := Lib.hid hO
      have HN4 := Lib.hid (hK.obj _ _ _ _ HN3.out (by decide))
      have HK7 := Lib.hid (HK6.out.then hK)
      have hl6 : ((l4 ++ textb a.p.name) ++ natw a.p.t).length ≤ 500000 := by rw [List.length_append, List.length_append]; omega
      clear hO hK q1 HN3 HO6 HK6
      have HV := Lib.hid (pt_row HN4.out)
      go_wp2_with (first | (refine wpList_load_at rfl 98 _ rfl gb 0 a.cells _ rfl HV.out Tryz.underlying98 rfl prd_size ?_; dsimp only [Pt.cells]) | fail)
      refine (addneeds_any (x := a) (W0 := W0) rfl HO7.out HI.out HSM.out (HB3.out.trans HK7.out.below) hl6).mono ?_
      rintro r w7 ⟨v7, rfl, hO, hK⟩
      have HO8 := Lib.hid hO
      have HK8 := Lib.hid (HK7.out.then hK)
      clear hO hK HO7 HK7 HN4 HV
      have HFi : Hid (((l4 ++ textb a.p.name) ++ natw a.p.t) ++ needsb a.p = l3 ++ (f.l.take (k + 1)).flatMap predb) := Lib.hid (by rw [HN.out, ← List.append_assoc, HL5.out, predb]; simp only [List.append_assoc])
      go_wp2_with fail
      refine ⟨⟨k + 1, by omega, rfl, by rw [← HFi.out]; exact HO8.out, HK8.out, ?_⟩, by simp [intOf]; omega⟩
      rw [HN.out, ← List.append_assoc, HL5.out, List.length_append]
      omega
    · obtain rfl : k = f.l.length := by omega
      have hO := HO4.out
      rw [List.take_length] at hO
      have HO5 := Lib.hid hO
      have HK5 := Lib.hid (HK3.out.then HK4.out)
      have HFi : Hid (l ++ filterb f.l = l3 ++ f.l.flatMap predb) := Lib.hid (by rw [HEV.out, ← List.append_assoc, HL3.out])
      clear hO HO4
      go_wp2_with fail
      go_ret
      exact ⟨_, rfl, by rw [HFi.out]; exact HO5.out, HK5.out⟩
end Go.Proofs.YtgenmebmdpnjhaaGreat

namespace Go.Proofs.YtgenmebmdpnjhaaGreat
open Go.RowKit
set_option linter.unusedVariables false
set_option maxRecDepth 100000

def subb (s : Sb) : List Nat := [s.c, s.b, s.n].flatMap natw ++ filterb s.f.l
def subsb (l : List Sb) : List Nat := natw l.length ++ l.flatMap subb
def changeb (g : Bool) (s : Sb) : List Nat := boolb g ++ subb s
theorem subb_len {s : Sb} (h : FtLays s.f) : (subb s).length ≤ 13337 := by
  unfold subb
  rw [List.length_append]
  have h1 : ([s.c, s.b, s.n].flatMap natw).length ≤ 27 := natws_len [s.c, s.b, s.n]
  have h2 := filterb_len h
  omega
theorem sb_row {w : World} {g : Nat} {s : Sb} (h : w.heap[g]? = some (sbbox s)) : ∀ j u, s.cells[j]? = some u → w.cell? ⟨g, 0 + j, none⟩ = some u := cells_row (cs := s.cells) h

set_option maxHeartbeats 16000000 in
theorem addsub_any {B : Nat} {v : Value} {l : List Nat} {s : Sb} {W0 w : World} (hB : W0.heap.size = B) (h : OwnB B w v l) (hf : IsFt W0 s.f) (hs : FtLays s.f) (hb : Below B W0 w) (hl : l.length ≤ 470000) :
    Calls Tryz.prog 82 #[v, sbv s] w (AddPost B (l ++ subb s) w) := by
  subst hB
  have hn := one_new w (sbbox s)
  have HR := Lib.hid (heap_alloc_new w (sbbox s))
  have HO := Lib.hid (h.later hn)
  have HK0 := Lib.hid (Keep.later h.2 hn)
  have HB := Lib.hid (hb.trans (below_sub hn h.2))
  have HX := Lib.hid hf
  have HS := Lib.hid hs
  clear h hn hb hf hs
  go_enter Tryz.func82, Tryz.ntmps82
  go_upto_region 1 with fail
  dsimp only [sbbox] at HR HO HK0 HB
  generalize w.alloc _ = w1 at HR HO HK0 HB ⊢
  generalize w.heap.size = g at HR ⊢
  have h3l : ([s.c, s.b, s.n].flatMap natw).length ≤ 27 := natws_len [s.c, s.b, s.n]
  refine held_begin (fun z => Keep W0.heap.size w1 z) (by kernel_rfl) ?_
  have HKn : Hid (Keep W0.heap.size w1 w1.drew) := Lib.hid (Keep.later HO.out.2 (drew_below w1))
  have HO2 := Lib.hid (HO.out.later (drew_below w1))
  generalize w1.drew = wd at HKn HO2 ⊢
  refine held_read (i := 0) (o := { dst := some 5, op := Op.move (Operand.tmp 0), type := 23, pos := "lay.go:96", after := #[], guard := none }) (v := ?_) rfl (by kernel_rfl) (by kernel_rfl) (by kernel_rfl) (fun _ _ _ h => h) (by rfl) (by first | exact HK4.out | exact HK3.out | exact HKn.out) ?_ ?_
  rotate_left
  · (intro x hx; have hrow := hx.obj _ _ _ _ HR.out (by decide); have r0 := sb_row hrow 0 _ rfl; have r1 := sb_row hrow 1 _ rfl; have r2 := sb_row hrow 2 _ rfl; have r3 := sb_row hrow 3 _ rfl; simp only [Nat.zero_add] at r0 r1 r2 r3; go_simp; try with_reducible rfl)
  try simp only [Act.put, List.setIfInBounds_toArray, List.set_cons_zero, List.set_cons_succ]
  refine held_read (i := 1) (o := { dst := some 6, op := Op.fieldAddr 33 (Operand.tmp 3) 0, type := 0, pos := "lay.go:96", after := #[], guard := none }) (v := ?_) rfl (by kernel_rfl) (by kernel_rfl) (by kernel_rfl) (fun _ _ _ h => h) (by rfl) (by first | exact HK4.out | exact HK3.out | exact HKn.out) ?_ ?_
  rotate_left
  · (intro x hx; have hrow := hx.obj _ _ _ _ HR.out (by decide); have r0 := sb_row hrow 0 _ rfl; have r1 := sb_row hrow 1 _ rfl; have r2 := sb_row hrow 2 _ rfl; have r3 := sb_row hrow 3 _ rfl; simp only [Nat.zero_add] at r0 r1 r2 r3; go_simp; try with_reducible rfl)
  try simp only [Act.put, List.setIfInBounds_toArray, List.set_cons_zero, List.set_cons_succ]
  refine held_read (i := 2) (o := { dst := some 7, op := Op.load 3 (Operand.tmp 6), type := 3, pos := "lay.go:96", after := #[{ on := 1, ground := Ground.data }], guard := none }) (v := ?_) rfl (by kernel_rfl) (by kernel_rfl) (by kernel_rfl) (fun _ _ _ h => h) (by rfl) (by first | exact HK4.out | exact HK3.out | exact HKn.out) ?_ ?_
  rotate_left
  · (intro x hx; have hrow := hx.obj _ _ _ _ HR.out (by decide); have r0 := sb_row hrow 0 _ rfl; have r1 := sb_row hrow 1 _ rfl; have r2 := sb_row hrow 2 _ rfl; have r3 := sb_row hrow 3 _ rfl; simp only [Nat.zero_add] at r0 r1 r2 r3; go_simp; try with_reducible rfl)
  try simp only [Act.put, List.setIfInBounds_toArray, List.set_cons_zero, List.set_cons_succ]
  refine held_read (i := 3) (o := { dst := some 8, op := Op.fieldAddr 33 (Operand.tmp 3) 1, type := 0, pos := "lay.go:96", after := #[], guard := none }) (v := ?_) rfl (by kernel_rfl) (by kernel_rfl) (by kernel_rfl) (fun _ _ _ h => h) (by rfl) (by first | exact HK4.out | exact HK3.out | exact HKn.out) ?_ ?_
  rotate_left
  · (intro x hx; have hrow := hx.obj _ _ _ _ HR.out (by decide); have r0 := sb_row hrow 0 _ rfl; have r1 := sb_row hrow 1 _ rfl; have r2 := sb_row hrow 2 _ rfl; have r3 := sb_row hrow 3 _ rfl; simp only [Nat.zero_add] at r0 r1 r2 r3; go_simp; try with_reducible rfl)
  try simp only [Act.put, List.setIfInBounds_toArray, List.set_cons_zero, List.set_cons_succ]
  refine held_read (i := 4) (o := { dst := some 9, op := Op.load 3 (Operand.tmp 8), type := 3, pos := "lay.go:96", after := #[{ on := 3, ground := Ground.data }], guard := none }) (v := ?_) rfl (by kernel_rfl) (by kernel_rfl) (by kernel_rfl) (fun _ _ _ h => h) (by rfl) (by first | exact HK4.out | exact HK3.out | exact HKn.out) ?_ ?_
  rotate_left
  · (intro x hx; have hrow := hx.obj _ _ _ _ HR.out (by decide); have r0 := sb_row hrow 0 _ rfl; have r1 := sb_row hrow 1 _ rfl; have r2 := sb_row hrow 2 _ rfl; have r3 := sb_row hrow 3 _ rfl; simp only [Nat.zero_add] at r0 r1 r2 r3; go_simp; try with_reducible rfl)
  try simp only [Act.put, List.setIfInBounds_toArray, List.set_cons_zero, List.set_cons_succ]
  refine held_read (i := 5) (o := { dst := some 10, op := Op.fieldAddr 33 (Operand.tmp 3) 2, type := 0, pos := "lay.go:96", after := #[], guard := none }) (v := ?_) rfl (by kernel_rfl) (by kernel_rfl) (by kernel_rfl) (fun _ _ _ h => h) (by rfl) (by first | exact HK4.out | exact HK3.out | exact HKn.out) ?_ ?_
  rotate_left
  · (intro x hx; have hrow := hx.obj _ _ _ _ HR.out (by decide); have r0 := sb_row hrow 0 _ rfl; have r1 := sb_row hrow 1 _ rfl; have r2 := sb_row hrow 2 _ rfl; have r3 := sb_row hrow 3 _ rfl; simp only [Nat.zero_add] at r0 r1 r2 r3; go_simp; try with_reducible rfl)
  try simp only [Act.put, List.setIfInBounds_toArray, List.set_cons_zero, List.set_cons_succ]
  refine held_read (i := 6) (o := { dst := some 11, op := Op.load 3 (Operand.tmp 10), type := 3, pos := "lay.go:96", after := #[{ on := 5, ground := Ground.data }], guard := none }) (v := ?_) rfl (by kernel_rfl) (by kernel_rfl) (by kernel_rfl) (fun _ _ _ h => h) (by rfl) (by first | exact HK4.out | exact HK3.out | exact HKn.out) ?_ ?_
  rotate_left
  · (intro x hx; have hrow := hx.obj _ _ _ _ HR.out (by decide); have r0 := sb_row hrow 0 _ rfl; have r1 := sb_row hrow 1 _ rfl; have r2 := sb_row hrow 2 _ rfl; have r3 := sb_row hrow 3 _ rfl; simp only [Nat.zero_add] at r0 r1 r2 r3; go_simp; try with_reducible rfl)
  try simp only [Act.put, List.setIfInBounds_toArray, List.set_cons_zero, List.set_cons_succ]
  refine held_read (i := 9) (o := { dst := some 14, op := Op.fieldAddr 33 (Operand.tmp 3) 3, type := 0, pos := "lay.go:96", after := #[], guard := none }) (v := ?_) rfl (by kernel_rfl) (by kernel_rfl) (by kernel_rfl) (fun _ _ _ h => h) (by rfl) (by first | exact HK4.out | exact HK3.out | exact HKn.out) ?_ ?_
  rotate_left
  · (intro x hx; have hrow := hx.obj _ _ _ _ HR.out (by decide); have r0 := sb_row hrow 0 _ rfl; have r1 := sb_row hrow 1 _ rfl; have r2 := sb_row hrow 2 _ rfl; have r3 := sb_row hrow 3 _ rfl; simp only [Nat.zero_add] at r0 r1 r2 r3; go_simp; try with_reducible rfl)
  try simp only [Act.put, List.setIfInBounds_toArray, List.set_cons_zero, List.set_cons_succ]
  refine held_read (i := 10) (o := { dst := some 15, op := Op.load 31 (Operand.tmp 14), type := 31, pos := "lay.go:96", after := #[{ on := 9, ground := Ground.data }], guard := none }) (v := ?_) rfl (by kernel_rfl) (by kernel_rfl) (by kernel_rfl) (fun _ _ _ h => h) (by rfl) (by first | exact HK4.out | exact HK3.out | exact HKn.out) ?_ ?_
  rotate_left
  · (intro x hx; have hrow := hx.obj _ _ _ _ HR.out (by decide); have r0 := sb_row hrow 0 _ rfl; have r1 := sb_row hrow 1 _ rfl; have r2 := sb_row hrow 2 _ rfl; have r3 := sb_row hrow 3 _ rfl; simp only [Nat.zero_add] at r0 r1 r2 r3; go_simp; try with_reducible rfl)
  try simp only [Act.put, List.setIfInBounds_toArray, List.set_cons_zero, List.set_cons_succ]
  refine held_call (i := 7) (o := { dst := some 12, op := Op.buildSlice 22 3 #[(0, Operand.tmp 7), (1, Operand.tmp 9), (2, Operand.tmp 11)], type := 22, pos := "lay.go:96", after := #[{ on := 2, ground := Ground.data }, { on := 4, ground := Ground.data }, { on := 6, ground := Ground.data }], guard := none }) rfl (by kernel_rfl) (by rfl) (fun K hK => ?_)
  go_simp
  refine hK.out _ _ (HKn.out.then (Keep.later HO2.out.2 (one_new wd (ibox [s.c, s.b, s.n])))) ?_
  clear hK K
  try simp only [Act.put, List.setIfInBounds_toArray, List.set_cons_zero, List.set_cons_succ]
  refine held_call (i := 8) (o := { dst := some 13, op := Op.call { callee := Callee.value (Operand.func 46), args := #[Operand.tmp 5, Operand.tmp 12], argTypes := #[23, 22] }, type := 23, pos := "lay.go:96", after := #[{ on := 0, ground := Ground.data }, { on := 7, ground := Ground.data }], guard := none }) rfl (by kernel_rfl) (by rfl) (fun K hK => ?_)
  go_simp
  refine (addnats_new (w := wd) [s.c, s.b, s.n] HO2.out (by show l.length + 9 * 3 ≤ 900000; omega) 3 rfl _ rfl).mono ?_
  rintro r w3 ⟨v3, rfl, hO, hK3⟩
  have HO3 := Lib.hid hO
  have HK3 := Lib.hid (HKn.out.then hK3)
  refine hK.out _ _ HK3.out ?_
  clear hK K hO hK3
  try simp only [Act.put, List.setIfInBounds_toArray, List.set_cons_zero, List.set_cons_succ]
  refine held_call (i := 11) (o := { dst := some 16, op := Op.call { callee := Callee.value (Operand.func 114), args := #[Operand.tmp 13, Operand.tmp 15], argTypes := #[23, 31] }, type := 23, pos := "lay.go:96", after := #[{ on := 8, ground := Ground.data }, { on := 10, ground := Ground.data }, { on := 8, ground := Ground.chain }], guard := none }) rfl (by kernel_rfl) (by rfl) (fun K hK => ?_)
  go_simp
  refine (addfilter_any (f := s.f) (W0 := W0) rfl HO3.out HX.out HS.out (HB.out.trans HK3.out.below) (by rw [List.length_append]; omega)).mono ?_
  rintro r w4 ⟨v4, rfl, hO, hK4⟩
  have HO4 := Lib.hid hO
  have HK4 := Lib.hid (HK3.out.then hK4)
  refine hK.out _ _ HK4.out ?_
  clear hK K hO hK4
  try simp only [Act.put, List.setIfInBounds_toArray, List.set_cons_zero, List.set_cons_succ]
  refine held_read (i := 12) (o := { dst := some 4, op := Op.assign (Operand.tmp 16), type := 23, pos := "lay.go:96", after := #[{ on := 11, ground := Ground.data }, { on := 11, ground := Ground.chain }, { on := 0, ground := Ground.phase }, { on := 1, ground := Ground.phase }, { on := 2, ground := Ground.phase }, { on := 3, ground := Ground.phase }, { on := 4, ground := Ground.phase }, { on := 5, ground := Ground.phase }, { on := 6, ground := Ground.phase }, { on := 7, ground := Ground.phase }, { on := 8, ground := Ground.phase }, { on := 9, ground := Ground.phase }, { on := 10, ground := Ground.phase }, { on := 11, ground := Ground.phase }], guard := none }) (v := ?_) rfl (by kernel_rfl) (by kernel_rfl) (by kernel_rfl) (fun _ _ _ h => h) (by rfl) (by first | exact HK4.out | exact HK3.out | exact HKn.out) ?_ ?_
  rotate_left
  · (intro x hx; have hrow := hx.obj _ _ _ _ HR.out (by decide); have r0 := sb_row hrow 0 _ rfl; have r1 := sb_row hrow 1 _ rfl; have r2 := sb_row hrow 2 _ rfl; have r3 := sb_row hrow 3 _ rfl; simp only [Nat.zero_add] at r0 r1 r2 r3; go_simp; try with_reducible rfl)
  try simp only [Act.put, List.setIfInBounds_toArray, List.set_cons_zero, List.set_cons_succ]
  refine wpAnyH_done (by kernel_rfl) ?_ _
  go_wp2_with fail
  go_ret
  exact ⟨_, rfl, by rw [subb, ← List.append_assoc]; exact HO4.out, HK0.out.then HK4.out⟩

set_option maxHeartbeats 16000000 in
theorem addsubs_any {B : Nat} {v : Value} {l : List Nat} {L : List Sb} {A : Option Addr} {n c : Nat} {W0 w : World} (hB : W0.heap.size = B) (h : OwnB B w v l) (hL : Sbs W0 A n L) (hs : ∀ s, s ∈ L → FtLays s.f) (hfew : n ≤ 30) (hb : Below B W0 w) (hl : l.length ≤ 1000) :
    Calls Tryz.prog 48 #[v, .slice A n c] w (AddPost B (l ++ subsb L) w) := by
  subst hB
  obtain rfl := hL.len.symm
  have HL := Lib.hid hL
  have HS := Lib.hid hs
  have HB := Lib.hid hb
  have HO := Lib.hid h
  clear h hL hs hb
  have HEV : Hid (subsb L = natw L.length ++ L.flatMap subb) := Lib.hid rfl
  have hn1 := natw_len (L.length : Int)
  go_enter Tryz.func48, Tryz.ntmps48
  go_wp2_with fail
  refine (addnats_new [(L.length : Int)] HO.out (by show l.length + 9 * 1 ≤ 900000; omega) 1 rfl _ rfl).mono ?_
  rintro r w3 ⟨v3, rfl, hO, hK⟩
  rw [natw_one] at hO
  generalize natw (L.length : Int) = na at hO HEV hn1
  have HO3 := Lib.hid hO
  have HK3 := Lib.hid hK
  have HB3 := Lib.hid (HB.out.trans hK.below)
  clear hO hK HO HB
  have hlen3 : (l ++ na).length ≤ 1009 := by rw [List.length_append]; omega
  generalize hq3 : l ++ na = l3 at HO3 hlen3
  have HL3 := Lib.hid hq3
  clear hq3
  go_wp2_with fail
  go_loopw [0, 14] (fun vv ii wr => ∃ k : Nat, k ≤ L.length ∧ ii = .int .i64 (k : Int) ∧ OwnB W0.heap.size wr vv (l3 ++ (L.take k).flatMap subb) ∧ Keep W0.heap.size w3 wr ∧ (l3 ++ (L.take k).flatMap subb).length ≤ 1009 + 13337 * k) (fun _ ii _ => L.length - (intOf ii).toNat)
  case atStart => exact ⟨0, by omega, rfl, by simpa using HO3.out, Keep.refl _ _, by simpa using hlen3⟩
  case round =>
    obtain ⟨k, hk, rfl, hO, hK, hLe⟩ := hrel
    have HO4 := Lib.hid hO
    have HK4 := Lib.hid hK
    have HL4 := Lib.hid hLe
    clear hO hK hLe
    by_cases hlt : k < L.length
    · obtain ⟨ga, oa, a, hA, ha, -, hc⟩ := HL.out.cells (HB3.out.trans HK4.out.below) hlt
      have hsm := HS.out a (List.mem_of_getElem? ha)
      have HI := Lib.hid (HL.out.each a (List.mem_of_getElem? ha))
      have HN := Lib.hid (flat_next (f := subb) ha)
      have hal := subb_len hsm
      have HG := Lib.hid hc
      have HSM := Lib.hid hsm
      clear ha hc hsm
      generalize hq4 : l3 ++ (L.take k).flatMap subb = l4 at HO4 HL4
      have HL5 := Lib.hid hq4
      have hl4 := HL4.out
      clear hq4
      rw [hA]
      go_upto_region 5 with (first | (refine wpList_load_at rfl 33 _ rfl ga (oa + k * 4) a.cells _ rfl HG.out Tryz.underlying33 rfl sb_size ?_; dsimp only [Sb.cells]))
      have hn2 := one_new wr (sbbox a)
      have HN2 := Lib.hid (heap_alloc_new wr (sbbox a))
      have HO5 := Lib.hid (HO4.out.later hn2)
      have HK5 := Lib.hid (HK4.out.then (Keep.later HO4.out.2 hn2))
      clear hn2 HO4 HK4 HG
      dsimp only [sbbox] at HN2 HO5 HK5
      generalize wr.alloc _ = w4 at HN2 HO5 HK5 ⊢
      generalize wr.heap.size = gb at HN2 ⊢
      have HV := Lib.hid (sb_row HN2.out)
      go_wp2_with (first | (refine wpList_load_at rfl 33 _ rfl gb 0 a.cells _ rfl HV.out Tryz.underlying33 rfl sb_size ?_; dsimp only [Sb.cells]) | fail)
      refine (addsub_any (s := a) (W0 := W0) rfl HO5.out HI.out HSM.out (HB3.out.trans HK5.out.below) (by omega)).mono ?_
      rintro r w6 ⟨v6, rfl, hO, hK⟩
      have HO7 := Lib.hid hO
      have HK7 := Lib.hid (HK5.out.then hK)
      clear hO hK HO5 HK5 HN2 HV
      have HF : Hid (l4 ++ subb a = l3 ++ (L.take (k + 1)).flatMap subb) := Lib.hid (by rw [HN.out, ← List.append_assoc, HL5.out])
      go_wp2_with fail
      refine ⟨⟨k + 1, by omega, rfl, by rw [← HF.out]; exact HO7.out, HK7.out, ?_⟩, by simp [intOf]; omega⟩
      rw [HN.out, ← List.append_assoc, HL5.out, List.length_append]
      omega
    · obtain rfl : k = L.length := by omega
      have hO := HO4.out
      rw [List.take_length] at hO
      have HO5 := Lib.hid hO
      have HK5 := Lib.hid (HK3.out.then HK4.out)
      have HF : Hid (l ++ subsb L = l3 ++ L.flatMap subb) := Lib.hid (by rw [HEV.out, ← List.append_assoc, HL3.out])
      clear hO HO4
      go_wp2_with fail
      go_ret
      exact ⟨_, rfl, by rw [HF.out]; exact HO5.out, HK5.out⟩

abbrev chbox (g : Bool) (s : Sb) : Obj := .cells #[.bool g, .int .i64 s.c, .int .i64 s.b, .int .i64 s.n, .slice s.f.A s.f.l.length s.f.c] 35
theorem ch_row {w : World} {g : Nat} {b : Bool} {s : Sb} (h : w.heap[g]? = some (chbox b s)) : ∀ j u, (Value.bool b :: s.cells)[j]? = some u → w.cell? ⟨g, 0 + j, none⟩ = some u := cells_row (cs := Value.bool b :: s.cells) h
theorem boolb_len (b : Bool) : (boolb b).length ≤ 9 := natw_len _
set_option maxHeartbeats 16000000 in
theorem addchange_any {B : Nat} {v : Value} {l : List Nat} {b : Bool} {s : Sb} {W0 w : World} (hB : W0.heap.size = B) (h : OwnB B w v l) (hf : IsFt W0 s.f) (hs : FtLays s.f) (hb : Below B W0 w) (hl : l.length ≤ 1000) :
    Calls Tryz.prog 47 #[v, chv b s] w (AddPost B (l ++ changeb b s) w) := by
  subst hB
  have hn := one_new w (chbox b s)
  have HR := Lib.hid (heap_alloc_new w (chbox b s))
  have HO := Lib.hid (h.later hn)
  have HK0 := Lib.hid (Keep.later h.2 hn)
  have HB := Lib.hid (hb.trans (below_sub hn h.2))
  have HX := Lib.hid hf
  have HS := Lib.hid hs
  clear h hn hb hf hs
  go_enter Tryz.func47, Tryz.ntmps47
  go_upto_region 1 with fail
  dsimp only [chbox] at HR HO HK0 HB
  generalize w.alloc _ = w1 at HR HO HK0 HB ⊢
  generalize w.heap.size = g at HR ⊢
  have hbl := boolb_len b
  refine held_begin (fun z => Keep W0.heap.size w1 z) (by kernel_rfl) ?_
  have HKn : Hid (Keep W0.heap.size w1 w1.drew) := Lib.hid (Keep.later HO.out.2 (drew_below w1))
  have HO2 := Lib.hid (HO.out.later (drew_below w1))
  generalize w1.drew = wd at HKn HO2 ⊢
  refine held_read (i := 0) (o := { dst := some 5, op := Op.move (Operand.tmp 0), type := 23, pos := "lay.go:84", after := #[], guard := none }) (v := ?_) rfl (by kernel_rfl) (by kernel_rfl) (by kernel_rfl) (fun _ _ _ h => h) (by rfl) (by first | exact HK4.out | exact HK3.out | exact HKn.out) ?_ ?_
  rotate_left
  · (intro x hx; have hrow := hx.obj _ _ _ _ HR.out (by decide); have r0 := ch_row hrow 0 _ rfl; have e1 := cells_part (ds := s.cells) (ch_row hrow) (Nat.zero_add 1) (fun j v hj => by rw [Nat.add_comm]; exact hj); simp only [Nat.zero_add] at r0; first | (refine load_run rfl rfl e1 Tryz.underlying33 rfl sb_size ?_; rfl) | (go_simp; try with_reducible rfl))
  try simp only [Act.put, List.setIfInBounds_toArray, List.set_cons_zero, List.set_cons_succ]
  refine held_read (i := 1) (o := { dst := some 6, op := Op.fieldAddr 35 (Operand.tmp 3) 0, type := 0, pos := "lay.go:84", after := #[], guard := none }) (v := ?_) rfl (by kernel_rfl) (by kernel_rfl) (by kernel_rfl) (fun _ _ _ h => h) (by rfl) (by first | exact HK4.out | exact HK3.out | exact HKn.out) ?_ ?_
  rotate_left
  · (intro x hx; have hrow := hx.obj _ _ _ _ HR.out (by decide); have r0 := ch_row hrow 0 _ rfl; have e1 := cells_part (ds := s.cells) (ch_row hrow) (Nat.zero_add 1) (fun j v hj => by rw [Nat.add_comm]; exact hj); simp only [Nat.zero_add] at r0; first | (refine load_run rfl rfl e1 Tryz.underlying33 rfl sb_size ?_; rfl) | (go_simp; try with_reducible rfl))
  try simp only [Act.put, List.setIfInBounds_toArray, List.set_cons_zero, List.set_cons_succ]
  refine held_read (i := 2) (o := { dst := some 7, op := Op.load 4 (Operand.tmp 6), type := 4, pos := "lay.go:84", after := #[{ on := 1, ground := Ground.data }], guard := none }) (v := ?_) rfl (by kernel_rfl) (by kernel_rfl) (by kernel_rfl) (fun _ _ _ h => h) (by rfl) (by first | exact HK4.out | exact HK3.out | exact HKn.out) ?_ ?_
  rotate_left
  · (intro x hx; have hrow := hx.obj _ _ _ _ HR.out (by decide); have r0 := ch_row hrow 0 _ rfl; have e1 := cells_part (ds := s.cells) (ch_row hrow) (Nat.zero_add 1) (fun j v hj => by rw [Nat.add_comm]; exact hj); simp only [Nat.zero_add] at r0; first | (refine load_run rfl rfl e1 Tryz.underlying33 rfl sb_size ?_; rfl) | (go_simp; try with_reducible rfl))
  try simp only [Act.put, List.setIfInBounds_toArray, List.set_cons_zero, List.set_cons_succ]
  refine held_read (i := 4) (o := { dst := some 9, op := Op.fieldAddr 35 (Operand.tmp 3) 1, type := 0, pos := "lay.go:84", after := #[], guard := none }) (v := ?_) rfl (by kernel_rfl) (by kernel_rfl) (by kernel_rfl) (fun _ _ _ h => h) (by rfl) (by first | exact HK4.out | exact HK3.out | exact HKn.out) ?_ ?_
  rotate_left
  · (intro x hx; have hrow := hx.obj _ _ _ _ HR.out (by decide); have r0 := ch_row hrow 0 _ rfl; have e1 := cells_part (ds := s.cells) (ch_row hrow) (Nat.zero_add 1) (fun j v hj => by rw [Nat.add_comm]; exact hj); simp only [Nat.zero_add] at r0; first | (refine load_run rfl rfl e1 Tryz.underlying33 rfl sb_size ?_; rfl) | (go_simp; try with_reducible rfl))
  try simp only [Act.put, List.setIfInBounds_toArray, List.set_cons_zero, List.set_cons_succ]
  refine held_read (i := 5) (o := { dst := some 10, op := Op.load 33 (Operand.tmp 9), type := 33, pos := "lay.go:84", after := #[{ on := 4, ground := Ground.data }], guard := none }) (v := ?_) rfl (by kernel_rfl) (by kernel_rfl) (by kernel_rfl) (fun _ _ _ h => h) (by rfl) (by first | exact HK4.out | exact HK3.out | exact HKn.out) ?_ ?_
  rotate_left
  · (intro x hx; have hrow := hx.obj _ _ _ _ HR.out (by decide); have r0 := ch_row hrow 0 _ rfl; have e1 := cells_part (ds := s.cells) (ch_row hrow) (Nat.zero_add 1) (fun j v hj => by rw [Nat.add_comm]; exact hj); simp only [Nat.zero_add] at r0; first | (refine load_run rfl rfl e1 Tryz.underlying33 rfl sb_size ?_; rfl) | (go_simp; try with_reducible rfl))
  try simp only [Act.put, List.setIfInBounds_toArray, List.set_cons_zero, List.set_cons_succ]
  refine held_call (i := 3) (o := { dst := some 8, op := Op.call { callee := Callee.value (Operand.func 83), args := #[Operand.tmp 5, Operand.tmp 7], argTypes := #[23, 4] }, type := 23, pos := "lay.go:84", after := #[{ on := 0, ground := Ground.data }, { on := 2, ground := Ground.data }], guard := none }) rfl (by kernel_rfl) (by rfl) (fun K hK => ?_)
  go_simp
  refine (addbool_any (b := b) HO2.out (by omega)).mono ?_
  rintro r w3 ⟨v3, rfl, hO, hK3⟩
  have HO3 := Lib.hid hO
  have HK3 := Lib.hid (HKn.out.then hK3)
  refine hK.out _ _ HK3.out ?_
  clear hK K hO hK3
  try simp only [Act.put, List.setIfInBounds_toArray, List.set_cons_zero, List.set_cons_succ]
  refine held_call (i := 6) (o := { dst := some 11, op := Op.call { callee := Callee.value (Operand.func 82), args := #[Operand.tmp 8, Operand.tmp 10], argTypes := #[23, 33] }, type := 23, pos := "lay.go:84", after := #[{ on := 3, ground := Ground.data }, { on := 5, ground := Ground.data }, { on := 3, ground := Ground.chain }], guard := none }) rfl (by kernel_rfl) (by rfl) (fun K hK => ?_)
  go_simp
  refine (addsub_any (s := s) (W0 := W0) rfl HO3.out HX.out HS.out (HB.out.trans HK3.out.below) (by rw [List.length_append]; omega)).mono ?_
  rintro r w4 ⟨v4, rfl, hO, hK4⟩
  have HO4 := Lib.hid hO
  have HK4 := Lib.hid (HK3.out.then hK4)
  refine hK.out _ _ HK4.out ?_
  clear hK K hO hK4
  try simp only [Act.put, List.setIfInBounds_toArray, List.set_cons_zero, List.set_cons_succ]
  refine held_read (i := 7) (o := { dst := some 4, op := Op.assign (Operand.tmp 11), type := 23, pos := "lay.go:84", after := #[{ on := 6, ground := Ground.data }, { on := 6, ground := Ground.chain }, { on := 0, ground := Ground.phase }, { on := 1, ground := Ground.phase }, { on := 2, ground := Ground.phase }, { on := 3, ground := Ground.phase }, { on := 4, ground := Ground.phase }, { on := 5, ground := Ground.phase }, { on := 6, ground := Ground.phase }], guard := none }) (v := ?_) rfl (by kernel_rfl) (by kernel_rfl) (by kernel_rfl) (fun _ _ _ h => h) (by rfl) (by first | exact HK4.out | exact HK3.out | exact HKn.out) ?_ ?_
  rotate_left
  · (intro x hx; have hrow := hx.obj _ _ _ _ HR.out (by decide); have r0 := ch_row hrow 0 _ rfl; have e1 := cells_part (ds := s.cells) (ch_row hrow) (Nat.zero_add 1) (fun j v hj => by rw [Nat.add_comm]; exact hj); simp only [Nat.zero_add] at r0; first | (refine load_run rfl rfl e1 Tryz.underlying33 rfl sb_size ?_; rfl) | (go_simp; try with_reducible rfl))
  try simp only [Act.put, List.setIfInBounds_toArray, List.set_cons_zero, List.set_cons_succ]
  refine wpAnyH_done (by kernel_rfl) ?_ _
  go_wp2_with fail
  go_ret
  exact ⟨_, rfl, by rw [changeb, ← List.append_assoc]; exact HO4.out, HK0.out.then HK4.out⟩
end Go.Proofs.YtgenmebmdpnjhaaGreat
