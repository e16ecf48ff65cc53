
/- AttrFinds: the walk. -/
import Derived.Test.YtbmjpajcoeaacaaAttFacts
import Derived.Test.YtbmjpajcoeaacaaAttrKnown
namespace Go.Proofs.Ytbmjpajcoeaacaa
open Go.RowKit

theorem known_any (w : World) : Calls Try.prog 19 #[] w fun e w' => e = .returned (.bool true) ∧ Below w.heap.size w w' := by
  go_enter Try.func19, Try.ntmps19
  go_wp2_with fail
  refine (aknown_any _).mono ?_
  rintro e w' ⟨rfl, hb⟩
  have HB := Lib.hid hb
  clear hb
  go_wp2_with fail
  go_ret
  exact ⟨rfl, HB.out⟩

set_option maxRecDepth 100000 in
set_option maxHeartbeats 8000000 in
theorem afinds_walk (A : Option Addr) (len cap : Nat) (at_ : Int) (w : World) (hd : Draws w.heap.size w A len) :
    Calls Try.prog 5 #[.slice A len cap, .int .i64 at_] w fun e w' => e = .returned (.bool true) ∧ Below w.heap.size w w' := by
  have hF0 := Lib.hid (feed_new (cap := cap) hd 40)
  have HB0 := Lib.hid (one_new w (.cells #[.slice A len cap, .int .i64 0] 40))
  clear hd
  go_enter Try.func5, Try.ntmps5
  go_wp2_with fail
  refine (feedattrs_any _ (by omega) hF0.out).mono ?_
  rintro e w1 ⟨v, l, rfl, hfed, hO, -, hK⟩
  have HB1 : Hid (Below w.heap.size w w1) := HB0.out.trans (hK.below (by simp) (by intro k hk e; omega))
  obtain ⟨A1, c1, rfl, hc1, hc2, hr1, hA1, -, hnil⟩ := hO.reads
  have HFed := Lib.hid hfed
  have HA : Hid (Ats w1 A1 l.length l) := ⟨hr1, hfed.small, by unfold maxLen at hc2; omega⟩
  have HN := Lib.hid hnil
  have hl5 := hfed.len
  clear hO hfed hr1 hA1 hnil hK hF0 HB0
  go_wp2_with fail
  refine (known_any _).mono ?_
  rintro e w2 ⟨rfl, hb2⟩
  replace HB1 := Lib.hid (below_then HB1.out hb2)
  replace HA := Lib.hid (HA.out.later hb2)
  clear hb2 w1
  go_wp2_with fail
  refine (aright_any HA.out).mono ?_
  rw [HFed.out.good.right]
  rintro e w3 ⟨rfl, hb3⟩
  replace HB1 := Lib.hid (below_then HB1.out hb3)
  replace HA := Lib.hid (HA.out.later hb3)
  clear hb3 w2
  go_wp2_with fail
  go_loopw [7] (fun ii wr => ∃ k : Nat, k ≤ l.length ∧ ii = .int .i64 (k : Int) ∧ Below w3.heap.size w3 wr) (fun ii _ => l.length - (intOf ii).toNat)
  case atStart => exact ⟨0, by omega, rfl, Below.refl _ _⟩
  case round =>
    obtain ⟨k, hk, rfl, hB⟩ := hrel
    have HB := Lib.hid hB
    clear hB
    by_cases hlt : k < l.length
    · obtain ⟨g, o, rfl, hg⟩ := HA.out.at (by omega)
      obtain ⟨a, ha⟩ : ∃ a, l[k]? = some a := ⟨_, List.getElem?_eq_getElem hlt⟩
      have hs := (hg k a ha).later HB.out
      have hfind := At.find_own l k a HFed.out.rise ha
      have hgot : gotv l a.name = .tuple #[vlv a.v, .bool true] := by unfold gotv; rw [At.got_of hfind, At.has_of hfind]
      have hself := Vl.same_self a.v
      obtain ⟨an, ak, am, ax, az, ab⟩ := a
      have HGot := Lib.hid hgot
      have HSelf := Lib.hid hself
      have HS := Lib.hid hs
      have c0 := hs.h0
      clear hg ha hs hfind hgot hself
      have hst := store_float
      go_wp2_with fail
      refine (get_any (HA.out.later HB.out)).mono ?_
      rw [HGot.out]
      rintro e w4 ⟨rfl, hb4⟩
      have HB4 := Lib.hid (below_then HB.out hb4)
      have HS4 := Lib.hid (HS.out.later hb4)
      clear hb4 HS HGot c0
      go_wp2_with fail
      have HR : Hid ((w4.alloc (.cells #[.int .i64 ak, .int .i64 am, .float .f64 ax, .string az, .bool ab] 24)).heap[w4.heap.size]? = some (.cells #[.int .i64 ak, .int .i64 am, .float .f64 ax, .string az, .bool ab] 24 (0, 0))) := heap_alloc_new _ _
      have HB5 := Lib.hid (below_then HB4.out (one_new w4 (.cells #[.int .i64 ak, .int .i64 am, .float .f64 ax, .string az, .bool ab] 24)))
      have HS5 := Lib.hid (HS4.out.later (one_new w4 (.cells #[.int .i64 ak, .int .i64 am, .float .f64 ax, .string az, .bool ab] 24)))
      clear HB4 HS4
      generalize w4.alloc (.cells #[.int .i64 ak, .int .i64 am, .float .f64 ax, .string az, .bool ab] 24) = w5 at HR HB5 HS5 ⊢
      generalize w4.heap.size = p1 at HR ⊢
      clear w4
      have v0 := later_cell (cell_of_row _ _ 0 _ _ _ HR.out)
      have v1 := later_cell (cell_of_row _ _ 1 _ _ _ HR.out)
      have v2 := later_cell (cell_of_row _ _ 2 _ _ _ HR.out)
      have v3 := later_cell (cell_of_row _ _ 3 _ _ _ HR.out)
      have v4 := later_cell (cell_of_row _ _ 4 _ _ _ HR.out)
      have d1 := later_cell HS5.out.h1
      have d2 := later_cell HS5.out.h2
      have d3 := later_cell HS5.out.h3
      have d4 := later_cell HS5.out.h4
      have d5 := later_cell HS5.out.h5
      haveI := later_some w5
      refine wp_region_later (W := w5) (by kernel_rfl) (by kernel_rfl) (Below.refl _ _) ?_
      have hvs := fun x : Later w5 => vsame_any ak am ax az ab ak am ax az ab x.at_
      rw [HSelf.out] at hvs
      have HVS := Lib.hid hvs
      clear hvs
      repeat (go_big_quiet_step (first | (go_at_call 9; exact calls_later (HVS.out _))))
      refine wpQuiet_nil ?_
      rintro _ ⟨x, rfl⟩
      go_wp2_with fail
      exact ⟨⟨k + 1, by omega, rfl, below_then HB5.out x.below⟩, by simp [intOf]; omega⟩
    · have hkl : k = l.length := by omega
      have hnob := HFed.out.nobody
      have hgot : gotv l ⟨#[110, 111, 98, 111, 100, 121]⟩ = .tuple #[vl 0 0 0 ⟨#[]⟩ false, .bool false] := by unfold gotv; rw [At.got_none hnob, At.has_none hnob]; rfl
      have HGot := Lib.hid hgot
      clear hgot hnob
      have hst := store_float
      go_wp2_with fail
      refine (get_any (HA.out.later HB.out)).mono ?_
      rw [HGot.out]
      rintro e w4 ⟨rfl, hb4⟩
      have HB4 := Lib.hid (below_then (below_then HB.out hb4) (one_new w4 (zero5 24)))
      have HW4 := Lib.hid (below_then HB1.out HB4.out)
      have HA4 := Lib.hid (HA.out.later HB4.out)
      clear hb4 HB4 HGot
      go_upto_region 12 with fail
      generalize w4.alloc (.cells #[.int .i64 0, .int .i64 0, .float .f64 0, .string ⟨#[]⟩, .bool false] 24) = w5 at HW4 HA4 ⊢
      by_cases h0 : l.length = 0
      · have h0' : (l.length : Int) = 0 := by omega
        go_wp2_with fail
        go_ret
        exact ⟨rfl, HW4.out⟩
      · have h0' : ¬ (l.length : Int) = 0 := by omega
        go_wp2_with fail
        refine (pick_any at_ l.length (by omega) (by omega) _).mono ?_
        rintro e w' ⟨rfl, rfl⟩
        have hp1 := Int.emod_nonneg at_ (show (l.length : Int) ≠ 0 by omega)
        have hp2 := Int.emod_lt_of_pos at_ (show 0 < (l.length : Int) by omega)
        obtain ⟨q, hq⟩ := Int.eq_ofNat_of_zero_le hp1
        rw [hq] at hp2 ⊢
        clear hp1 hq
        obtain ⟨g, o, rfl, hg⟩ := HA4.out.at (by omega)
        obtain ⟨a, ha⟩ : ∃ a, l[q]? = some a := ⟨_, List.getElem?_eq_getElem (by omega)⟩
        have hgw : g < w5.heap.size := (hg q a ha).lt
        have HG := Lib.hid ha
        clear hg ha
        have hqc : q ≤ c1 := by omega
        have hq1 : q + 1 ≤ l.length := by omega
        have hq2 : 0 ≤ (q : Int) + 1 ∧ (q : Int) + 1 ≤ (l.length : Int) := by omega
        have uq : IntKind.i64.wrap ((q : Int) + 1) = ((q + 1 : Nat) : Int) := IntWalk.i64_in _ (by omega)
        go_upto_region 15 with fail
        refine held_begin (fun z => Below w5.heap.size w5 z) (by kernel_rfl) ?_
        have hd := drew_below w5
        have HB := Lib.hid hd
        have HA5 := Lib.hid (HA4.out.later hd)
        clear hd HA4
        have hwd : w5.heap.size ≤ w5.drew.heap.size := HB.out.size
        generalize w5.drew = wd at HB HA5 hwd ⊢
        refine held_read (i := 1) (o := { dst := some 74, op := Op.move (Operand.tmp 6), type := 28, pos := "law.go:81", after := #[], guard := none }) (v := ?_) rfl (by kernel_rfl) (by kernel_rfl) (by kernel_rfl) (fun _ _ _ h => h) (by rfl) HB.out ?_ ?_
        rotate_left
        · (intro x hx; go_simp; try with_reducible rfl)
        try simp only [Act.put, List.setIfInBounds_toArray, List.set_cons_zero, List.set_cons_succ]
        refine held_read (i := 2) (o := { dst := some 75, op := Op.move (Operand.tmp 12), type := 3, pos := "law.go:81", after := #[], guard := none }) (v := ?_) rfl (by kernel_rfl) (by kernel_rfl) (by kernel_rfl) (fun _ _ _ h => h) (by rfl) HB.out ?_ ?_
        rotate_left
        · (intro x hx; go_simp; try with_reducible rfl)
        try simp only [Act.put, List.setIfInBounds_toArray, List.set_cons_zero, List.set_cons_succ]
        refine held_read (i := 3) (o := { dst := some 76, op := Op.slice 28 (Operand.tmp 74) none (some (Operand.tmp 75)) none, type := 28, pos := "law.go:81", after := #[{ on := 1, ground := Ground.data }, { on := 2, ground := Ground.data }], guard := none }) (v := ?_) rfl (by kernel_rfl) (by kernel_rfl) (by kernel_rfl) (fun _ _ _ h => h) (by rfl) HB.out ?_ ?_
        rotate_left
        · (intro x hx; go_simp; try with_reducible rfl)
        try simp only [Act.put, List.setIfInBounds_toArray, List.set_cons_zero, List.set_cons_succ]
        refine held_read (i := 5) (o := { dst := some 78, op := Op.move (Operand.tmp 6), type := 28, pos := "law.go:81", after := #[], guard := none }) (v := ?_) rfl (by kernel_rfl) (by kernel_rfl) (by kernel_rfl) (fun _ _ _ h => h) (by rfl) HB.out ?_ ?_
        rotate_left
        · (intro x hx; go_simp; try with_reducible rfl)
        try simp only [Act.put, List.setIfInBounds_toArray, List.set_cons_zero, List.set_cons_succ]
        refine held_read (i := 6) (o := { dst := some 79, op := Op.move (Operand.tmp 12), type := 3, pos := "law.go:81", after := #[], guard := none }) (v := ?_) rfl (by kernel_rfl) (by kernel_rfl) (by kernel_rfl) (fun _ _ _ h => h) (by rfl) HB.out ?_ ?_
        rotate_left
        · (intro x hx; go_simp; try with_reducible rfl)
        try simp only [Act.put, List.setIfInBounds_toArray, List.set_cons_zero, List.set_cons_succ]
        refine held_read (i := 7) (o := { dst := some 80, op := Op.binOp BinOp.add 3 (Operand.tmp 79) (Operand.const (Value.int IntKind.i64 1)) 3, type := 3, pos := "law.go:81", after := #[{ on := 6, ground := Ground.data }], guard := none }) (v := ?_) rfl (by kernel_rfl) (by kernel_rfl) (by kernel_rfl) (fun _ _ _ h => h) (by rfl) HB.out ?_ ?_
        rotate_left
        · (intro x hx; go_simp; try with_reducible rfl)
        try simp only [Act.put, List.setIfInBounds_toArray, List.set_cons_zero, List.set_cons_succ]
        refine held_read (i := 8) (o := { dst := some 81, op := Op.slice 28 (Operand.tmp 78) (some (Operand.tmp 80)) none none, type := 28, pos := "law.go:81", after := #[{ on := 5, ground := Ground.data }, { on := 7, ground := Ground.data }], guard := none }) (v := ?_) rfl (by kernel_rfl) (by kernel_rfl) (by kernel_rfl) (fun _ _ _ h => h) (by rfl) HB.out ?_ ?_
        rotate_left
        · (intro x hx; go_simp; try with_reducible rfl)
        try simp only [Act.put, List.setIfInBounds_toArray, List.set_cons_zero, List.set_cons_succ]
        refine held_call (i := 0) (o := { dst := some 73, op := Op.buildSlice 28 0 #[], type := 28, pos := "law.go:81", after := #[], guard := none }) rfl (by kernel_rfl) (by rfl) (fun K hK => ?_)
        go_simp
        have hn := one_new wd (.cells #[] 27)
        have HO : Hid (OwnW 6 w5.heap.size 27 (wd.alloc (.cells #[] 27)) (.slice (some ⟨wd.heap.size, 0, none⟩) 0 0) 0 []) := OwnW.of_row hwd (heap_alloc_new _ _) rfl (by unfold maxLen; omega)
        replace HB := Lib.hid (HB.out.trans (below_sub hn hwd))
        have HA6 := Lib.hid (HA5.out.later hn)
        refine hK.out _ _ HB.out ?_
        clear hn hK K HA5
        generalize wd.alloc (.cells #[] 27) = w6 at HB HO HA6 ⊢
        generalize wd.heap.size = g6 at HO hwd ⊢
        try simp only [Act.put, List.setIfInBounds_toArray, List.set_cons_zero, List.set_cons_succ]
        refine held_call (i := 4) (o := { dst := some 77, op := Op.call { callee := Callee.builtin Builtin.append, args := #[Operand.tmp 73, Operand.tmp 76], argTypes := #[28, 28] }, type := 28, pos := "law.go:81", after := #[{ on := 0, ground := Ground.data }, { on := 3, ground := Ground.data }], guard := none }) rfl (by kernel_rfl) (by rfl) (fun K hK => ?_)
        refine step_ownw (k := 6) _ _ 28 rfl Try.underlying28 att_info rfl (by decide) w5.heap.size _ _ _ rfl HO.out _ q c1 rfl (fun h => by cases h) (flat (l.take q)) (HA6.out.row.take (by omega)) (flat_one _) (by omega) (by decide) ?_
        intro v7 w7 hO7 hK7
        have h7 : ∀ i, i < w5.heap.size → ¬ (some g6 = some i) := fun i hi e => by cases e; omega
        replace HB := Lib.hid (HB.out.trans (hK7.below (B := w5.heap.size) HB.out.size h7))
        have HA7 := Lib.hid (HA6.out.kept hK7 (fun x e => by cases e; exact h7 g hgw))
        have hO7' : OwnW 6 w5.heap.size 27 w7 v7 q (flat (l.take q)) := by simpa using hO7
        have HO7 := Lib.hid hO7'
        refine hK.out _ _ HB.out ?_
        clear hO7 hO7' hK7 hK K HO HA6 h7
        try simp only [Act.put, List.setIfInBounds_toArray, List.set_cons_zero, List.set_cons_succ]
        refine held_call (i := 9) (o := { dst := some 82, op := Op.call { callee := Callee.builtin Builtin.append, args := #[Operand.tmp 77, Operand.tmp 81], argTypes := #[28, 28] }, type := 28, pos := "law.go:81", after := #[{ on := 4, ground := Ground.data }, { on := 8, ground := Ground.data }, { on := 4, ground := Ground.chain }], guard := none }) rfl (by kernel_rfl) (by rfl) (fun K hK => ?_)
        refine step_ownw (k := 6) _ _ 28 rfl Try.underlying28 att_info rfl (by decide) w5.heap.size _ _ _ rfl HO7.out _ (l.length - (q + 1)) _ rfl (fun h => by split at h <;> cases h) (flat (l.drop (q + 1))) (HA7.out.row.drop' hq1 hc1) (flat_one _) (by omega) (by decide) ?_
        intro v8 w8 hO8 hK8
        have h8 : ∀ i, i < w5.heap.size → ¬ (v7.ownBlock = some i) := fun i hi e => absurd (HO7.out.1.lt i e).1 (by omega)
        replace HB := Lib.hid (HB.out.trans (hK8.below (B := w5.heap.size) HB.out.size h8))
        have HA8 := Lib.hid (HA7.out.kept hK8 (fun x e => by cases e; exact h8 g hgw))
        have hbl : q + (l.length - (q + 1)) = (At.but l q).length := by have := At.but_len (l := l) (k := q) (by omega); omega
        have hbf : flat (l.take q) ++ flat (l.drop (q + 1)) = flat (At.but l q) := by unfold flat At.but; rw [List.flatMap_append]
        rw [hbl, hbf] at hO8
        obtain ⟨A8, c8, rfl, hc8, hm8, hr8, -⟩ := hO8.reads
        have HA9 : Hid (Ats w8 A8 (At.but l q).length (At.but l q)) := ⟨hr8, fun b hb => HFed.out.small b ((At.but_sub l q).subset hb), by omega⟩
        refine hK.out _ _ HB.out ?_
        clear hO8 hK8 hK K HO7 HA7 h8 hbl hbf hr8 hm8
        try simp only [Act.put, List.setIfInBounds_toArray, List.set_cons_zero, List.set_cons_succ]
        refine held_read (i := 10) (o := { dst := some 13, op := Op.assign (Operand.tmp 82), type := 28, pos := "law.go:81", after := #[{ on := 9, ground := Ground.data }, { on := 9, ground := Ground.chain }, { on := 0, ground := Ground.phase }, { on := 1, ground := Ground.phase }, { on := 2, ground := Ground.phase }, { on := 3, ground := Ground.phase }, { on := 4, ground := Ground.phase }, { on := 5, ground := Ground.phase }, { on := 6, ground := Ground.phase }, { on := 7, ground := Ground.phase }, { on := 8, ground := Ground.phase }, { on := 9, ground := Ground.phase }], guard := none }) (v := ?_) rfl (by kernel_rfl) (by kernel_rfl) (by kernel_rfl) (fun _ _ _ h => h) (by rfl) HB.out ?_ ?_
        rotate_left
        · (intro x hx; go_simp; try with_reducible rfl)
        try simp only [Act.put, List.setIfInBounds_toArray, List.set_cons_zero, List.set_cons_succ]
        refine wpAnyH_done (by kernel_rfl) ?_ _
        generalize (if c1 = q + 1 then (some ⟨g, o, none⟩ : Option Addr) else some ⟨g, o + (q + 1) * 6, none⟩) = A81
        have HW8 := Lib.hid (below_then HW4.out HB.out)
        obtain ⟨g', o', e', hg⟩ := HA8.out.at (by omega)
        cases e'
        have HS8 := Lib.hid (hg q a HG.out)
        have hgone := At.but_gone HFed.out.rise HG.out
        have hgot : gotv (At.but l q) a.name = .tuple #[vl 0 0 0 ⟨#[]⟩ false, .bool false] := by unfold gotv; rw [At.got_none hgone, At.has_none hgone]; rfl
        have HGot := Lib.hid hgot
        have HR := Lib.hid (HFed.out.good.sub (At.but_sub l q)).right
        have HSm := Lib.hid (At.other_len (l := l) (m := At.but l q) (by have := At.but_len (l := l) (k := q) (by omega); omega))
        have c0 := HS8.out.h0
        clear hg hgone hgot HG
        generalize a.name = an at c0 HGot
        go_wp2_with fail
        refine (get_any HA9.out).mono ?_
        rw [HGot.out]
        rintro e w9 ⟨rfl, hb9⟩
        have HB9 := Lib.hid (below_then hb9 (one_new w9 (zero5 24)))
        clear c0 hb9 HGot
        go_upto_region 17 with fail
        have HW9 := Lib.hid (below_then HW8.out HB9.out)
        have HA10 := Lib.hid (HA9.out.later HB9.out)
        have HA11 := Lib.hid (HA8.out.later HB9.out)
        clear HB9 HW8 HA9 HA8 HS8
        generalize w9.alloc (.cells #[.int .i64 0, .int .i64 0, .float .f64 0, .string ⟨#[]⟩, .bool false] 24) = w10 at HW9 HA10 HA11 ⊢
        go_wp2_with fail
        refine (aright_any HA10.out).mono ?_
        rw [HR.out]
        rintro e w11 ⟨rfl, hb11⟩
        have HW11 := Lib.hid (below_then HW9.out hb11)
        have HA12 := Lib.hid (HA10.out.later hb11)
        have HA13 := Lib.hid (HA11.out.later hb11)
        clear hb11 HW9 HA10 HA11
        go_wp2_with fail
        refine (asame_any HA13.out HA12.out).mono ?_
        rw [HSm.out]
        rintro e w12 ⟨rfl, hb12⟩
        have HW12 := Lib.hid (below_then HW11.out hb12)
        clear hb12 HW11
        go_wp2_with fail
        go_ret
        exact ⟨rfl, HW12.out⟩
theorem afinds_below (w : World) (A : Option Addr) (len cap : Nat) (zs : List Int) (hr : IsRow .i64 w A len cap zs) (m : Int) (_ : (Lit.int .i64 m).wf = true) :
    Calls Try.prog 5 #[.slice A len cap, .int .i64 m] w fun e w' => e = .returned (.bool true) ∧ Below w.heap.size w w' := afinds_walk A len cap m w hr.draws
end Go.Proofs.Ytbmjpajcoeaacaa
