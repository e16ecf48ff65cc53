
/- ConfigFirst: parents that are none are told first; each number alone bars a config just beyond its bounds. -/
import Derived.Test.YtegkphbnedbgfaaCfgGrows
import Derived.Deep.CutBlock
namespace Go.Proofs.Ytegkphbnedbgfaa
open Go.RowKit
set_option linter.unusedVariables false

namespace Cf
/-- The bounds of the k-th number. -/
def least (k : Nat) : Int := if k = 4 then 0 else 1
def most (k : Nat) : Int := if k = 4 then 4611686018427387904 else if k = 3 then 4 else 8
/-- The k-th number turned. -/
def put (x : Cf) (k : Nat) (v : Int) : Cf :=
  if k = 0 then ⟨x.par, v, x.res, x.que, x.fli, x.sta⟩ else if k = 1 then ⟨x.par, x.win, v, x.que, x.fli, x.sta⟩ else if k = 2 then ⟨x.par, x.win, x.res, v, x.fli, x.sta⟩ else if k = 3 then ⟨x.par, x.win, x.res, x.que, v, x.sta⟩ else ⟨x.par, x.win, x.res, x.que, x.fli, v⟩
theorem put_par (x : Cf) (k : Nat) (v : Int) : (x.put k v).par = x.par := by
  unfold put; split <;> (try split) <;> (try split) <;> (try split) <;> rfl
def want (k : Nat) (v : Int) : Int := if v < least k ∨ v > most k then 1 else 0
theorem put_check {x : Cf} (h : x.check = 0) {k : Nat} (hk : k < 5) (v : Int) : (x.put k v).check = want k v := by
  obtain ⟨h2, h3⟩ := fine h
  simp only [nums, Bool.and_eq_true, wi_true] at h3
  unfold check want
  rw [put_par, if_pos h2]
  have e : ((x.put k v).nums = true) ↔ ¬ (v < least k ∨ v > most k) := by
    match k, hk with
    | 0, _ => simp only [put, nums, Bool.and_eq_true, wi_true, least, most]; simp; omega
    | 1, _ => simp only [put, nums, Bool.and_eq_true, wi_true, least, most]; simp; omega
    | 2, _ => simp only [put, nums, Bool.and_eq_true, wi_true, least, most]; simp; omega
    | 3, _ => simp only [put, nums, Bool.and_eq_true, wi_true, least, most]; simp; omega
    | 4, _ => simp only [put, nums, Bool.and_eq_true, wi_true, least, most]; simp; omega
  by_cases hb : v < least k ∨ v > most k
  · rw [if_neg (fun h => (e.1 h) hb), if_pos hb]
  · rw [if_pos (e.2 hb), if_neg hb]
/-- Parents with one more that is none. -/
theorem check_none {x y : Cf} {u : Int} (h : u = (x.par.length : Int) + 1) (hy : y.par = x.par ++ [u]) : y.check = 3 := by
  unfold check
  rw [if_neg]
  rw [hy]
  unfold Tr.right
  rw [Tr.okFrom_snoc]
  simp
  intros
  omega
theorem want_ways (k : Nat) (v : Int) : (want k v = 0 ∧ ¬ v < least k ∧ ¬ v > most k) ∨ (want k v = 1 ∧ (v < least k ∨ v > most k)) := by
  unfold want
  by_cases h : v < least k ∨ v > most k
  · exact .inr ⟨if_pos h, h⟩
  · exact .inl ⟨if_neg h, fun e => h (.inl e), fun e => h (.inr e)⟩
end Cf
theorem idx4 (a b c d : Int) (w : World) : (Instr.index 34 (.agg #[.int .i64 a, .int .i64 b, .int .i64 c, .int .i64 d]) (.int .i64 0)).run Try.prog w = .ok (.int .i64 a) w ∧ (Instr.index 34 (.agg #[.int .i64 a, .int .i64 b, .int .i64 c, .int .i64 d]) (.int .i64 1)).run Try.prog w = .ok (.int .i64 b) w ∧ (Instr.index 34 (.agg #[.int .i64 a, .int .i64 b, .int .i64 c, .int .i64 d]) (.int .i64 2)).run Try.prog w = .ok (.int .i64 c) w ∧ (Instr.index 34 (.agg #[.int .i64 a, .int .i64 b, .int .i64 c, .int .i64 d]) (.int .i64 3)).run Try.prog w = .ok (.int .i64 d) w := ⟨by kernel_rfl, by kernel_rfl, by kernel_rfl, by kernel_rfl⟩
/-- An element of an array value, in a region that is walked in the order of the text. -/
theorem quiet_idx {C : World → Prop} {a : Act} {o : Oper} {K : Act → Prop} (ty : TypeId) (x i : Operand) (ho : o.op = .index ty x i) {u j v : Value} (hx : a.eval x = u) (hi : a.eval i = j) (hv : ∀ w, (Instr.index ty u j).run Try.prog w = .ok v w) (h : K (a.put o.dst v)) : o.quiet Try.prog a C K :=
  ⟨v, fun w _ => by
    unfold Oper.quietAt execOp
    simp only [ho, hx, hi, Sem.run_bind, Sem.run_pure, Result.andThen_ok, hv]
    exact ⟨rfl, rfl⟩, h⟩
theorem pick_at {n m v : Int} (hm : 1 ≤ m) (hm2 : m ≤ 4611686018427387904) (hv : n % m = v) (w : World) : Calls Try.prog 13 #[.int .i64 n, .int .i64 m] w fun e w' => e = .returned (.int .i64 v) ∧ w = w' := hv ▸ pick_any n m hm hm2 w
abbrev five5 : List Value := [.int .i64 8, .int .i64 8, .int .i64 8, .int .i64 4, .int .i64 4611686018427387904]
theorem most_cell {W : World} {g : Nat} (h : W.heap[g]? = some (.cells five5.toArray 38 (0, 0))) {k : Nat} (hk : k < 5) : W.cell? ⟨g, k, none⟩ = some (.int .i64 (Cf.most k)) := by
  have := cells_row (cs := five5) h
  match k, hk with
  | 0, _ => simpa [Cf.most] using this 0 _ rfl
  | 1, _ => simpa [Cf.most] using this 1 _ rfl
  | 2, _ => simpa [Cf.most] using this 2 _ rfl
  | 3, _ => simpa [Cf.most] using this 3 _ rfl
  | 4, _ => simpa [Cf.most] using this 4 _ rfl
set_option maxRecDepth 100000 in
set_option maxHeartbeats 16000000 in
theorem cfirst_walk (w : World) (A0 : Option Addr) (n0 c0 : Nat) (z0 : List Int) (h0 : IsRow .i64 w A0 n0 c0 z0) (wh : Int) (hwh : (Lit.int .i64 wh).wf = true) (nn : Int) (hnn : (Lit.int .i64 nn).wf = true) :
    Calls Try.prog 6 #[.slice A0 n0 c0, .int .i64 wh, .int .i64 nn] w fun e w' => e = .returned (.bool true) ∧ Below w.heap.size w w' := by
  have HFN := Lib.hid (fun t => feed_new (cap := c0) h0.draws t)
  clear h0
  go_enter Try.func6, Try.ntmps6
  go_wp2_with fail
  refine (feedconfig_any (a := 0) 8 (by omega) (by omega) _ (by omega) (HFN.out _)).mono ?_
  rintro e w1 ⟨A, c, x, rfl, hri, hck, hlen, hA, hnil, hf, hk⟩
  have HX := Lib.hid hck
  have hAb := hri.block
  have HB1 := Lib.hid ((new_below w _).trans (hk.below (new_below w _).size (fun k hk e => by omega)))
  have hAf : ∀ ad, A = some ad → x.par.length ≠ 0 → w.heap.size < ad.block ∧ ad.block < w1.heap.size := fun ad e hn => by
    have h1 := hA ad e hn
    have h2 := hAb ad e hn
    rw [World.size_alloc] at h1
    omega
  have HNil := Lib.hid hnil
  have hw1 : w.heap.size < w1.heap.size := hf.lt
  -- t8 := c, t9 := the array
  have hn := new_below w1 (cfbox A x.par.length c x)
  have hn2 := new_below (w1.alloc (cfbox A x.par.length c x)) (.cells five5.toArray 38 (0, 0))
  have hs2 : (w1.alloc (cfbox A x.par.length c x)).heap.size = w1.heap.size + 1 := World.size_alloc _ _
  have HR := Lib.hid ((hri.later hn).later hn2)
  have HB2 := Lib.hid (then_below (then_below HB1.out hn) hn2)
  have HC2 := Lib.hid (below_row hn2 (heap_alloc_new w1 (cfbox A x.par.length c x)))
  have hm2 := heap_alloc_new (w1.alloc (cfbox A x.par.length c x)) (.cells five5.toArray 38 (0, 0))
  rw [hs2] at hm2
  have HM2 := Lib.hid hm2
  have hs3 : ((w1.alloc (cfbox A x.par.length c x)).alloc (.cells five5.toArray 38 (0, 0))).heap.size = w1.heap.size + 2 := by rw [World.size_alloc, hs2]
  clear hck hri hA hnil hf hk hAb hn hn2 hm2 HFN HB1 hs2
  dsimp only [cfbox, cfcells, five5] at HR HB2 HC2 HM2 hs3
  dsimp only [cfv, cfcells]
  go_upto_region 4 with fail
  generalize (w1.alloc _).alloc _ = w2 at HR HB2 HC2 HM2 hs3 ⊢
  generalize w1.heap.size = g8 at hAf hw1 HC2 HM2 hs3 ⊢
  have HAf := Lib.hid hAf
  clear hAf
  have hk0 : 0 ≤ wh % 5 ∧ wh % 5 < 5 := ⟨Int.emod_nonneg _ (by omega), Int.emod_lt_of_pos _ (by omega)⟩
  obtain ⟨k, hk⟩ : ∃ k : Nat, wh % 5 = (k : Int) := ⟨(wh % 5).toNat, by omega⟩
  have hk5 : k < 5 := by omega
  have HK := Lib.hid hk
  clear hk hk0
  go_wp2_with fail
  refine (pick_at (by omega) (by omega) HK.out _).mono ?_
  rintro e w' ⟨rfl, rfl⟩
  go_upto_if 24 with fail
  go_cut [11] (fun s wx => s = .int .i64 (Cf.least k) ∧ w2 = wx)
  case first =>
    by_cases h4 : (k : Int) = 4
    · go_wp2_with fail
      go_meet
      exact ⟨by unfold Cf.least; rw [if_pos (by omega)], rfl⟩
    · go_wp2_with fail
      go_meet
      exact ⟨by unfold Cf.least; rw [if_neg (by omega)], rfl⟩
  case rest =>
  obtain ⟨rfl, rfl⟩ := hcut
  go_upto_region 8 with fail
  go_cut [12] (fun s wx => ∃ v : Int, s = .int .i64 v ∧ Below w2.heap.size w2 wx)
  case first =>
    have hj0 : 0 ≤ nn % 4 ∧ nn % 4 < 4 := ⟨Int.emod_nonneg _ (by omega), Int.emod_lt_of_pos _ (by omega)⟩
    have hm := fun y : Later w2 => later_cell (most_cell HM2.out hk5) y
    have hmw : IntKind.i64.wrap (Cf.most k + 1) = Cf.most k + 1 := IntWalk.i64_in _ (by unfold Cf.most; split <;> (try split) <;> omega)
    have hlw : IntKind.i64.wrap (Cf.least k - 1) = Cf.least k - 1 := IntWalk.i64_in _ (by unfold Cf.least; split <;> omega)
    generalize Cf.most k = mo at hm hmw
    haveI := later_some w2
    rcases (by omega : nn % 4 = 0 ∨ nn % 4 = 1 ∨ nn % 4 = 2 ∨ nn % 4 = 3) with hj | hj | hj | hj
    · refine wp_region_later (W := w2) (by kernel_rfl) (by kernel_rfl) (Below.refl _ _) ?_
      repeat (go_big_quiet_step (first | (go_at_call 13; exact calls_later_same (pick_at (by omega) (by omega) hj _))))
      (go_big_quiet_want; refine quiet_idx 34 _ _ rfl rfl rfl (fun w => (idx4 _ _ _ _ w).1) ?_; go_big_quiet_on; simp only [Act.put, List.setIfInBounds_toArray, List.set_cons_succ, List.set_cons_zero])
      repeat (go_big_quiet_step (fail))
      refine wpQuiet_nil ?_
      rintro _ ⟨y, rfl⟩
      go_wp2_with fail
      go_meet
      exact ⟨_, rfl, y.below⟩
    · refine wp_region_later (W := w2) (by kernel_rfl) (by kernel_rfl) (Below.refl _ _) ?_
      repeat (go_big_quiet_step (first | (go_at_call 13; exact calls_later_same (pick_at (by omega) (by omega) hj _))))
      (go_big_quiet_want; refine quiet_idx 34 _ _ rfl rfl rfl (fun w => (idx4 _ _ _ _ w).2.1) ?_; go_big_quiet_on; simp only [Act.put, List.setIfInBounds_toArray, List.set_cons_succ, List.set_cons_zero])
      repeat (go_big_quiet_step (fail))
      refine wpQuiet_nil ?_
      rintro _ ⟨y, rfl⟩
      go_wp2_with fail
      go_meet
      exact ⟨_, rfl, y.below⟩
    · refine wp_region_later (W := w2) (by kernel_rfl) (by kernel_rfl) (Below.refl _ _) ?_
      repeat (go_big_quiet_step (first | (go_at_call 13; exact calls_later_same (pick_at (by omega) (by omega) hj _))))
      (go_big_quiet_want; refine quiet_idx 34 _ _ rfl rfl rfl (fun w => (idx4 _ _ _ _ w).2.2.1) ?_; go_big_quiet_on; simp only [Act.put, List.setIfInBounds_toArray, List.set_cons_succ, List.set_cons_zero])
      repeat (go_big_quiet_step (fail))
      refine wpQuiet_nil ?_
      rintro _ ⟨y, rfl⟩
      go_wp2_with fail
      go_meet
      exact ⟨_, rfl, y.below⟩
    · refine wp_region_later (W := w2) (by kernel_rfl) (by kernel_rfl) (Below.refl _ _) ?_
      repeat (go_big_quiet_step (first | (go_at_call 13; exact calls_later_same (pick_at (by omega) (by omega) hj _))))
      (go_big_quiet_want; refine quiet_idx 34 _ _ rfl rfl rfl (fun w => (idx4 _ _ _ _ w).2.2.2) ?_; go_big_quiet_on; simp only [Act.put, List.setIfInBounds_toArray, List.set_cons_succ, List.set_cons_zero])
      repeat (go_big_quiet_step (fail))
      refine wpQuiet_nil ?_
      rintro _ ⟨y, rfl⟩
      go_wp2_with fail
      go_meet
      exact ⟨_, rfl, y.below⟩
  case rest =>
  obtain ⟨v, rfl, hb⟩ := hcut
  have HR3 := Lib.hid (HR.out.later hb)
  have HB3 := Lib.hid (then_below HB2.out hb)
  have HC3 := Lib.hid (below_row hb HC2.out)
  have HM3 := Lib.hid (below_row hb HM2.out)
  have hs4 := hb.size
  clear hb HR HB2 HC2 HM2
  generalize wc = w3 at HR3 HB3 HC3 HM3 hs4 ⊢
  go_upto_block 0 with fail
  have h38 : g8 + 1 < w3.heap.size := (Array.getElem?_eq_some_iff.1 HM3.out).1
  go_cut [] (fun wx => wx.heap[g8]? = some (cfbox A x.par.length c (x.put k v)) ∧ Kept (· = g8) w3 wx)
  case first =>
    match k, hk5 with
    | 0, _ =>
      obtain ⟨he1, he2⟩ := set_config (w := w3) (g := g8) (p := 1) (A := A) (n := x.par.length) (c := c) (x := x) (A' := A) (n' := x.par.length) (c' := c) (x' := x.put 0 v) (cs := [.int .i64 v]) rfl HC3.out
      have HE := Lib.hid he1
      have HS := Lib.hid he2
      clear he1 he2
      go_wp2_with (first | (refine wpList_store_part rfl 3 _ _ rfl g8 1 _ [.int .i64 v] rfl rfl rfl 24 (cfcells A x.par.length c x) HC3.out int_size1 (show (2 : Nat) ≤ 6 by decide) (fun u hu => by rw [List.mem_singleton.1 hu]; rfl) ?_; generalize World.setRow w3 _ _ = w4 at HE HS ⊢))
      go_meet
      exact ⟨HE.out, HS.out⟩
    | 1, _ =>
      obtain ⟨he1, he2⟩ := set_config (w := w3) (g := g8) (p := 2) (A := A) (n := x.par.length) (c := c) (x := x) (A' := A) (n' := x.par.length) (c' := c) (x' := x.put 1 v) (cs := [.int .i64 v]) rfl HC3.out
      have HE := Lib.hid he1
      have HS := Lib.hid he2
      clear he1 he2
      go_wp2_with (first | (refine wpList_store_part rfl 3 _ _ rfl g8 2 _ [.int .i64 v] rfl rfl rfl 24 (cfcells A x.par.length c x) HC3.out int_size1 (show (3 : Nat) ≤ 6 by decide) (fun u hu => by rw [List.mem_singleton.1 hu]; rfl) ?_; generalize World.setRow w3 _ _ = w4 at HE HS ⊢))
      go_meet
      exact ⟨HE.out, HS.out⟩
    | 2, _ =>
      obtain ⟨he1, he2⟩ := set_config (w := w3) (g := g8) (p := 3) (A := A) (n := x.par.length) (c := c) (x := x) (A' := A) (n' := x.par.length) (c' := c) (x' := x.put 2 v) (cs := [.int .i64 v]) rfl HC3.out
      have HE := Lib.hid he1
      have HS := Lib.hid he2
      clear he1 he2
      go_wp2_with (first | (refine wpList_store_part rfl 3 _ _ rfl g8 3 _ [.int .i64 v] rfl rfl rfl 24 (cfcells A x.par.length c x) HC3.out int_size1 (show (4 : Nat) ≤ 6 by decide) (fun u hu => by rw [List.mem_singleton.1 hu]; rfl) ?_; generalize World.setRow w3 _ _ = w4 at HE HS ⊢))
      go_meet
      exact ⟨HE.out, HS.out⟩
    | 3, _ =>
      obtain ⟨he1, he2⟩ := set_config (w := w3) (g := g8) (p := 4) (A := A) (n := x.par.length) (c := c) (x := x) (A' := A) (n' := x.par.length) (c' := c) (x' := x.put 3 v) (cs := [.int .i64 v]) rfl HC3.out
      have HE := Lib.hid he1
      have HS := Lib.hid he2
      clear he1 he2
      go_wp2_with (first | (refine wpList_store_part rfl 3 _ _ rfl g8 4 _ [.int .i64 v] rfl rfl rfl 24 (cfcells A x.par.length c x) HC3.out int_size1 (show (5 : Nat) ≤ 6 by decide) (fun u hu => by rw [List.mem_singleton.1 hu]; rfl) ?_; generalize World.setRow w3 _ _ = w4 at HE HS ⊢))
      go_meet
      exact ⟨HE.out, HS.out⟩
    | 4, _ =>
      obtain ⟨he1, he2⟩ := set_config (w := w3) (g := g8) (p := 5) (A := A) (n := x.par.length) (c := c) (x := x) (A' := A) (n' := x.par.length) (c' := c) (x' := x.put 4 v) (cs := [.int .i64 v]) rfl HC3.out
      have HE := Lib.hid he1
      have HS := Lib.hid he2
      clear he1 he2
      go_wp2_with (first | (refine wpList_store_part rfl 3 _ _ rfl g8 5 _ [.int .i64 v] rfl rfl rfl 24 (cfcells A x.par.length c x) HC3.out int_size1 (show (6 : Nat) ≤ 6 by decide) (fun u hu => by rw [List.mem_singleton.1 hu]; rfl) ?_; generalize World.setRow w3 _ _ = w4 at HE HS ⊢))
      go_meet
      exact ⟨HE.out, HS.out⟩
  case rest =>
  obtain ⟨hc4, hk4⟩ := hcut
  have HY := Lib.hid (Cf.put_check HX.out hk5 v)
  have HYP := Lib.hid (Cf.put_par x k v)
  have HC4 := Lib.hid hc4
  have HM4 := Lib.hid (hk4.rowc HM3.out (by show ¬ g8 + 1 = g8; omega))
  have HR4 := Lib.hid (HR3.out.keep hk4 (fun ad e hn e2 => by have := HAf.out ad e hn; have e2 : ad.block = g8 := e2; omega))
  have HB4 := Lib.hid (HB3.out.trans (hk4.below (by omega) (fun i hi e => by have e : i = g8 := e; omega)))
  have hs5 := hk4.size
  clear hc4 hk4 HR3 HB3 HC3 HM3
  generalize wc = w4 at HC4 HM4 HR4 HB4 hs5 ⊢
  generalize x.put k v = y at HY HYP HC4
  go_upto_region 20 with fail
  go_cut [67] (fun s wx => s = .bool (decide (Cf.want k v = 1)) ∧ w4 = wx)
  case first =>
    have hm := most_cell HM4.out hk5
    rcases Cf.want_ways k v with ⟨e1, h1, h2⟩ | ⟨e1, h1⟩
    · go_wp2_with fail
      go_meet
      exact ⟨by rw [e1]; rfl, rfl⟩
    · by_cases h2 : v < Cf.least k
      · go_wp2_with fail
        go_meet
        exact ⟨by rw [e1]; rfl, rfl⟩
      · have h3 : v > Cf.most k := h1.resolve_left h2
        go_wp2_with fail
        go_meet
        exact ⟨by rw [e1]; rfl, rfl⟩
  case rest =>
  obtain ⟨rfl, rfl⟩ := hcut
  go_upto_if 67 with fail
  go_cut [13] (fun s wx => s = .int .i64 (Cf.want k v) ∧ w4 = wx)
  case first =>
    rcases Cf.want_ways k v with ⟨e1, -⟩ | ⟨e1, -⟩
    · have e2 : decide (Cf.want k v = 1) = false := by rw [e1]; rfl
      go_wp2_with fail
      go_meet
      exact ⟨by rw [e1], rfl⟩
    · have e2 : decide (Cf.want k v = 1) = true := by rw [e1]; rfl
      go_wp2_with fail
      go_meet
      exact ⟨by rw [e1], rfl⟩
  case rest =>
  obtain ⟨rfl, rfl⟩ := hcut
  have hyn : y.par.length = x.par.length := by rw [HYP.out]
  have HRy : Hid (Ri w4 A x.par.length y.par) := Lib.hid (HYP.out.symm ▸ HR4.out)
  have hww := Cf.want_ways k v
  generalize Cf.want k v = wt at HY hww ⊢
  clear HR4 HYP HM4 HX HK
  generalize x.par.length = n at hlen HNil HAf HC4 hyn HRy
  clear hs3
  have p0 := cfbox_cells (A := A) (n := n) (c := c) (x := y) HC4.out 0 _ rfl
  have p1 := cfbox_cells (A := A) (n := n) (c := c) (x := y) HC4.out 1 _ rfl
  have p2 := cfbox_cells (A := A) (n := n) (c := c) (x := y) HC4.out 2 _ rfl
  have p3 := cfbox_cells (A := A) (n := n) (c := c) (x := y) HC4.out 3 _ rfl
  have p4 := cfbox_cells (A := A) (n := n) (c := c) (x := y) HC4.out 4 _ rfl
  have p5 := cfbox_cells (A := A) (n := n) (c := c) (x := y) HC4.out 5 _ rfl
  simp only [Nat.zero_add] at p0 p1 p2 p3 p4 p5
  go_upto_region 23 with fail
  -- d := c
  have hn := new_below w4 (cfbox A n c y)
  have HR := Lib.hid (HRy.out.later hn)
  have HB5 := Lib.hid (then_below HB4.out hn)
  have HC5 := Lib.hid (below_row hn HC4.out)
  have HD5 := Lib.hid (heap_alloc_new w4 (cfbox A n c y))
  have hs6 : (w4.alloc (cfbox A n c y)).heap.size = w4.heap.size + 1 := World.size_alloc _ _
  clear hn HRy HB4 HC4 p0 p1 p2 p3 p4 p5
  dsimp only [cfbox, cfcells] at HR HB5 HC5 HD5 hs6
  generalize w4.alloc _ = W at HR HB5 HC5 HD5 hs6 ⊢
  generalize w4.heap.size = gd at HD5 hs6 hs5 ⊢
  have h45 : g8 < gd := by omega
  have hbw : w.heap.size < W.heap.size := by omega
  have hg5 : gd < W.heap.size := by omega
  clear hs6 hs5 hs4 h38
  have hwp : IntKind.i64.wrap ((n : Int) + 1) = (n : Int) + 1 := IntWalk.i64_in _ (by omega)
  have HAne : Hid (∀ ad, A = some ad → n ≠ 0 → ad.block ≠ w.heap.size) := Lib.hid fun ad e hn => by have := HAf.out ad e hn; omega
  go_cut [] (fun wx => Grown W w.heap.size gd A n c y ((n : Int) + 1) wx)
  case first =>
    have HP := Lib.hid (cfbox_cells (A := A) (n := n) (c := c) (x := y) HC5.out 0 _ rfl)
    refine held_begin (fun z => Kept (fun i => i = w.heap.size ∨ i = gd ∨ W.heap.size ≤ i) W z) (by kernel_rfl) ?_
    have HG := Lib.hid (Gs.start (W := W) (b := w.heap.size) hbw)
    generalize W.drew = zd at HG ⊢
    refine held_read (i := 1) (o := { dst := some 70, op := Op.fieldAddr 24 (Operand.tmp 8) 0, type := 0, pos := "law.go:102", after := #[], guard := none }) (v := ?_) rfl (by kernel_rfl) (by kernel_rfl) (by kernel_rfl) (fun _ _ _ h => h) (by rfl) (kept3 HG.out.keep) ?_ ?_
    rotate_left
    · (intro x hx; have e1 := kept_read3 hx HP.out (by show ¬ g8 = w.heap.size; omega) (by show ¬ g8 = gd; omega); go_simp; try with_reducible rfl)
    try simp only [Act.put, List.setIfInBounds_toArray, List.set_cons_zero, List.set_cons_succ]
    refine held_read (i := 2) (o := { dst := some 71, op := Op.load 22 (Operand.tmp 70), type := 22, pos := "law.go:102", after := #[{ on := 1, ground := Ground.data }], guard := none }) (v := ?_) rfl (by kernel_rfl) (by kernel_rfl) (by kernel_rfl) (fun _ _ _ h => h) (by rfl) (kept3 HG.out.keep) ?_ ?_
    rotate_left
    · (intro x hx; have e1 := kept_read3 hx HP.out (by show ¬ g8 = w.heap.size; omega) (by show ¬ g8 = gd; omega); go_simp; try with_reducible rfl)
    try simp only [Act.put, List.setIfInBounds_toArray, List.set_cons_zero, List.set_cons_succ]
    refine held_read (i := 4) (o := { dst := some 73, op := Op.fieldAddr 24 (Operand.tmp 8) 0, type := 0, pos := "law.go:102", after := #[], guard := none }) (v := ?_) rfl (by kernel_rfl) (by kernel_rfl) (by kernel_rfl) (fun _ _ _ h => h) (by rfl) (kept3 HG.out.keep) ?_ ?_
    rotate_left
    · (intro x hx; have e1 := kept_read3 hx HP.out (by show ¬ g8 = w.heap.size; omega) (by show ¬ g8 = gd; omega); go_simp; try with_reducible rfl)
    try simp only [Act.put, List.setIfInBounds_toArray, List.set_cons_zero, List.set_cons_succ]
    refine held_read (i := 5) (o := { dst := some 74, op := Op.load 22 (Operand.tmp 73), type := 22, pos := "law.go:102", after := #[{ on := 4, ground := Ground.data }], guard := none }) (v := ?_) rfl (by kernel_rfl) (by kernel_rfl) (by kernel_rfl) (fun _ _ _ h => h) (by rfl) (kept3 HG.out.keep) ?_ ?_
    rotate_left
    · (intro x hx; have e1 := kept_read3 hx HP.out (by show ¬ g8 = w.heap.size; omega) (by show ¬ g8 = gd; omega); go_simp; try with_reducible rfl)
    try simp only [Act.put, List.setIfInBounds_toArray, List.set_cons_zero, List.set_cons_succ]
    refine held_read (i := 6) (o := { dst := some 75, op := Op.call { callee := Callee.builtin Builtin.len, args := #[Operand.tmp 74], argTypes := #[22] }, type := 3, pos := "law.go:102", after := #[{ on := 5, ground := Ground.data }], guard := none }) (v := ?_) rfl (by kernel_rfl) (by kernel_rfl) (by kernel_rfl) (fun _ _ _ h => h) (by rfl) (kept3 HG.out.keep) ?_ ?_
    rotate_left
    · (intro x hx; have e1 := kept_read3 hx HP.out (by show ¬ g8 = w.heap.size; omega) (by show ¬ g8 = gd; omega); go_simp; try with_reducible rfl)
    try simp only [Act.put, List.setIfInBounds_toArray, List.set_cons_zero, List.set_cons_succ]
    refine held_read (i := 7) (o := { dst := some 76, op := Op.binOp BinOp.add 3 (Operand.tmp 75) (Operand.const (Value.int IntKind.i64 1)) 3, type := 3, pos := "law.go:102", after := #[{ on := 6, ground := Ground.data }], guard := none }) (v := ?_) rfl (by kernel_rfl) (by kernel_rfl) (by kernel_rfl) (fun _ _ _ h => h) (by rfl) (kept3 HG.out.keep) ?_ ?_
    rotate_left
    · (intro x hx; have e1 := kept_read3 hx HP.out (by show ¬ g8 = w.heap.size; omega) (by show ¬ g8 = gd; omega); go_simp; try with_reducible rfl)
    try simp only [Act.put, List.setIfInBounds_toArray, List.set_cons_zero, List.set_cons_succ]
    refine held_two (i := 0) (j := 8) (o := { dst := some 69, op := Op.buildSlice 22 0 #[], type := 22, pos := "law.go:102", after := #[], guard := none }) (p := { dst := some 77, op := Op.buildSlice 22 1 #[(0, Operand.tmp 76)], type := 22, pos := "law.go:102", after := #[{ on := 7, ground := Ground.data }], guard := none }) rfl rfl (by kernel_rfl) (by rfl) (by rfl) (fun K hK => ?_) (fun K hK => ?_)
    · skip
      go_simp
      replace HG := Lib.hid HG.out.new0
      refine hK.out _ _ (kept3 HG.out.keep) ?_
      clear hK K
      generalize World.alloc _ (.cells #[] 3) = z0 at HG ⊢
      try simp only [Act.put, List.setIfInBounds_toArray, List.set_cons_zero, List.set_cons_succ]
      refine held_two (i := 3) (j := 8) (o := { dst := some 72, op := Op.call { callee := Callee.builtin Builtin.append, args := #[Operand.tmp 69, Operand.tmp 71], argTypes := #[22, 22] }, type := 22, pos := "law.go:102", after := #[{ on := 0, ground := Ground.data }, { on := 2, ground := Ground.data }], guard := none }) (p := { dst := some 77, op := Op.buildSlice 22 1 #[(0, Operand.tmp 76)], type := 22, pos := "law.go:102", after := #[{ on := 7, ground := Ground.data }], guard := none }) rfl rfl (by kernel_rfl) (by rfl) (by rfl) (fun K hK => ?_) (fun K hK => ?_)
      · skip
        refine step_owni_row _ _ rfl W.heap.size _ _ rfl (HG.out.row _ _ rfl) A n c rfl HNil.out y.par (HG.out.ri HR.out HAne.out) (by simp; omega) ?_
        intro v1 z1 hv1 hk1 hl1
        replace HG := Lib.hid (HG.out.grow hv1 hk1 hl1)
        refine hK.out _ _ (kept3 HG.out.keep) ?_
        clear hK K hv1 hk1 hl1
        try simp only [Act.put, List.setIfInBounds_toArray, List.set_cons_zero, List.set_cons_succ]
        refine held_call (i := 8) (o := { dst := some 77, op := Op.buildSlice 22 1 #[(0, Operand.tmp 76)], type := 22, pos := "law.go:102", after := #[{ on := 7, ground := Ground.data }], guard := none }) rfl (by kernel_rfl) (by rfl) (fun K hK => ?_)
        go_simp
        replace HG := Lib.hid (HG.out.newu ((n : Int) + 1))
        refine hK.out _ _ (kept3 HG.out.keep) ?_
        clear hK K
        generalize World.alloc _ (.cells #[.int .i64 ((n : Int) + 1)] 3) = z8 at HG ⊢
        try simp only [Act.put, List.setIfInBounds_toArray, List.set_cons_zero, List.set_cons_succ]
        refine held_call (i := 9) (o := { dst := some 78, op := Op.call { callee := Callee.builtin Builtin.append, args := #[Operand.tmp 72, Operand.tmp 77], argTypes := #[22, 22] }, type := 22, pos := "law.go:102", after := #[{ on := 3, ground := Ground.data }, { on := 8, ground := Ground.data }, { on := 3, ground := Ground.chain }], guard := none }) rfl (by kernel_rfl) (by rfl) (fun K hK => ?_)
        refine step_owni_row _ _ rfl W.heap.size _ _ rfl (HG.out.row _ _ rfl) _ 1 1 rfl (fun h => by cases h) [((n : Int) + 1)] (HG.out.one _ _ rfl).2 (by simp; omega) ?_
        intro v3 z3 hv3 hk3 hl3
        replace HG := Lib.hid (HG.out.grow hv3 hk3 hl3)
        refine hK.out _ _ (kept3 HG.out.keep) ?_
        clear hK K hv3 hk3 hl3
        try simp only [Act.put, List.setIfInBounds_toArray, List.set_cons_zero, List.set_cons_succ]
        refine held_read (i := 10) (o := { dst := some 79, op := Op.fieldAddr 24 (Operand.tmp 14) 0, type := 0, pos := "law.go:102", after := #[{ on := 0, ground := Ground.phase }, { on := 1, ground := Ground.phase }, { on := 2, ground := Ground.phase }, { on := 3, ground := Ground.phase }, { on := 4, ground := Ground.phase }, { on := 5, ground := Ground.phase }, { on := 6, ground := Ground.phase }, { on := 7, ground := Ground.phase }, { on := 8, ground := Ground.phase }, { on := 9, ground := Ground.phase }], guard := none }) (v := ?_) rfl (by kernel_rfl) (by kernel_rfl) (by kernel_rfl) (fun _ _ _ h => h) (by rfl) (kept3 HG.out.keep) ?_ ?_
        rotate_left
        · (intro x hx; have e1 := kept_read3 hx HP.out (by show ¬ g8 = w.heap.size; omega) (by show ¬ g8 = gd; omega); go_simp; try with_reducible rfl)
        try simp only [Act.put, List.setIfInBounds_toArray, List.set_cons_zero, List.set_cons_succ]
        refine held_call (i := 11) (o := { dst := none, op := Op.store 22 (Operand.tmp 79) (Operand.tmp 78), type := 0, pos := "law.go:102", after := #[{ on := 10, ground := Ground.data }, { on := 9, ground := Ground.data }, { on := 9, ground := Ground.chain }, { on := 0, ground := Ground.phase }, { on := 1, ground := Ground.phase }, { on := 2, ground := Ground.phase }, { on := 3, ground := Ground.phase }, { on := 4, ground := Ground.phase }, { on := 5, ground := Ground.phase }, { on := 6, ground := Ground.phase }, { on := 7, ground := Ground.phase }, { on := 8, ground := Ground.phase }, { on := 9, ground := Ground.phase }], guard := none }) rfl (by kernel_rfl) (by rfl) (fun K hK => ?_)
        obtain ⟨A2, c2, rfl, -, -, -⟩ := (HG.out.row _ _ rfl).reads
        have hEND := HG.out.done hyn HD5.out (by omega) rfl
        refine step_store_part 22 _ _ rfl gd 0 _ [.slice A2 (([] ++ y.par) ++ [((n : Int) + 1)]).length c2] rfl rfl rfl 24 (cfcells A n c y) (HG.out.keep.rowc HD5.out (fun e => by rcases e with e | e <;> omega)) sl_size1 (show (1 : Nat) ≤ 6 by decide) (fun u hu => by rw [List.mem_singleton.1 hu]; rfl) ?_
        refine hK.out _ _ (by obtain ⟨-, A3, c3, -, -, hk⟩ := hEND; exact hk) ?_
        clear hK K
        generalize World.setRow _ gd _ = z9 at hEND ⊢
        try simp only [Act.put]
        refine wpAnyH_done (by kernel_rfl) ?_ _
        go_wp2_with fail
        go_meet
        exact hEND.2
      · skip
        go_simp
        replace HG := Lib.hid (HG.out.newu ((n : Int) + 1))
        refine hK.out _ _ (kept3 HG.out.keep) ?_
        clear hK K
        generalize World.alloc _ (.cells #[.int .i64 ((n : Int) + 1)] 3) = z8 at HG ⊢
        try simp only [Act.put, List.setIfInBounds_toArray, List.set_cons_zero, List.set_cons_succ]
        refine held_call (i := 3) (o := { dst := some 72, op := Op.call { callee := Callee.builtin Builtin.append, args := #[Operand.tmp 69, Operand.tmp 71], argTypes := #[22, 22] }, type := 22, pos := "law.go:102", after := #[{ on := 0, ground := Ground.data }, { on := 2, ground := Ground.data }], guard := none }) rfl (by kernel_rfl) (by rfl) (fun K hK => ?_)
        refine step_owni_row _ _ rfl W.heap.size _ _ rfl (HG.out.row _ _ rfl) A n c rfl HNil.out y.par (HG.out.ri HR.out HAne.out) (by simp; omega) ?_
        intro v1 z1 hv1 hk1 hl1
        replace HG := Lib.hid (HG.out.grow hv1 hk1 hl1)
        refine hK.out _ _ (kept3 HG.out.keep) ?_
        clear hK K hv1 hk1 hl1
        try simp only [Act.put, List.setIfInBounds_toArray, List.set_cons_zero, List.set_cons_succ]
        refine held_call (i := 9) (o := { dst := some 78, op := Op.call { callee := Callee.builtin Builtin.append, args := #[Operand.tmp 72, Operand.tmp 77], argTypes := #[22, 22] }, type := 22, pos := "law.go:102", after := #[{ on := 3, ground := Ground.data }, { on := 8, ground := Ground.data }, { on := 3, ground := Ground.chain }], guard := none }) rfl (by kernel_rfl) (by rfl) (fun K hK => ?_)
        refine step_owni_row _ _ rfl W.heap.size _ _ rfl (HG.out.row _ _ rfl) _ 1 1 rfl (fun h => by cases h) [((n : Int) + 1)] (HG.out.one _ _ rfl).2 (by simp; omega) ?_
        intro v3 z3 hv3 hk3 hl3
        replace HG := Lib.hid (HG.out.grow hv3 hk3 hl3)
        refine hK.out _ _ (kept3 HG.out.keep) ?_
        clear hK K hv3 hk3 hl3
        try simp only [Act.put, List.setIfInBounds_toArray, List.set_cons_zero, List.set_cons_succ]
        refine held_read (i := 10) (o := { dst := some 79, op := Op.fieldAddr 24 (Operand.tmp 14) 0, type := 0, pos := "law.go:102", after := #[{ on := 0, ground := Ground.phase }, { on := 1, ground := Ground.phase }, { on := 2, ground := Ground.phase }, { on := 3, ground := Ground.phase }, { on := 4, ground := Ground.phase }, { on := 5, ground := Ground.phase }, { on := 6, ground := Ground.phase }, { on := 7, ground := Ground.phase }, { on := 8, ground := Ground.phase }, { on := 9, ground := Ground.phase }], guard := none }) (v := ?_) rfl (by kernel_rfl) (by kernel_rfl) (by kernel_rfl) (fun _ _ _ h => h) (by rfl) (kept3 HG.out.keep) ?_ ?_
        rotate_left
        · (intro x hx; have e1 := kept_read3 hx HP.out (by show ¬ g8 = w.heap.size; omega) (by show ¬ g8 = gd; omega); go_simp; try with_reducible rfl)
        try simp only [Act.put, List.setIfInBounds_toArray, List.set_cons_zero, List.set_cons_succ]
        refine held_call (i := 11) (o := { dst := none, op := Op.store 22 (Operand.tmp 79) (Operand.tmp 78), type := 0, pos := "law.go:102", after := #[{ on := 10, ground := Ground.data }, { on := 9, ground := Ground.data }, { on := 9, ground := Ground.chain }, { on := 0, ground := Ground.phase }, { on := 1, ground := Ground.phase }, { on := 2, ground := Ground.phase }, { on := 3, ground := Ground.phase }, { on := 4, ground := Ground.phase }, { on := 5, ground := Ground.phase }, { on := 6, ground := Ground.phase }, { on := 7, ground := Ground.phase }, { on := 8, ground := Ground.phase }, { on := 9, ground := Ground.phase }], guard := none }) rfl (by kernel_rfl) (by rfl) (fun K hK => ?_)
        obtain ⟨A2, c2, rfl, -, -, -⟩ := (HG.out.row _ _ rfl).reads
        have hEND := HG.out.done hyn HD5.out (by omega) rfl
        refine step_store_part 22 _ _ rfl gd 0 _ [.slice A2 (([] ++ y.par) ++ [((n : Int) + 1)]).length c2] rfl rfl rfl 24 (cfcells A n c y) (HG.out.keep.rowc HD5.out (fun e => by rcases e with e | e <;> omega)) sl_size1 (show (1 : Nat) ≤ 6 by decide) (fun u hu => by rw [List.mem_singleton.1 hu]; rfl) ?_
        refine hK.out _ _ (by obtain ⟨-, A3, c3, -, -, hk⟩ := hEND; exact hk) ?_
        clear hK K
        generalize World.setRow _ gd _ = z9 at hEND ⊢
        try simp only [Act.put]
        refine wpAnyH_done (by kernel_rfl) ?_ _
        go_wp2_with fail
        go_meet
        exact hEND.2
    · skip
      go_simp
      replace HG := Lib.hid (HG.out.newu ((n : Int) + 1))
      refine hK.out _ _ (kept3 HG.out.keep) ?_
      clear hK K
      generalize World.alloc _ (.cells #[.int .i64 ((n : Int) + 1)] 3) = z8 at HG ⊢
      try simp only [Act.put, List.setIfInBounds_toArray, List.set_cons_zero, List.set_cons_succ]
      refine held_call (i := 0) (o := { dst := some 69, op := Op.buildSlice 22 0 #[], type := 22, pos := "law.go:102", after := #[], guard := none }) rfl (by kernel_rfl) (by rfl) (fun K hK => ?_)
      go_simp
      replace HG := Lib.hid HG.out.new0
      refine hK.out _ _ (kept3 HG.out.keep) ?_
      clear hK K
      generalize World.alloc _ (.cells #[] 3) = z0 at HG ⊢
      try simp only [Act.put, List.setIfInBounds_toArray, List.set_cons_zero, List.set_cons_succ]
      refine held_call (i := 3) (o := { dst := some 72, op := Op.call { callee := Callee.builtin Builtin.append, args := #[Operand.tmp 69, Operand.tmp 71], argTypes := #[22, 22] }, type := 22, pos := "law.go:102", after := #[{ on := 0, ground := Ground.data }, { on := 2, ground := Ground.data }], guard := none }) rfl (by kernel_rfl) (by rfl) (fun K hK => ?_)
      refine step_owni_row _ _ rfl W.heap.size _ _ rfl (HG.out.row _ _ rfl) A n c rfl HNil.out y.par (HG.out.ri HR.out HAne.out) (by simp; omega) ?_
      intro v1 z1 hv1 hk1 hl1
      replace HG := Lib.hid (HG.out.grow hv1 hk1 hl1)
      refine hK.out _ _ (kept3 HG.out.keep) ?_
      clear hK K hv1 hk1 hl1
      try simp only [Act.put, List.setIfInBounds_toArray, List.set_cons_zero, List.set_cons_succ]
      refine held_call (i := 9) (o := { dst := some 78, op := Op.call { callee := Callee.builtin Builtin.append, args := #[Operand.tmp 72, Operand.tmp 77], argTypes := #[22, 22] }, type := 22, pos := "law.go:102", after := #[{ on := 3, ground := Ground.data }, { on := 8, ground := Ground.data }, { on := 3, ground := Ground.chain }], guard := none }) rfl (by kernel_rfl) (by rfl) (fun K hK => ?_)
      refine step_owni_row _ _ rfl W.heap.size _ _ rfl (HG.out.row _ _ rfl) _ 1 1 rfl (fun h => by cases h) [((n : Int) + 1)] (HG.out.one _ _ rfl).2 (by simp; omega) ?_
      intro v3 z3 hv3 hk3 hl3
      replace HG := Lib.hid (HG.out.grow hv3 hk3 hl3)
      refine hK.out _ _ (kept3 HG.out.keep) ?_
      clear hK K hv3 hk3 hl3
      try simp only [Act.put, List.setIfInBounds_toArray, List.set_cons_zero, List.set_cons_succ]
      refine held_read (i := 10) (o := { dst := some 79, op := Op.fieldAddr 24 (Operand.tmp 14) 0, type := 0, pos := "law.go:102", after := #[{ on := 0, ground := Ground.phase }, { on := 1, ground := Ground.phase }, { on := 2, ground := Ground.phase }, { on := 3, ground := Ground.phase }, { on := 4, ground := Ground.phase }, { on := 5, ground := Ground.phase }, { on := 6, ground := Ground.phase }, { on := 7, ground := Ground.phase }, { on := 8, ground := Ground.phase }, { on := 9, ground := Ground.phase }], guard := none }) (v := ?_) rfl (by kernel_rfl) (by kernel_rfl) (by kernel_rfl) (fun _ _ _ h => h) (by rfl) (kept3 HG.out.keep) ?_ ?_
      rotate_left
      · (intro x hx; have e1 := kept_read3 hx HP.out (by show ¬ g8 = w.heap.size; omega) (by show ¬ g8 = gd; omega); go_simp; try with_reducible rfl)
      try simp only [Act.put, List.setIfInBounds_toArray, List.set_cons_zero, List.set_cons_succ]
      refine held_call (i := 11) (o := { dst := none, op := Op.store 22 (Operand.tmp 79) (Operand.tmp 78), type := 0, pos := "law.go:102", after := #[{ on := 10, ground := Ground.data }, { on := 9, ground := Ground.data }, { on := 9, ground := Ground.chain }, { on := 0, ground := Ground.phase }, { on := 1, ground := Ground.phase }, { on := 2, ground := Ground.phase }, { on := 3, ground := Ground.phase }, { on := 4, ground := Ground.phase }, { on := 5, ground := Ground.phase }, { on := 6, ground := Ground.phase }, { on := 7, ground := Ground.phase }, { on := 8, ground := Ground.phase }, { on := 9, ground := Ground.phase }], guard := none }) rfl (by kernel_rfl) (by rfl) (fun K hK => ?_)
      obtain ⟨A2, c2, rfl, -, -, -⟩ := (HG.out.row _ _ rfl).reads
      have hEND := HG.out.done hyn HD5.out (by omega) rfl
      refine step_store_part 22 _ _ rfl gd 0 _ [.slice A2 (([] ++ y.par) ++ [((n : Int) + 1)]).length c2] rfl rfl rfl 24 (cfcells A n c y) (HG.out.keep.rowc HD5.out (fun e => by rcases e with e | e <;> omega)) sl_size1 (show (1 : Nat) ≤ 6 by decide) (fun u hu => by rw [List.mem_singleton.1 hu]; rfl) ?_
      refine hK.out _ _ (by obtain ⟨-, A3, c3, -, -, hk⟩ := hEND; exact hk) ?_
      clear hK K
      generalize World.setRow _ gd _ = z9 at hEND ⊢
      try simp only [Act.put]
      refine wpAnyH_done (by kernel_rfl) ?_ _
      go_wp2_with fail
      go_meet
      exact hEND.2
  case rest =>
  obtain ⟨A2, c2, hd5, hr5, hk5⟩ := hcut
  have hD := Cf.check_none (x := y) (y := y.wth (y.par ++ [(n : Int) + 1])) (u := (n : Int) + 1) (by rw [hyn]) rfl
  have HD := Lib.hid hd5
  have HRd := Lib.hid hr5
  have HC := Lib.hid (hk5.rowc HC5.out (fun e => by rcases e with e | e | e <;> omega))
  have HRc := Lib.hid (HR.out.keep hk5 (fun ad e hn e2 => by have := HAf.out ad e hn; rcases e2 with e2 | e2 | e2 <;> omega))
  have HB := Lib.hid (HB5.out.trans (hk5.below (Nat.le_of_lt hbw) (fun k hk e => by rcases e with e | e | e <;> omega)))
  have HDK := Lib.hid hD
  clear hd5 hr5 hk5 HC5 HD5 HR HB5 HAne hD
  generalize wc = w6 at HD HRd HC HRc HB ⊢
  obtain ⟨q0, q1, q2, q3, q4, q5⟩ := six_later (A := A) (n := n) (c := c) (x := y) HC.out
  obtain ⟨r0, r1, r2, r3, r4, r5⟩ := six_later (A := A2) (n := n + 1) (c := c2) (x := y.wth (y.par ++ [(n : Int) + 1])) HD.out
  haveI := later_some w6
  rcases hww with ⟨rfl, -⟩ | ⟨rfl, -⟩
  · have HBR := Lib.hid (Cf.brokers_of HY.out)
    rw [hyn] at HBR
    have hpos : decide ((n : Int) + 1 > 0) = true := decide_eq_true (by omega)
    have hpos' : (n : Int) + 1 > 0 := by omega
    go_upto_region 24 with fail
    refine wp_plain_later (W := w6) (Below.refl _ _) ?_
    repeat (go_big_quiet_step (fail))
    go_big_quiet_step (first | (go_at_call 14; exact calls_later (cknown _)))
    repeat (go_big_quiet_step (fail))
    go_big_quiet_step (first | (go_at_call 7; exact check_l (x := y) HRc.out (by omega) HY.out _))
    repeat (go_big_quiet_step (fail))
    go_big_quiet_step (first | (go_at_call 7; exact check_l (x := y.wth (y.par ++ [(n : Int) + 1])) HRd.out (by omega) HDK.out _))
    repeat (go_big_quiet_step (fail))
    go_big_quiet_step (first | (go_at_call 9; exact brokers_l (x := y) HRc.out (by omega) HBR.out _))
    repeat (go_big_quiet_step (fail))
    refine wpQuiet_nil ?_
    rintro _ ⟨z, rfl⟩
    have HB9 := Lib.hid (then_below HB.out z.below)
    go_wp2_with fail
    go_ret
    exact ⟨rfl, HB9.out⟩
  · have HBR : Hid (y.brokers = 0) := Lib.hid (if_neg (by rw [HY.out]; omega))
    go_upto_region 24 with fail
    refine wp_plain_later (W := w6) (Below.refl _ _) ?_
    repeat (go_big_quiet_step (fail))
    go_big_quiet_step (first | (go_at_call 14; exact calls_later (cknown _)))
    repeat (go_big_quiet_step (fail))
    go_big_quiet_step (first | (go_at_call 7; exact check_l (x := y) HRc.out (by omega) HY.out _))
    repeat (go_big_quiet_step (fail))
    go_big_quiet_step (first | (go_at_call 7; exact check_l (x := y.wth (y.par ++ [(n : Int) + 1])) HRd.out (by omega) HDK.out _))
    repeat (go_big_quiet_step (fail))
    go_big_quiet_step (first | (go_at_call 9; exact brokers_l (x := y) HRc.out (by omega) HBR.out _))
    repeat (go_big_quiet_step (fail))
    refine wpQuiet_nil ?_
    rintro _ ⟨z, rfl⟩
    have HB9 := Lib.hid (then_below HB.out z.below)
    go_wp2_with fail
    go_ret
    exact ⟨rfl, HB9.out⟩
end Go.Proofs.Ytegkphbnedbgfaa
