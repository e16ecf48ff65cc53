
/- ConfigTells: of any config, right or not, the landed answers are the document's. -/
import Derived.Test.YtegkphbnedbgfaaCfgFirst
import Derived.Test.YtegkphbnedbgfaaOpenCfg
import Derived.Test.YtegkphbnedbgfaaTreeFrom
namespace Go.Proofs.Ytegkphbnedbgfaa
open Go.RowKit
set_option linter.unusedVariables false

theorem wpList_idx {w : World} {ops : Array Oper} {rest : List Oper} {o : Oper} {a : Act} {Q : Exit → Act → World → Prop} (hgd : o.guard = none) (ty : TypeId) (x i : Operand) (ho : o.op = .index ty x i) {u j v : Value} (hx : a.eval x = u) (hi : a.eval i = j) (hv : (Instr.index ty u j).run Try.prog w = .ok v w) (h : wpList Try.prog ops Q rest (a.put o.dst v) w) : wpList Try.prog ops Q (o :: rest) a w :=
  wpList_plain hgd fun _ hK => by
    unfold Oper.wp execOp
    simp only [ho, hx, hi, Sem.run_bind, Sem.run_pure, Result.andThen_ok, hv]
    exact hK _ _ h
theorem Gs.sl {W z : World} {b : Nat} {v : Value} {l : List Int} {u : Int} {U : Option (Nat × Int)} (h : Gs W b z (some (v, ([] ++ l) ++ [u])) U) : ∃ A c, v = .slice A (l.length + 1) c := by
  obtain ⟨A, c, e, -⟩ := (h.row _ _ rfl).reads
  exact ⟨A, c, by rw [e]; simp⟩
/-- What is asked of at the end: some config, in t10's block. -/
def Asked (w : World) (gt : Nat) (wx : World) : Prop := ∃ (A : Option Addr) (n c : Nat) (x : Cf), wx.heap[gt]? = some (cfbox A n c x) ∧ Ri wx A n x.par ∧ n ≤ 10 ∧ Below w.heap.size w wx
theorem Gs.start' {W : World} {b : Nat} (hb : b < W.heap.size) : Gs W b W none none :=
  ⟨Kept.refl _ _, hb, fun _ _ h => (by cases h), fun _ _ h => (by cases h), fun _ _ _ _ h => (by cases h)⟩
set_option maxRecDepth 100000 in
set_option maxHeartbeats 16000000 in
theorem ctells_walk (w : World) (A0 : Option Addr) (n0 c0 : Nat) (z0 : List Int) (x0 : Cf) (h0 : IsRow .i64 w A0 n0 c0 z0) (A1 : Option Addr) (n1 c1 : Nat) (z1 : List Int) (h1 : IsRow .i64 w A1 n1 c1 z1) (how : Int) (hhow : (Lit.int .i64 how).wf = true) (nn : Int) (hnn : (Lit.int .i64 nn).wf = true) :
    Calls Try.prog 4 #[cfv A0 n0 c0 x0, .slice A1 n1 c1, .int .i64 how, .int .i64 nn] w fun e w' => e = .returned (.bool true) ∧ Below w.heap.size w w' := by
  obtain ⟨r0, hr0, hn0, hc0, hb0⟩ := h0.ri
  have hz := new_below w (cfbox A0 n0 c0 x0)
  have hs1 : (w.alloc (cfbox A0 n0 c0 x0)).heap.size = w.heap.size + 1 := World.size_alloc _ _
  have hd1 : Draws (w.alloc (cfbox A0 n0 c0 x0)).heap.size (w.alloc (cfbox A0 n0 c0 x0)) A1 n1 := ⟨h1.draws.1, fun hn => by
    obtain ⟨rb, ro, e, hrb, hc⟩ := (h1.draws.kept (Kept.ofBelow (S := fun _ => False) hz) (Nat.le_refl _) (fun _ _ => id)).2 hn
    exact ⟨rb, ro, e, by omega, hc⟩⟩
  have hfn := feed_new (cap := c1) hd1 31
  have hz2 := new_below (w.alloc (cfbox A0 n0 c0 x0)) (.cells #[.slice A1 n1 c1, .int .i64 0] 31)
  have hs2 : ((w.alloc (cfbox A0 n0 c0 x0)).alloc (.cells #[.slice A1 n1 c1, .int .i64 0] 31)).heap.size = w.heap.size + 1 + 1 := by rw [World.size_alloc, hs1]
  rw [hs1] at hfn
  have HR0 := Lib.hid hr0
  have HB0 := Lib.hid hb0
  have HF := Lib.hid hfn
  have HBV := Lib.hid (then_below hz hz2)
  clear h0 h1 hr0 hb0 hz hz2 hd1 hfn hs1
  dsimp only [cfv, cfcells, cfbox] at HF HBV hs2 ⊢
  go_enter Try.func4, Try.ntmps4
  go_upto_region 3 with fail
  generalize (w.alloc (.cells #[.slice A0 n0 c0, .int .i64 x0.win, .int .i64 x0.res, .int .i64 x0.que, .int .i64 x0.fli, .int .i64 x0.sta] 24)).alloc (.cells #[.slice A1 n1 c1, .int .i64 0] 31) = V at HF HBV hs2 ⊢
  rw [← hs2]
  have HS2 := Lib.hid hs2
  clear hs2
  go_cut [] (fun wx => ∃ n c l, n ≤ 9 ∧ Ri w A0 n l ∧ n ≤ n0 ∧ V.alloc (.cells #[.slice A0 n c, .int .i64 x0.win, .int .i64 x0.res, .int .i64 x0.que, .int .i64 x0.fli, .int .i64 x0.sta] 24) = wx)
  case first =>
    by_cases h9 : n0 ≤ 9
    · go_wp2_with fail
      go_meet
      exact ⟨n0, _, r0, h9, HR0.out, Nat.le_refl _, rfl⟩
    · go_wp2_with fail
      go_meet
      exact ⟨9, _, r0.take 9, Nat.le_refl _, HR0.out.take (by omega), by omega, rfl⟩
  case rest =>
  obtain ⟨n, c, l, hn9, hri, hnn0, rfl⟩ := hcut
  obtain ⟨y, hy⟩ : ∃ y : Cf, y = ⟨l, x0.win, x0.res, x0.que, x0.fli, x0.sta⟩ := ⟨_, rfl⟩
  have hn := new_below V (cfbox A0 n c y)
  have HC4 := Lib.hid (heap_alloc_new V (cfbox A0 n c y))
  have hri' : Ri w A0 n y.par := by rw [hy]; exact hri
  have HR4 := Lib.hid ((hri'.later HBV.out).later hn)
  have HF4 := Lib.hid (HF.out.below hn)
  have HB4 := Lib.hid (then_below HBV.out hn)
  have hgt : w.heap.size + 1 < V.heap.size := by have := HS2.out; omega
  have hsz : (V.alloc (cfbox A0 n c y)).heap.size = V.heap.size + 1 := World.size_alloc _ _
  have HAb : Hid (∀ ad, A0 = some ad → n ≠ 0 → ad.block < w.heap.size) := Lib.hid fun ad e hn => HB0.out ad e (by omega)
  clear hn hri hri' HR0 HB0 HF HBV HS2
  rw [hy] at HC4 HR4 HF4 HB4 hsz
  dsimp only [cfbox, cfcells] at HC4 HR4 HF4 HB4 hsz
  generalize V.alloc _ = w4 at HC4 HR4 HF4 HB4 hsz ⊢
  generalize V.heap.size = gt at HC4 hgt hsz ⊢
  have h4 : gt < w4.heap.size := by omega
  clear hsz
  go_wp2_with fail
  refine (next_any 4 (by omega) (by omega) _ (by omega) HF4.out).mono ?_
  rintro e w5 ⟨k, hk, rfl, hf5, hk5, -⟩
  have HC5 := Lib.hid (hk5.rowc HC4.out (by show ¬ gt = w.heap.size + 1; omega))
  have HR5 := Lib.hid (HR4.out.keep hk5 (fun ad e hn e2 => by have := HAb.out ad e hn; have e2 : ad.block = w.heap.size + 1 := e2; omega))
  have HF5 := Lib.hid hf5
  have HB5 := Lib.hid (HB4.out.trans (hk5.below (by omega) (fun i hi e => by have e : i = w.heap.size + 1 := e; omega)))
  have h5 : gt < w5.heap.size := by have := hk5.size; omega
  clear hf5 hk5 HC4 HR4 HF4 HB4 h4
  go_upto_if 26 with fail
  go_cut [11] (fun s wx => Asked w gt wx)
  case first =>
    by_cases hk0 : (k : Int) > 0
    case neg =>
      go_wp2_with fail
      go_meet
      exact ⟨A0, n, c, ⟨l, x0.win, x0.res, x0.que, x0.fli, x0.sta⟩, HC5.out, HR5.out, by omega, HB5.out⟩
    go_wp2_with fail
    refine (feedconfig_any (a := 1) 8 (by omega) (by omega) _ (by omega) (HF5.out.more (by omega))).mono ?_
    rintro e w6 ⟨A, c', x, rfl, hri, hck, hlen, hA, hnil, hf, hk6⟩
    have HC6 := Lib.hid (hk6.rowc HC5.out (by show ¬ gt = w.heap.size + 1; omega))
    have HB6 := Lib.hid (HB5.out.trans (hk6.below (by omega) (fun i hi e => by have e : i = w.heap.size + 1 := e; omega)))
    have h6 : gt < w6.heap.size := by have := hk6.size; omega
    have HA : Hid (∀ ad, A = some ad → x.par.length ≠ 0 → gt < ad.block ∧ ad.block < w6.heap.size) := Lib.hid fun ad e hn => ⟨by have := hA ad e hn; omega, hri.block ad e hn⟩
    have HNil := Lib.hid hnil
    obtain ⟨he1, he2⟩ := set_config (w := w6) (g := gt) (p := 0) (A := A0) (n := n) (c := c) (x := ⟨l, x0.win, x0.res, x0.que, x0.fli, x0.sta⟩) (A' := A) (n' := x.par.length) (c' := c') (x' := x) (cs := cfcells A x.par.length c' x) rfl HC6.out
    have HE := Lib.hid he1
    have HS := Lib.hid he2
    have HR6 := Lib.hid hri
    clear he1 he2 hri hck hA hnil hf hk6 HC5 HR5 HF5 HB5
    dsimp only [cfv, cfcells]
    go_upto_region 6 with (first | (refine wpList_store_part rfl 24 _ _ rfl gt 0 _ (cfcells A x.par.length c' x) rfl rfl rfl 24 (cfcells A0 n c ⟨l, x0.win, x0.res, x0.que, x0.fli, x0.sta⟩) HC6.out cf_size (Nat.le_refl 6) (cf_one _ _ _ _) ?_; generalize World.setRow w6 _ _ = w7 at HE HS ⊢))
    have HC7 := HE
    have HR7 := Lib.hid (HR6.out.keep HS.out (fun ad e hn e2 => by have := HA.out ad e hn; have e2 : ad.block = gt := e2; omega))
    have HB7 := Lib.hid (HB6.out.trans (HS.out.below (by omega) (fun i hi e => by have e : i = gt := e; omega)))
    have h7 : gt < w7.heap.size := by have := HS.out.size; omega
    have HA7 : Hid (∀ ad, A = some ad → x.par.length ≠ 0 → gt < ad.block) := Lib.hid fun ad e hn => (HA.out ad e hn).1
    clear HE HS HR6 HB6 HC6 h6 HA h5
    try simp only [Act.put]
    go_cut [11] (fun s wx => ∃ e : Int, s = .int .i64 e ∧ w7 = wx)
    case first =>
      have hj0 : 0 ≤ nn % 4 ∧ nn % 4 < 4 := ⟨Int.emod_nonneg _ (by omega), Int.emod_lt_of_pos _ (by omega)⟩
      rcases (by omega : nn % 4 = 0 ∨ nn % 4 = 1 ∨ nn % 4 = 2 ∨ nn % 4 = 3) with hj | hj | hj | hj
      · go_wp2_with (first | (go_at_call 13; refine (pick_at (by omega) (by omega) hj _).mono ?_; rintro e w' ⟨rfl, rfl⟩) | (refine wpList_idx rfl 34 _ _ rfl rfl rfl (idx4 _ _ _ _ _).1 ?_))
        go_meet
        exact ⟨_, rfl, rfl⟩
      · go_wp2_with (first | (go_at_call 13; refine (pick_at (by omega) (by omega) hj _).mono ?_; rintro e w' ⟨rfl, rfl⟩) | (refine wpList_idx rfl 34 _ _ rfl rfl rfl (idx4 _ _ _ _ _).2.1 ?_))
        go_meet
        exact ⟨_, rfl, rfl⟩
      · go_wp2_with (first | (go_at_call 13; refine (pick_at (by omega) (by omega) hj _).mono ?_; rintro e w' ⟨rfl, rfl⟩) | (refine wpList_idx rfl 34 _ _ rfl rfl rfl (idx4 _ _ _ _ _).2.2.1 ?_))
        go_meet
        exact ⟨_, rfl, rfl⟩
      · go_wp2_with (first | (go_at_call 13; refine (pick_at (by omega) (by omega) hj _).mono ?_; rintro e w' ⟨rfl, rfl⟩) | (refine wpList_idx rfl 34 _ _ rfl rfl rfl (idx4 _ _ _ _ _).2.2.2 ?_))
        go_meet
        exact ⟨_, rfl, rfl⟩
    case rest =>
    obtain ⟨ed, rfl, rfl⟩ := hcut
    have hj0 : 0 ≤ how % 8 ∧ how % 8 < 8 := ⟨Int.emod_nonneg _ (by omega), Int.emod_lt_of_pos _ (by omega)⟩
    rcases (by omega : how % 8 = 0 ∨ how % 8 = 1 ∨ how % 8 = 2 ∨ how % 8 = 3 ∨ how % 8 = 4 ∨ how % 8 = 5 ∨ how % 8 = 6 ∨ how % 8 = 7) with hj | hj | hj | hj | hj | hj | hj | hj
    · obtain ⟨he1, he2⟩ := set_config (w := w7) (g := gt) (p := 1) (A := A) (n := x.par.length) (c := c') (x := x) (A' := A) (n' := x.par.length) (c' := c') (x' := x.put 0 ed) (cs := [.int .i64 ed]) rfl HC7.out
      have HE := Lib.hid he1
      have HS := Lib.hid he2
      clear he1 he2
      go_wp2_with (first | (go_at_call 13; refine (pick_at (by omega) (by omega) hj _).mono ?_; rintro e w' ⟨rfl, rfl⟩) | (refine wpList_store_part rfl 3 _ _ rfl gt 1 _ [.int .i64 ed] rfl rfl rfl 24 (cfcells A x.par.length c' x) HC7.out int_size1 (show (2 : Nat) ≤ 6 by decide) (fun u hu => by rw [List.mem_singleton.1 hu]; rfl) ?_; generalize World.setRow w7 _ _ = w8 at HE HS ⊢))
      go_meet
      exact ⟨A, x.par.length, c', _, HE.out, by rw [Cf.put_par]; exact HR7.out.keep HS.out (fun ad e hn e2 => by have := HA7.out ad e hn; have e2 : ad.block = gt := e2; omega), by omega, HB7.out.trans (HS.out.below (by omega) (fun i hi e => by have e : i = gt := e; omega))⟩
    · obtain ⟨he1, he2⟩ := set_config (w := w7) (g := gt) (p := 2) (A := A) (n := x.par.length) (c := c') (x := x) (A' := A) (n' := x.par.length) (c' := c') (x' := x.put 1 ed) (cs := [.int .i64 ed]) rfl HC7.out
      have HE := Lib.hid he1
      have HS := Lib.hid he2
      clear he1 he2
      go_wp2_with (first | (go_at_call 13; refine (pick_at (by omega) (by omega) hj _).mono ?_; rintro e w' ⟨rfl, rfl⟩) | (refine wpList_store_part rfl 3 _ _ rfl gt 2 _ [.int .i64 ed] rfl rfl rfl 24 (cfcells A x.par.length c' x) HC7.out int_size1 (show (3 : Nat) ≤ 6 by decide) (fun u hu => by rw [List.mem_singleton.1 hu]; rfl) ?_; generalize World.setRow w7 _ _ = w8 at HE HS ⊢))
      go_meet
      exact ⟨A, x.par.length, c', _, HE.out, by rw [Cf.put_par]; exact HR7.out.keep HS.out (fun ad e hn e2 => by have := HA7.out ad e hn; have e2 : ad.block = gt := e2; omega), by omega, HB7.out.trans (HS.out.below (by omega) (fun i hi e => by have e : i = gt := e; omega))⟩
    · obtain ⟨he1, he2⟩ := set_config (w := w7) (g := gt) (p := 3) (A := A) (n := x.par.length) (c := c') (x := x) (A' := A) (n' := x.par.length) (c' := c') (x' := x.put 2 ed) (cs := [.int .i64 ed]) rfl HC7.out
      have HE := Lib.hid he1
      have HS := Lib.hid he2
      clear he1 he2
      go_wp2_with (first | (go_at_call 13; refine (pick_at (by omega) (by omega) hj _).mono ?_; rintro e w' ⟨rfl, rfl⟩) | (refine wpList_store_part rfl 3 _ _ rfl gt 3 _ [.int .i64 ed] rfl rfl rfl 24 (cfcells A x.par.length c' x) HC7.out int_size1 (show (4 : Nat) ≤ 6 by decide) (fun u hu => by rw [List.mem_singleton.1 hu]; rfl) ?_; generalize World.setRow w7 _ _ = w8 at HE HS ⊢))
      go_meet
      exact ⟨A, x.par.length, c', _, HE.out, by rw [Cf.put_par]; exact HR7.out.keep HS.out (fun ad e hn e2 => by have := HA7.out ad e hn; have e2 : ad.block = gt := e2; omega), by omega, HB7.out.trans (HS.out.below (by omega) (fun i hi e => by have e : i = gt := e; omega))⟩
    · obtain ⟨he1, he2⟩ := set_config (w := w7) (g := gt) (p := 4) (A := A) (n := x.par.length) (c := c') (x := x) (A' := A) (n' := x.par.length) (c' := c') (x' := x.put 3 ed) (cs := [.int .i64 ed]) rfl HC7.out
      have HE := Lib.hid he1
      have HS := Lib.hid he2
      clear he1 he2
      go_wp2_with (first | (go_at_call 13; refine (pick_at (by omega) (by omega) hj _).mono ?_; rintro e w' ⟨rfl, rfl⟩) | (refine wpList_store_part rfl 3 _ _ rfl gt 4 _ [.int .i64 ed] rfl rfl rfl 24 (cfcells A x.par.length c' x) HC7.out int_size1 (show (5 : Nat) ≤ 6 by decide) (fun u hu => by rw [List.mem_singleton.1 hu]; rfl) ?_; generalize World.setRow w7 _ _ = w8 at HE HS ⊢))
      go_meet
      exact ⟨A, x.par.length, c', _, HE.out, by rw [Cf.put_par]; exact HR7.out.keep HS.out (fun ad e hn e2 => by have := HA7.out ad e hn; have e2 : ad.block = gt := e2; omega), by omega, HB7.out.trans (HS.out.below (by omega) (fun i hi e => by have e : i = gt := e; omega))⟩
    · obtain ⟨he1, he2⟩ := set_config (w := w7) (g := gt) (p := 5) (A := A) (n := x.par.length) (c := c') (x := x) (A' := A) (n' := x.par.length) (c' := c') (x' := x.put 4 nn) (cs := [.int .i64 nn]) rfl HC7.out
      have HE := Lib.hid he1
      have HS := Lib.hid he2
      clear he1 he2
      go_wp2_with (first | (go_at_call 13; refine (pick_at (by omega) (by omega) hj _).mono ?_; rintro e w' ⟨rfl, rfl⟩) | (refine wpList_store_part rfl 3 _ _ rfl gt 5 _ [.int .i64 nn] rfl rfl rfl 24 (cfcells A x.par.length c' x) HC7.out int_size1 (show (6 : Nat) ≤ 6 by decide) (fun u hu => by rw [List.mem_singleton.1 hu]; rfl) ?_; generalize World.setRow w7 _ _ = w8 at HE HS ⊢))
      go_meet
      exact ⟨A, x.par.length, c', _, HE.out, by rw [Cf.put_par]; exact HR7.out.keep HS.out (fun ad e hn e2 => by have := HA7.out ad e hn; have e2 : ad.block = gt := e2; omega), by omega, HB7.out.trans (HS.out.below (by omega) (fun i hi e => by have e : i = gt := e; omega))⟩
    · have HG := Lib.hid (Gs.start' (W := w7) (b := w.heap.size + 1) (by omega)).new0
      have p0 := cf_later (new_below w7 (.cells #[] 3)) (cfbox_cells (A := A) (n := x.par.length) (c := c') (x := x) HC7.out 0 _ rfl)
      simp only [Nat.zero_add] at p0
      have HAne : Hid (∀ ad, A = some ad → x.par.length ≠ 0 → ad.block ≠ w.heap.size + 1) := Lib.hid fun ad e hn => by have := HA7.out ad e hn; omega
      go_wp2_with (first
        | (go_at_call 13; refine (pick_at (by omega) (by omega) hj _).mono ?_; rintro e w' ⟨rfl, rfl⟩)
        | (at_builtin; refine wpList_owni_row rfl _ _ rfl w7.heap.size _ _ rfl (HG.out.row _ _ rfl) A x.par.length c' rfl HNil.out x.par (HG.out.ri HR7.out HAne.out) (by simp; omega) ?_; intro v8 w8 hv8 hk8 hl8; have HG2 := Lib.hid ((HG.out.grow hv8 hk8 hl8).newu ed); clear hv8 hk8 hl8)
        | (at_builtin; refine wpList_owni_row rfl _ _ rfl w7.heap.size _ _ rfl (HG2.out.row _ _ rfl) _ 1 1 rfl (fun h => by cases h) [ed] (HG2.out.one _ _ rfl).2 (by simp; omega) ?_; intro v9 w9 hv9 hk9 hl9; have HG3 := Lib.hid (HG2.out.grow hv9 hk9 hl9); clear hv9 hk9 hl9; obtain ⟨A2, c2, rfl⟩ := HG3.out.sl; have HEND := Lib.hid (HG3.out.done rfl HC7.out (by omega) rfl))
        | (refine wpList_store_part rfl 22 _ _ rfl gt 0 _ [.slice A2 (x.par.length + 1) c2] rfl rfl rfl 24 (cfcells A x.par.length c' x) (HG3.out.keep.rowc HC7.out (fun e => by rcases e with e | e <;> omega)) sl_size1 (show (1 : Nat) ≤ 6 by decide) (fun u hu => by rw [List.mem_singleton.1 hu]; rfl) ?_; generalize World.setRow w9 gt _ = wz at HEND ⊢))
      go_meet
      obtain ⟨-, A3, c3, g1, g2, g3⟩ := HEND.out
      exact ⟨A3, _, c3, _, g1, g2, by omega, HB7.out.trans (g3.below (by omega) (fun i hi e => by rcases e with e | e | e <;> omega))⟩
    all_goals
      go_wp2_with (first | (go_at_call 13; refine (pick_at (by omega) (by omega) hj _).mono ?_; rintro e w' ⟨rfl, rfl⟩))
      go_meet
      exact ⟨A, x.par.length, c', x, HC7.out, HR7.out, by omega, HB7.out⟩
  case rest =>
  obtain ⟨A, m, c', x, hc, hr, hm, hb⟩ := hcut
  have HC := Lib.hid hc
  have HR := Lib.hid hr
  have HB := Lib.hid hb
  clear hc hr hb HC5 HR5 HF5 HB5
  go_upto_region 20 with fail
  generalize wc = w9 at HC HR HB ⊢
  obtain ⟨q0, q1, q2, q3, q4, q5⟩ := six_later (A := A) (n := m) (c := c') (x := x) HC.out
  haveI := later_some w9
  obtain ⟨v1, hv1⟩ : ∃ v, x.check = v := ⟨_, rfl⟩
  obtain ⟨v2, hv2⟩ : ∃ v, x.brokers = v := ⟨_, rfl⟩
  obtain ⟨v3, hv3⟩ : ∃ v, x.flying = v := ⟨_, rfl⟩
  obtain ⟨v4, hv4⟩ : ∃ v, x.room = v := ⟨_, rfl⟩
  have H1 := Lib.hid hv1
  have H2 := Lib.hid hv2
  have H3 := Lib.hid hv3
  have H4 := Lib.hid hv4
  clear hv1 hv2 hv3 hv4
  refine wp_region_later (W := w9) (by kernel_rfl) (by kernel_rfl) (Below.refl _ _) ?_
  repeat (go_big_quiet_step (fail))
  go_big_quiet_step (first | (go_at_call 14; exact calls_later (cknown _)))
  repeat (go_big_quiet_step (fail))
  go_big_quiet_step (first | (go_at_call 7; exact check_l (x := x) HR.out (by omega) H1.out _))
  repeat (go_big_quiet_step (fail))
  go_big_quiet_step (first | (go_at_call 15; exact rcheck_l (x := x) HR.out (by omega) H1.out _))
  repeat (go_big_quiet_step (fail))
  go_big_quiet_step (first | (go_at_call 9; exact brokers_l (x := x) HR.out (by omega) H2.out _))
  repeat (go_big_quiet_step (fail))
  go_big_quiet_step (first | (go_at_call 16; exact rbrokers_l (x := x) HR.out (by omega) H2.out _))
  repeat (go_big_quiet_step (fail))
  go_big_quiet_step (first | (go_at_call 10; exact flying_l (x := x) HR.out (by omega) H3.out _))
  repeat (go_big_quiet_step (fail))
  go_big_quiet_step (first | (go_at_call 17; exact rflying_l (x := x) HR.out (by omega) H3.out _))
  repeat (go_big_quiet_step (fail))
  go_big_quiet_step (first | (go_at_call 8; exact room_l (x := x) HR.out (by omega) H4.out _))
  repeat (go_big_quiet_step (fail))
  go_big_quiet_step (first | (go_at_call 18; exact rroom_l (x := x) HR.out (by omega) H4.out _))
  repeat (go_big_quiet_step (fail))
  refine wpQuiet_nil ?_
  rintro _ ⟨y, rfl⟩
  have HB9 := Lib.hid (then_below HB.out y.below)
  go_wp2_with fail
  go_ret
  exact ⟨rfl, HB9.out⟩
end Go.Proofs.Ytegkphbnedbgfaa
