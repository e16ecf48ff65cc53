
/- WireParts: a part of a right frame that is another one makes it another frame, its bytes others, or none. -/
import Derived.Test.YtgenmebmdpnjhaaGreatG18
import Derived.Test.YtgenmebmdpnjhaaGreatG1c
namespace Go.Proofs.YtgenmebmdpnjhaaGreat
open Go.RowKit
set_option linter.unusedVariables false

theorem bel_on {W a b w' : World} (k : Hid (Below W.heap.size W a)) (h : Below b.heap.size b w') (e : b = a ∨ b = a.drew := by first | exact .inl rfl | exact .inr rfl) : Hid (Below W.heap.size W w') := by
  refine Lib.hid ?_
  rcases e with rfl | rfl
  · exact k.out.trans (below_sub h k.out.size)
  · exact k.out.trans (below_sub (show Below a.heap.size a w' from ⟨h.os, h.tape, h.output, h.size, h.block⟩) k.out.size)
/-- A frame's cells, in all that comes. -/
theorem fr_on {W : World} {g : Nat} {f : Fr} (h : W.heap[g]? = some (frbox f)) : ∀ z, Below W.heap.size W z → ∀ j v, (Fr.cells f)[j]? = some v → z.cell? ⟨g, 0 + j, none⟩ = some v :=
  fun z k => cells_row (cs := Fr.cells f) (below_row k h)
theorem on_later {W w : World} (h : Below W.heap.size W w) (z : Later w) : Below W.heap.size W z.at_ := h.trans (below_sub z.below h.size)
theorem lay_at {f : Fr} {w : World} {t : ByteArray} (h : IsFr w f) (hr : Wr.right f = true) (hn : Cd.Fnok f) (ht : tstr (Cd.frameb f) = t) : Calls Tryz.prog 15 #[frv f] w (LayTells t w) := ht ▸ lay_tells h hr hn
theorem frame_right' {x y : Fr} (h : Wr.same x y = true) : Wr.right x = Wr.right y := Cd.frame_right h
theorem frame_lay' {x y : Fr} (h : Wr.same x y = true) : Cd.frameb x = Cd.frameb y := Cd.frame_lay h
theorem ba_ne {a b : ByteArray} (h : ¬ a = b) : (a.toList == b.toList) = false := by
  cases e : (a.toList == b.toList)
  · rfl
  · refine absurd (eq_of_beq e) fun e => h ?_
    rw [ByteArray.toList_eq, ByteArray.toList_eq] at e
    obtain ⟨⟨l⟩⟩ := a
    obtain ⟨⟨m⟩⟩ := b
    simp at e
    rw [e]
/-- What is stored to a new block. -/
theorem stored_below {w w' : World} {g : Nat} (hg : g = w.heap.size) {o : Obj} (k : Kept (· = g) (w.alloc o) w') : Below w.heap.size w w' :=
  (one_new w o).trans (k.below (one_new w o).size (fun i hi e => by omega))
set_option maxRecDepth 100000 in
set_option maxHeartbeats 16000000 in
theorem wparts_walk (w : World) (A0 : Option Addr) (n0 c0 : Nat) (z0 : List Int) (h0 : IsRow .i64 w A0 n0 c0 z0) (how : Int) (hhow : (Lit.int .i64 how).wf = true) (nn : Int) (hnn : (Lit.int .i64 nn).wf = true) :
    Calls Tryz.prog 6 #[.slice A0 n0 c0, .int .i64 how, .int .i64 nn] w fun e w' => e = .returned (.bool true) ∧ Below w.heap.size w w' := by
  have HFN := Lib.hid (fun t => feed_new (cap := c0) h0.draws t)
  clear h0
  go_enter Tryz.func6, Tryz.ntmps6
  go_wp2_with fail
  refine (feedframe_any (a := 0) _ (by omega) (HFN.out _)).mono ?_
  rintro e w1 ⟨x, rfl, hd, ho, -, hk⟩
  have HD := Lib.hid hd
  have HB1 := Lib.hid ((one_new w _).trans (hk.below (one_new w _).size (fun i hi e => by omega)))
  have hi1 := ho.is hd
  obtain ⟨he, hs⟩ := ffset_frame (w := w1.alloc (frbox fr00)) (g := w1.heap.size) (p := 0) (x := fr00) (x' := x) (cs := Fr.cells x) rfl (heap_alloc_new w1 (frbox fr00))
  have HXa := Lib.hid (heap_alloc_new w1 (frbox fr00))
  have HX2 := Lib.hid he
  have HS2 := Lib.hid hs
  clear hd ho hk he hs HFN
  dsimp only [frbox, fr00, ev00, List.length_nil] at HXa HX2 HS2
  go_upto_region 3 with (first | (refine wpList_store_part rfl 38 _ _ rfl w1.heap.size 0 _ (Fr.cells x) rfl rfl rfl 38 fr00.cells HXa.out fr_size1 (show (19 : Nat) ≤ 19 by decide) (ffr_one _) ?_; generalize World.setRow (World.alloc w1 _) _ _ = w2 at HX2 HS2 ⊢))
  try simp only [Act.put]
  have hb12 := stored_below rfl HS2.out
  have HI2 := Lib.hid (hi1.later hb12)
  have HB2 := Lib.hid (HB1.out.trans (below_sub hb12 HB1.out.size))
  clear hi1 hb12 HXa HS2 HB1
  generalize w1.heap.size = g8 at HX2 ⊢
  have HC2 := Lib.hid (cells_row (cs := Fr.cells x) HX2.out)
  go_wp2_with (first | (refine wpList_load_at rfl 38 _ rfl g8 0 (Fr.cells x) _ rfl HC2.out Tryz.underlying38 rfl fr_size1 ?_; dsimp only [Fr.cells]))
  refine (bent_any HI2.out HD.out.nok (wright_len HD.out.right) how nn).mono ?_
  rintro e w3 ⟨y, rfl, hiy, hny, hb3⟩
  have HIx := Lib.hid (HI2.out.later hb3)
  have HX3 := Lib.hid (below_row hb3 HX2.out)
  have HB3 := Lib.hid (HB2.out.trans (below_sub hb3 HB2.out.size))
  have HNy := Lib.hid hny
  obtain ⟨he, hs⟩ := ffset_frame (w := w3.alloc (frbox fr00)) (g := w3.heap.size) (p := 0) (x := fr00) (x' := y) (cs := Fr.cells y) rfl (heap_alloc_new w3 (frbox fr00))
  have HYa := Lib.hid (heap_alloc_new w3 (frbox fr00))
  have HY4 := Lib.hid he
  have HS4 := Lib.hid hs
  clear he hs hny hb3 HI2 HX2 HB2 HC2
  dsimp only [frbox, fr00, ev00, List.length_nil] at HYa HY4 HS4
  go_upto_region 4 with (first | (refine wpList_store_part rfl 38 _ _ rfl w3.heap.size 0 _ (Fr.cells y) rfl rfl rfl 38 fr00.cells HYa.out fr_size1 (show (19 : Nat) ≤ 19 by decide) (ffr_one _) ?_; generalize World.setRow (World.alloc w3 _) _ _ = W at HY4 HS4 ⊢))
  try simp only [Act.put]
  have hb34 := stored_below rfl HS4.out
  have HIX := Lib.hid (HIx.out.later hb34)
  have HIY := Lib.hid (hiy.later hb34)
  have HX4 := Lib.hid (fr_on (below_row hb34 HX3.out))
  have HY5 := Lib.hid (fr_on HY4.out)
  have HB4 := Lib.hid (HB3.out.trans (below_sub hb34 HB3.out.size))
  clear hb34 hiy HIx HX3 HYa HS4 HB3 HY4
  generalize w3.heap.size = g9 at HY5 ⊢
  haveI := later_some W
  have CX : ∀ w', (∃ z : Later W, w' = z.at_) → ∀ j v, (Fr.cells x)[j]? = some v → w'.cell? ⟨g8, 0 + j, none⟩ = some v := fun w' ⟨z, e⟩ => e ▸ HX4.out z.at_ z.below
  have CY : ∀ w', (∃ z : Later W, w' = z.at_) → ∀ j v, (Fr.cells y)[j]? = some v → w'.cell? ⟨g9, 0 + j, none⟩ = some v := fun w' ⟨z, e⟩ => e ▸ HY5.out z.at_ z.below
  have CXH := Lib.hid CX
  have CYH := Lib.hid CY
  clear CX CY
  -- known() and Right(x)
  refine wp_plain_later (W := W) (Below.refl _ _) ?_
  repeat (first | go_big_quiet_step (first | (go_at_call 9; exact calls_later (wknown8 _)) | (go_at_call 10; exact calls_later (wright_at (HIX.out.later (Later.below _)) HD.out.right))) | (go_big_quiet_want; refine quiet_load 38 _ rfl g8 0 (Fr.cells x) _ rfl CXH.out Tryz.underlying38 rfl fr_size1 ?_; go_big_quiet_on; simp only [Act.put, List.setIfInBounds_toArray, List.set_cons_succ, List.set_cons_zero, Fr.cells]))
  refine wpQuiet_nil ?_
  rintro _ ⟨u1, rfl⟩
  have HU := Lib.hid u1.below
  generalize u1.at_ = v1 at HU ⊢
  go_upto_region 6 with fail
  haveI := later_some v1
  have HIX1 := Lib.hid (HIX.out.later HU.out)
  have HIY1 := Lib.hid (HIY.out.later HU.out)
  have CX1 : Hid (∀ w', (∃ z : Later v1, w' = z.at_) → ∀ j v, (Fr.cells x)[j]? = some v → w'.cell? ⟨g8, 0 + j, none⟩ = some v) := Lib.hid fun w' ⟨z, e⟩ => e ▸ HX4.out z.at_ (on_later HU.out z)
  have CY1 : Hid (∀ w', (∃ z : Later v1, w' = z.at_) → ∀ j v, (Fr.cells y)[j]? = some v → w'.cell? ⟨g9, 0 + j, none⟩ = some v) := Lib.hid fun w' ⟨z, e⟩ => e ▸ HY5.out z.at_ (on_later HU.out z)
  obtain ⟨t1, ht1⟩ : ∃ t, tstr (Cd.frameb x) = t := ⟨_, rfl⟩
  obtain ⟨t2, ht2⟩ : ∃ t, tstr (Cd.frameb y) = t := ⟨_, rfl⟩
  have HT1 := Lib.hid ht1
  cases hsm : Wr.same x y
  case true =>
    have HSm := Lib.hid hsm
    have HRY := Lib.hid ((frame_right' hsm).symm.trans HD.out.right)
    have HT2 : Hid (tstr (Cd.frameb y) = t1) := Lib.hid (by rw [← frame_lay' hsm]; exact ht1)
    clear ht1 ht2 hsm
    refine wp_plain_later (W := v1) (Below.refl _ _) ?_
    repeat (go_big_quiet_step (fail))
    (go_big_quiet_want; refine quiet_load 38 _ rfl g8 0 (Fr.cells x) _ rfl CX1.out Tryz.underlying38 rfl fr_size1 ?_; go_big_quiet_on; simp only [Act.put, List.setIfInBounds_toArray, List.set_cons_succ, List.set_cons_zero, Fr.cells])
    repeat (go_big_quiet_step (fail))
    (go_big_quiet_want; refine quiet_load 38 _ rfl g9 0 (Fr.cells y) _ rfl CY1.out Tryz.underlying38 rfl fr_size1 ?_; go_big_quiet_on; simp only [Act.put, List.setIfInBounds_toArray, List.set_cons_succ, List.set_cons_zero, Fr.cells])
    repeat (go_big_quiet_step (fail))
    go_big_quiet_step (first | (go_at_call 12; exact calls_later (wsame_at (HIX1.out.later (Later.below _)) (HIY1.out.later (Later.below _)) HSm.out)))
    repeat (go_big_quiet_step (fail))
    refine wpQuiet_nil ?_
    rintro _ ⟨u2, rfl⟩
    have HX := Lib.hid (HU.out.trans (below_sub u2.below HU.out.size))
    generalize u2.at_ = v2 at HX ⊢
    go_upto_region 7 with fail
    refine any_begin (by kernel_rfl) ?_
    replace HX := Lib.hid (HX.out.trans (below_sub (drew_below _) HX.out.size))
    generalize World.drew _ = vd at HX ⊢
    refine any_read (i := 0) (o := { dst := some 29, op := Op.load 38 (Operand.tmp 9), type := 38, pos := "law.go:107", after := #[], guard := none }) (v := frv y) rfl (by kernel_rfl) (by kernel_rfl) (by kernel_rfl) (fun _ _ _ h => h) (by rfl) ?_ ?_
    · (intro z; exact load_run (cs := Fr.cells y) rfl rfl (HY5.out z.at_ (on_later HX.out z)) Tryz.underlying38 rfl fr_size1 rfl)
    try simp only [Act.put, List.setIfInBounds_toArray, List.set_cons_zero, List.set_cons_succ]
    refine any_call (i := 1) (o := { dst := some 30, op := Op.call { callee := Callee.value (Operand.func 10), args := #[Operand.tmp 29], argTypes := #[38] }, type := 4, pos := "law.go:107", after := #[{ on := 0, ground := Ground.data }], guard := none }) rfl (by kernel_rfl) (by rfl) (fun K hK => ?_)
    go_simp
    refine (wright_at (HIY.out.later HX.out) HRY.out).mono ?_
    rintro e w21 ⟨rfl, hb⟩
    refine hK.out _ _ hb ?_
    replace HX := bel_on HX hb
    clear hb hK K
    try simp only [Act.put, List.setIfInBounds_toArray, List.set_cons_zero, List.set_cons_succ]
    refine any_read (i := 2) (o := { dst := some 31, op := Op.move (Operand.tmp 30), type := 4, pos := "law.go:107", after := #[{ on := 1, ground := Ground.data }, { on := 1, ground := Ground.chain }], guard := none }) (v := ?_) rfl (by kernel_rfl) (by kernel_rfl) (by kernel_rfl) (fun _ _ _ h => h) (by rfl) ?_ ?_
    rotate_left
    · (intro x; go_simp; try with_reducible rfl)
    try simp only [Act.put, List.setIfInBounds_toArray, List.set_cons_zero, List.set_cons_succ]
    refine any_read (i := 3) (o := { dst := some 32, op := Op.load 38 (Operand.tmp 8), type := 38, pos := "law.go:107", after := #[{ on := 2, ground := Ground.guard }], guard := some (2, true) }) (v := frv x) rfl (by kernel_rfl) (by kernel_rfl) (by kernel_rfl) (fun _ _ _ h => h) (by rfl) ?_ ?_
    · (intro z; exact load_run (cs := Fr.cells x) rfl rfl (HX4.out z.at_ (on_later HX.out z)) Tryz.underlying38 rfl fr_size1 rfl)
    try simp only [Act.put, List.setIfInBounds_toArray, List.set_cons_zero, List.set_cons_succ]
    refine any_read (i := 6) (o := { dst := some 35, op := Op.load 38 (Operand.tmp 9), type := 38, pos := "law.go:107", after := #[{ on := 2, ground := Ground.guard }], guard := some (2, true) }) (v := frv y) rfl (by kernel_rfl) (by kernel_rfl) (by kernel_rfl) (fun _ _ _ h => h) (by rfl) ?_ ?_
    · (intro z; exact load_run (cs := Fr.cells y) rfl rfl (HY5.out z.at_ (on_later HX.out z)) Tryz.underlying38 rfl fr_size1 rfl)
    try simp only [Act.put, List.setIfInBounds_toArray, List.set_cons_zero, List.set_cons_succ]
    refine any_call (i := 4) (o := { dst := some 33, op := Op.call { callee := Callee.value (Operand.func 15), args := #[Operand.tmp 32], argTypes := #[38] }, type := 23, pos := "law.go:107", after := #[{ on := 3, ground := Ground.data }, { on := 2, ground := Ground.chain }, { on := 2, ground := Ground.guard }], guard := some (2, true) }) rfl (by kernel_rfl) (by rfl) (fun K hK => ?_)
    go_simp
    refine (lay_at (HIX.out.later HX.out) HD.out.right HD.out.nok HT1.out).mono ?_
    rintro e w34 ⟨A4, n4, c4, rfl, hcv4, hb⟩
    refine hK.out _ _ hb ?_
    replace HX := bel_on HX hb
    clear hb hK K
    try simp only [Act.put, List.setIfInBounds_toArray, List.set_cons_zero, List.set_cons_succ]
    refine any_read (i := 5) (o := { dst := some 34, op := Op.convert 23 9 (Operand.tmp 33), type := 9, pos := "law.go:107", after := #[{ on := 4, ground := Ground.data }, { on := 2, ground := Ground.guard }], guard := some (2, true) }) (v := ?_) rfl (by kernel_rfl) (by kernel_rfl) (by kernel_rfl) (fun _ _ _ h => h) (by rfl) ?_ ?_
    rotate_left
    · (intro x; go_simp; try with_reducible rfl)
    try simp only [Act.put, List.setIfInBounds_toArray, List.set_cons_zero, List.set_cons_succ]
    refine any_call (i := 7) (o := { dst := some 36, op := Op.call { callee := Callee.value (Operand.func 15), args := #[Operand.tmp 35], argTypes := #[38] }, type := 23, pos := "law.go:107", after := #[{ on := 6, ground := Ground.data }, { on := 4, ground := Ground.chain }, { on := 2, ground := Ground.guard }], guard := some (2, true) }) rfl (by kernel_rfl) (by rfl) (fun K hK => ?_)
    go_simp
    refine (lay_at (HIY.out.later HX.out) HRY.out HNy.out HT2.out).mono ?_
    rintro e w37 ⟨A7, n7, c7, rfl, hcv7, hb⟩
    refine hK.out _ _ hb ?_
    replace HX := bel_on HX hb
    clear hb hK K
    try simp only [Act.put, List.setIfInBounds_toArray, List.set_cons_zero, List.set_cons_succ]
    refine any_read (i := 8) (o := { dst := some 37, op := Op.convert 23 9 (Operand.tmp 36), type := 9, pos := "law.go:107", after := #[{ on := 7, ground := Ground.data }, { on := 2, ground := Ground.guard }], guard := some (2, true) }) (v := ?_) rfl (by kernel_rfl) (by kernel_rfl) (by kernel_rfl) (fun _ _ _ h => h) (by rfl) ?_ ?_
    rotate_left
    · (intro x; go_simp; try with_reducible rfl)
    try simp only [Act.put, List.setIfInBounds_toArray, List.set_cons_zero, List.set_cons_succ]
    refine any_read (i := 9) (o := { dst := some 38, op := Op.binOp BinOp.eql 9 (Operand.tmp 34) (Operand.tmp 37) 9, type := 4, pos := "law.go:107", after := #[{ on := 5, ground := Ground.data }, { on := 8, ground := Ground.data }, { on := 2, ground := Ground.guard }], guard := some (2, true) }) (v := ?_) rfl (by kernel_rfl) (by kernel_rfl) (by kernel_rfl) (fun _ _ _ h => h) (by rfl) ?_ ?_
    rotate_left
    · (intro x; go_simp; try with_reducible rfl)
    try simp only [Act.put, List.setIfInBounds_toArray, List.set_cons_zero, List.set_cons_succ]
    refine any_read (i := 10) (o := { dst := some 39, op := Op.pick (Operand.tmp 31) (Operand.tmp 38) (Operand.const (Value.bool false)), type := 4, pos := "law.go:107", after := #[{ on := 2, ground := Ground.data }, { on := 9, ground := Ground.data }], guard := none }) (v := ?_) rfl (by kernel_rfl) (by kernel_rfl) (by kernel_rfl) (fun _ _ _ h => h) (by rfl) ?_ ?_
    rotate_left
    · (intro x; go_simp; try with_reducible rfl)
    try simp only [Act.put, List.setIfInBounds_toArray, List.set_cons_zero, List.set_cons_succ]
    refine any_read (i := 11) (o := { dst := some 6, op := Op.assign (Operand.tmp 39), type := 4, pos := "law.go:107", after := #[{ on := 10, ground := Ground.data }, { on := 7, ground := Ground.chain }, { on := 0, ground := Ground.phase }, { on := 1, ground := Ground.phase }, { on := 2, ground := Ground.phase }, { on := 3, ground := Ground.phase }, { on := 4, ground := Ground.phase }, { on := 5, ground := Ground.phase }, { on := 6, ground := Ground.phase }, { on := 7, ground := Ground.phase }, { on := 8, ground := Ground.phase }, { on := 9, ground := Ground.phase }, { on := 10, ground := Ground.phase }], guard := none }) (v := ?_) rfl (by kernel_rfl) (by kernel_rfl) (by kernel_rfl) (fun _ _ _ h => h) (by rfl) ?_ ?_
    rotate_left
    · (intro x; go_simp; try with_reducible rfl)
    try simp only [Act.put, List.setIfInBounds_toArray, List.set_cons_zero, List.set_cons_succ]
    refine wpAnyH_done (by kernel_rfl) ?_ _
    go_wp2_with fail
    go_ret
    exact ⟨rfl, HB4.out.trans (below_sub HX.out HB4.out.size)⟩
  case false =>
    have HSm := Lib.hid hsm
    cases hry : Wr.right y
    case true =>
      have HRY := Lib.hid hry
      have HT2 := Lib.hid ht2
      have hne : ¬ t1 = t2 := fun e => by
        have := Cd.frame_inj HD.out.right hry HD.out.nok HNy.out (Cd.tstr_inj (Cd.bytey_frame x) (Cd.bytey_frame y) (by rw [ht1, ht2, e]))
        rw [hsm] at this
        cases this
      have hne0 : decide (t1 = t2) = false := decide_eq_false hne
      have hne1 : (t1.toList == t2.toList) = false := ba_ne hne
      have hne2 : (t1.toList != t2.toList) = true := by simp [bne, hne1]
      clear ht1 ht2 hsm hry
      refine wp_plain_later (W := v1) (Below.refl _ _) ?_
      repeat (go_big_quiet_step (fail))
      (go_big_quiet_want; refine quiet_load 38 _ rfl g8 0 (Fr.cells x) _ rfl CX1.out Tryz.underlying38 rfl fr_size1 ?_; go_big_quiet_on; simp only [Act.put, List.setIfInBounds_toArray, List.set_cons_succ, List.set_cons_zero, Fr.cells])
      repeat (go_big_quiet_step (fail))
      (go_big_quiet_want; refine quiet_load 38 _ rfl g9 0 (Fr.cells y) _ rfl CY1.out Tryz.underlying38 rfl fr_size1 ?_; go_big_quiet_on; simp only [Act.put, List.setIfInBounds_toArray, List.set_cons_succ, List.set_cons_zero, Fr.cells])
      repeat (go_big_quiet_step (fail))
      go_big_quiet_step (first | (go_at_call 12; exact calls_later (wsame_at (HIX1.out.later (Later.below _)) (HIY1.out.later (Later.below _)) HSm.out)))
      repeat (go_big_quiet_step (fail))
      refine wpQuiet_nil ?_
      rintro _ ⟨u2, rfl⟩
      have HX := Lib.hid (HU.out.trans (below_sub u2.below HU.out.size))
      generalize u2.at_ = v2 at HX ⊢
      go_upto_region 8 with fail
      refine any_begin (by kernel_rfl) ?_
      replace HX := Lib.hid (HX.out.trans (below_sub (drew_below _) HX.out.size))
      generalize World.drew _ = vd at HX ⊢
      refine any_read (i := 0) (o := { dst := some 40, op := Op.load 38 (Operand.tmp 9), type := 38, pos := "law.go:109", after := #[], guard := none }) (v := frv y) rfl (by kernel_rfl) (by kernel_rfl) (by kernel_rfl) (fun _ _ _ h => h) (by rfl) ?_ ?_
      · (intro z; exact load_run (cs := Fr.cells y) rfl rfl (HY5.out z.at_ (on_later HX.out z)) Tryz.underlying38 rfl fr_size1 rfl)
      try simp only [Act.put, List.setIfInBounds_toArray, List.set_cons_zero, List.set_cons_succ]
      refine any_call (i := 1) (o := { dst := some 41, op := Op.call { callee := Callee.value (Operand.func 10), args := #[Operand.tmp 40], argTypes := #[38] }, type := 4, pos := "law.go:109", after := #[{ on := 0, ground := Ground.data }], guard := none }) rfl (by kernel_rfl) (by rfl) (fun K hK => ?_)
      go_simp
      refine (wright_at (HIY.out.later HX.out) HRY.out).mono ?_
      rintro e w21 ⟨rfl, hb⟩
      refine hK.out _ _ hb ?_
      replace HX := bel_on HX hb
      clear hb hK K
      try simp only [Act.put, List.setIfInBounds_toArray, List.set_cons_zero, List.set_cons_succ]
      refine any_read (i := 2) (o := { dst := some 42, op := Op.unOp UnOp.not 4 (Operand.tmp 41), type := 4, pos := "law.go:109", after := #[{ on := 1, ground := Ground.data }], guard := none }) (v := ?_) rfl (by kernel_rfl) (by kernel_rfl) (by kernel_rfl) (fun _ _ _ h => h) (by rfl) ?_ ?_
      rotate_left
      · (intro x; go_simp; try with_reducible rfl)
      try simp only [Act.put, List.setIfInBounds_toArray, List.set_cons_zero, List.set_cons_succ]
      refine any_read (i := 3) (o := { dst := some 43, op := Op.move (Operand.tmp 42), type := 4, pos := "law.go:109", after := #[{ on := 2, ground := Ground.data }, { on := 1, ground := Ground.chain }], guard := none }) (v := ?_) rfl (by kernel_rfl) (by kernel_rfl) (by kernel_rfl) (fun _ _ _ h => h) (by rfl) ?_ ?_
      rotate_left
      · (intro x; go_simp; try with_reducible rfl)
      try simp only [Act.put, List.setIfInBounds_toArray, List.set_cons_zero, List.set_cons_succ]
      refine any_skip (i := 4) (o := { dst := some 44, op := Op.load 38 (Operand.tmp 9), type := 38, pos := "law.go:109", after := #[{ on := 3, ground := Ground.guard }], guard := some (3, true) }) rfl (by kernel_rfl) (by kernel_rfl) (by kernel_rfl) (fun _ _ _ h => h) (by rfl) ?_
      try simp only [Act.put, List.setIfInBounds_toArray, List.set_cons_zero, List.set_cons_succ]
      refine any_skip (i := 5) (o := { dst := some 45, op := Op.call { callee := Callee.value (Operand.func 15), args := #[Operand.tmp 44], argTypes := #[38] }, type := 23, pos := "law.go:109", after := #[{ on := 4, ground := Ground.data }, { on := 3, ground := Ground.chain }, { on := 3, ground := Ground.guard }], guard := some (3, true) }) rfl (by kernel_rfl) (by kernel_rfl) (by kernel_rfl) (fun _ _ _ h => h) (by rfl) ?_
      try simp only [Act.put, List.setIfInBounds_toArray, List.set_cons_zero, List.set_cons_succ]
      refine any_skip (i := 6) (o := { dst := some 46, op := Op.call { callee := Callee.builtin Builtin.len, args := #[Operand.tmp 45], argTypes := #[23] }, type := 3, pos := "law.go:109", after := #[{ on := 5, ground := Ground.data }, { on := 3, ground := Ground.guard }], guard := some (3, true) }) rfl (by kernel_rfl) (by kernel_rfl) (by kernel_rfl) (fun _ _ _ h => h) (by rfl) ?_
      try simp only [Act.put, List.setIfInBounds_toArray, List.set_cons_zero, List.set_cons_succ]
      refine any_skip (i := 7) (o := { dst := some 47, op := Op.binOp BinOp.eql 3 (Operand.tmp 46) (Operand.const (Value.int IntKind.i64 0)) 3, type := 4, pos := "law.go:109", after := #[{ on := 6, ground := Ground.data }, { on := 3, ground := Ground.guard }], guard := some (3, true) }) rfl (by kernel_rfl) (by kernel_rfl) (by kernel_rfl) (fun _ _ _ h => h) (by rfl) ?_
      try simp only [Act.put, List.setIfInBounds_toArray, List.set_cons_zero, List.set_cons_succ]
      refine any_read (i := 8) (o := { dst := some 48, op := Op.pick (Operand.tmp 43) (Operand.tmp 47) (Operand.const (Value.bool false)), type := 4, pos := "law.go:109", after := #[{ on := 3, ground := Ground.data }, { on := 7, ground := Ground.data }], guard := none }) (v := ?_) rfl (by kernel_rfl) (by kernel_rfl) (by kernel_rfl) (fun _ _ _ h => h) (by rfl) ?_ ?_
      rotate_left
      · (intro x; go_simp; try with_reducible rfl)
      try simp only [Act.put, List.setIfInBounds_toArray, List.set_cons_zero, List.set_cons_succ]
      refine any_read (i := 9) (o := { dst := some 49, op := Op.move (Operand.tmp 48), type := 4, pos := "law.go:109", after := #[{ on := 8, ground := Ground.data }, { on := 5, ground := Ground.chain }], guard := none }) (v := ?_) rfl (by kernel_rfl) (by kernel_rfl) (by kernel_rfl) (fun _ _ _ h => h) (by rfl) ?_ ?_
      rotate_left
      · (intro x; go_simp; try with_reducible rfl)
      try simp only [Act.put, List.setIfInBounds_toArray, List.set_cons_zero, List.set_cons_succ]
      refine any_read (i := 10) (o := { dst := some 50, op := Op.load 38 (Operand.tmp 9), type := 38, pos := "law.go:109", after := #[{ on := 9, ground := Ground.guard }], guard := some (9, false) }) (v := frv y) rfl (by kernel_rfl) (by kernel_rfl) (by kernel_rfl) (fun _ _ _ h => h) (by rfl) ?_ ?_
      · (intro z; exact load_run (cs := Fr.cells y) rfl rfl (HY5.out z.at_ (on_later HX.out z)) Tryz.underlying38 rfl fr_size1 rfl)
      try simp only [Act.put, List.setIfInBounds_toArray, List.set_cons_zero, List.set_cons_succ]
      refine any_call (i := 11) (o := { dst := some 51, op := Op.call { callee := Callee.value (Operand.func 10), args := #[Operand.tmp 50], argTypes := #[38] }, type := 4, pos := "law.go:109", after := #[{ on := 10, ground := Ground.data }, { on := 9, ground := Ground.chain }, { on := 9, ground := Ground.guard }], guard := some (9, false) }) rfl (by kernel_rfl) (by rfl) (fun K hK => ?_)
      go_simp
      refine (wright_at (HIY.out.later HX.out) HRY.out).mono ?_
      rintro e w22 ⟨rfl, hb⟩
      refine hK.out _ _ hb ?_
      replace HX := bel_on HX hb
      clear hb hK K
      try simp only [Act.put, List.setIfInBounds_toArray, List.set_cons_zero, List.set_cons_succ]
      refine any_read (i := 12) (o := { dst := some 52, op := Op.move (Operand.tmp 51), type := 4, pos := "law.go:109", after := #[{ on := 11, ground := Ground.data }, { on := 11, ground := Ground.chain }, { on := 9, ground := Ground.guard }], guard := some (9, false) }) (v := ?_) rfl (by kernel_rfl) (by kernel_rfl) (by kernel_rfl) (fun _ _ _ h => h) (by rfl) ?_ ?_
      rotate_left
      · (intro x; go_simp; try with_reducible rfl)
      try simp only [Act.put, List.setIfInBounds_toArray, List.set_cons_zero, List.set_cons_succ]
      refine any_read (i := 13) (o := { dst := some 53, op := Op.load 38 (Operand.tmp 8), type := 38, pos := "law.go:109", after := #[{ on := 12, ground := Ground.guard }], guard := some (12, true) }) (v := frv x) rfl (by kernel_rfl) (by kernel_rfl) (by kernel_rfl) (fun _ _ _ h => h) (by rfl) ?_ ?_
      · (intro z; exact load_run (cs := Fr.cells x) rfl rfl (HX4.out z.at_ (on_later HX.out z)) Tryz.underlying38 rfl fr_size1 rfl)
      try simp only [Act.put, List.setIfInBounds_toArray, List.set_cons_zero, List.set_cons_succ]
      refine any_read (i := 16) (o := { dst := some 56, op := Op.load 38 (Operand.tmp 9), type := 38, pos := "law.go:109", after := #[{ on := 12, ground := Ground.guard }], guard := some (12, true) }) (v := frv y) rfl (by kernel_rfl) (by kernel_rfl) (by kernel_rfl) (fun _ _ _ h => h) (by rfl) ?_ ?_
      · (intro z; exact load_run (cs := Fr.cells y) rfl rfl (HY5.out z.at_ (on_later HX.out z)) Tryz.underlying38 rfl fr_size1 rfl)
      try simp only [Act.put, List.setIfInBounds_toArray, List.set_cons_zero, List.set_cons_succ]
      refine any_call (i := 14) (o := { dst := some 54, op := Op.call { callee := Callee.value (Operand.func 15), args := #[Operand.tmp 53], argTypes := #[38] }, type := 23, pos := "law.go:109", after := #[{ on := 13, ground := Ground.data }, { on := 12, ground := Ground.chain }, { on := 12, ground := Ground.guard }], guard := some (12, true) }) rfl (by kernel_rfl) (by rfl) (fun K hK => ?_)
      go_simp
      refine (lay_at (HIX.out.later HX.out) HD.out.right HD.out.nok HT1.out).mono ?_
      rintro e w34 ⟨A4, n4, c4, rfl, hcv4, hb⟩
      refine hK.out _ _ hb ?_
      replace HX := bel_on HX hb
      clear hb hK K
      try simp only [Act.put, List.setIfInBounds_toArray, List.set_cons_zero, List.set_cons_succ]
      refine any_read (i := 15) (o := { dst := some 55, op := Op.convert 23 9 (Operand.tmp 54), type := 9, pos := "law.go:109", after := #[{ on := 14, ground := Ground.data }, { on := 12, ground := Ground.guard }], guard := some (12, true) }) (v := ?_) rfl (by kernel_rfl) (by kernel_rfl) (by kernel_rfl) (fun _ _ _ h => h) (by rfl) ?_ ?_
      rotate_left
      · (intro x; go_simp; try with_reducible rfl)
      try simp only [Act.put, List.setIfInBounds_toArray, List.set_cons_zero, List.set_cons_succ]
      refine any_call (i := 17) (o := { dst := some 57, op := Op.call { callee := Callee.value (Operand.func 15), args := #[Operand.tmp 56], argTypes := #[38] }, type := 23, pos := "law.go:109", after := #[{ on := 16, ground := Ground.data }, { on := 14, ground := Ground.chain }, { on := 12, ground := Ground.guard }], guard := some (12, true) }) rfl (by kernel_rfl) (by rfl) (fun K hK => ?_)
      go_simp
      refine (lay_at (HIY.out.later HX.out) HRY.out HNy.out HT2.out).mono ?_
      rintro e w37 ⟨A7, n7, c7, rfl, hcv7, hb⟩
      refine hK.out _ _ hb ?_
      replace HX := bel_on HX hb
      clear hb hK K
      try simp only [Act.put, List.setIfInBounds_toArray, List.set_cons_zero, List.set_cons_succ]
      refine any_read (i := 18) (o := { dst := some 58, op := Op.convert 23 9 (Operand.tmp 57), type := 9, pos := "law.go:109", after := #[{ on := 17, ground := Ground.data }, { on := 12, ground := Ground.guard }], guard := some (12, true) }) (v := ?_) rfl (by kernel_rfl) (by kernel_rfl) (by kernel_rfl) (fun _ _ _ h => h) (by rfl) ?_ ?_
      rotate_left
      · (intro x; go_simp; try with_reducible rfl)
      try simp only [Act.put, List.setIfInBounds_toArray, List.set_cons_zero, List.set_cons_succ]
      refine any_read (i := 19) (o := { dst := some 59, op := Op.binOp BinOp.neq 9 (Operand.tmp 55) (Operand.tmp 58) 9, type := 4, pos := "law.go:109", after := #[{ on := 15, ground := Ground.data }, { on := 18, ground := Ground.data }, { on := 12, ground := Ground.guard }], guard := some (12, true) }) (v := ?_) rfl (by kernel_rfl) (by kernel_rfl) (by kernel_rfl) (fun _ _ _ h => h) (by rfl) ?_ ?_
      rotate_left
      · (intro x; go_simp; try with_reducible rfl)
      try simp only [Act.put, List.setIfInBounds_toArray, List.set_cons_zero, List.set_cons_succ]
      refine any_read (i := 20) (o := { dst := some 60, op := Op.pick (Operand.tmp 52) (Operand.tmp 59) (Operand.const (Value.bool false)), type := 4, pos := "law.go:109", after := #[{ on := 12, ground := Ground.data }, { on := 19, ground := Ground.data }, { on := 9, ground := Ground.guard }], guard := some (9, false) }) (v := ?_) rfl (by kernel_rfl) (by kernel_rfl) (by kernel_rfl) (fun _ _ _ h => h) (by rfl) ?_ ?_
      rotate_left
      · (intro x; go_simp; try with_reducible rfl)
      try simp only [Act.put, List.setIfInBounds_toArray, List.set_cons_zero, List.set_cons_succ]
      refine any_read (i := 21) (o := { dst := some 61, op := Op.pick (Operand.tmp 49) (Operand.const (Value.bool true)) (Operand.tmp 60), type := 4, pos := "law.go:109", after := #[{ on := 9, ground := Ground.data }, { on := 20, ground := Ground.data }], guard := none }) (v := ?_) rfl (by kernel_rfl) (by kernel_rfl) (by kernel_rfl) (fun _ _ _ h => h) (by rfl) ?_ ?_
      rotate_left
      · (intro x; go_simp; try with_reducible rfl)
      try simp only [Act.put, List.setIfInBounds_toArray, List.set_cons_zero, List.set_cons_succ]
      refine any_read (i := 22) (o := { dst := some 6, op := Op.assign (Operand.tmp 61), type := 4, pos := "law.go:109", after := #[{ on := 21, ground := Ground.data }, { on := 17, ground := Ground.chain }, { on := 0, ground := Ground.phase }, { on := 1, ground := Ground.phase }, { on := 2, ground := Ground.phase }, { on := 3, ground := Ground.phase }, { on := 4, ground := Ground.phase }, { on := 5, ground := Ground.phase }, { on := 6, ground := Ground.phase }, { on := 7, ground := Ground.phase }, { on := 8, ground := Ground.phase }, { on := 9, ground := Ground.phase }, { on := 10, ground := Ground.phase }, { on := 11, ground := Ground.phase }, { on := 12, ground := Ground.phase }, { on := 13, ground := Ground.phase }, { on := 14, ground := Ground.phase }, { on := 15, ground := Ground.phase }, { on := 16, ground := Ground.phase }, { on := 17, ground := Ground.phase }, { on := 18, ground := Ground.phase }, { on := 19, ground := Ground.phase }, { on := 20, ground := Ground.phase }, { on := 21, ground := Ground.phase }], guard := none }) (v := ?_) rfl (by kernel_rfl) (by kernel_rfl) (by kernel_rfl) (fun _ _ _ h => h) (by rfl) ?_ ?_
      rotate_left
      · (intro x; go_simp; try with_reducible rfl)
      try simp only [Act.put, List.setIfInBounds_toArray, List.set_cons_zero, List.set_cons_succ]
      refine wpAnyH_done (by kernel_rfl) ?_ _
      go_wp2_with fail
      go_ret
      exact ⟨rfl, HB4.out.trans (below_sub HX.out HB4.out.size)⟩
    case false =>
      have HRY := Lib.hid hry
      clear ht1 ht2 hsm hry
      refine wp_plain_later (W := v1) (Below.refl _ _) ?_
      repeat (go_big_quiet_step (fail))
      (go_big_quiet_want; refine quiet_load 38 _ rfl g8 0 (Fr.cells x) _ rfl CX1.out Tryz.underlying38 rfl fr_size1 ?_; go_big_quiet_on; simp only [Act.put, List.setIfInBounds_toArray, List.set_cons_succ, List.set_cons_zero, Fr.cells])
      repeat (go_big_quiet_step (fail))
      (go_big_quiet_want; refine quiet_load 38 _ rfl g9 0 (Fr.cells y) _ rfl CY1.out Tryz.underlying38 rfl fr_size1 ?_; go_big_quiet_on; simp only [Act.put, List.setIfInBounds_toArray, List.set_cons_succ, List.set_cons_zero, Fr.cells])
      repeat (go_big_quiet_step (fail))
      go_big_quiet_step (first | (go_at_call 12; exact calls_later (wsame_at (HIX1.out.later (Later.below _)) (HIY1.out.later (Later.below _)) HSm.out)))
      repeat (go_big_quiet_step (fail))
      refine wpQuiet_nil ?_
      rintro _ ⟨u2, rfl⟩
      have HX := Lib.hid (HU.out.trans (below_sub u2.below HU.out.size))
      generalize u2.at_ = v2 at HX ⊢
      go_upto_region 8 with fail
      refine any_begin (by kernel_rfl) ?_
      replace HX := Lib.hid (HX.out.trans (below_sub (drew_below _) HX.out.size))
      generalize World.drew _ = vd at HX ⊢
      refine any_read (i := 0) (o := { dst := some 40, op := Op.load 38 (Operand.tmp 9), type := 38, pos := "law.go:109", after := #[], guard := none }) (v := frv y) rfl (by kernel_rfl) (by kernel_rfl) (by kernel_rfl) (fun _ _ _ h => h) (by rfl) ?_ ?_
      · (intro z; exact load_run (cs := Fr.cells y) rfl rfl (HY5.out z.at_ (on_later HX.out z)) Tryz.underlying38 rfl fr_size1 rfl)
      try simp only [Act.put, List.setIfInBounds_toArray, List.set_cons_zero, List.set_cons_succ]
      refine any_call (i := 1) (o := { dst := some 41, op := Op.call { callee := Callee.value (Operand.func 10), args := #[Operand.tmp 40], argTypes := #[38] }, type := 4, pos := "law.go:109", after := #[{ on := 0, ground := Ground.data }], guard := none }) rfl (by kernel_rfl) (by rfl) (fun K hK => ?_)
      go_simp
      refine (wright_at (HIY.out.later HX.out) HRY.out).mono ?_
      rintro e w21 ⟨rfl, hb⟩
      refine hK.out _ _ hb ?_
      replace HX := bel_on HX hb
      clear hb hK K
      try simp only [Act.put, List.setIfInBounds_toArray, List.set_cons_zero, List.set_cons_succ]
      refine any_read (i := 2) (o := { dst := some 42, op := Op.unOp UnOp.not 4 (Operand.tmp 41), type := 4, pos := "law.go:109", after := #[{ on := 1, ground := Ground.data }], guard := none }) (v := ?_) rfl (by kernel_rfl) (by kernel_rfl) (by kernel_rfl) (fun _ _ _ h => h) (by rfl) ?_ ?_
      rotate_left
      · (intro x; go_simp; try with_reducible rfl)
      try simp only [Act.put, List.setIfInBounds_toArray, List.set_cons_zero, List.set_cons_succ]
      refine any_read (i := 3) (o := { dst := some 43, op := Op.move (Operand.tmp 42), type := 4, pos := "law.go:109", after := #[{ on := 2, ground := Ground.data }, { on := 1, ground := Ground.chain }], guard := none }) (v := ?_) rfl (by kernel_rfl) (by kernel_rfl) (by kernel_rfl) (fun _ _ _ h => h) (by rfl) ?_ ?_
      rotate_left
      · (intro x; go_simp; try with_reducible rfl)
      try simp only [Act.put, List.setIfInBounds_toArray, List.set_cons_zero, List.set_cons_succ]
      refine any_read (i := 4) (o := { dst := some 44, op := Op.load 38 (Operand.tmp 9), type := 38, pos := "law.go:109", after := #[{ on := 3, ground := Ground.guard }], guard := some (3, true) }) (v := frv y) rfl (by kernel_rfl) (by kernel_rfl) (by kernel_rfl) (fun _ _ _ h => h) (by rfl) ?_ ?_
      · (intro z; exact load_run (cs := Fr.cells y) rfl rfl (HY5.out z.at_ (on_later HX.out z)) Tryz.underlying38 rfl fr_size1 rfl)
      try simp only [Act.put, List.setIfInBounds_toArray, List.set_cons_zero, List.set_cons_succ]
      refine any_call (i := 5) (o := { dst := some 45, op := Op.call { callee := Callee.value (Operand.func 15), args := #[Operand.tmp 44], argTypes := #[38] }, type := 23, pos := "law.go:109", after := #[{ on := 4, ground := Ground.data }, { on := 3, ground := Ground.chain }, { on := 3, ground := Ground.guard }], guard := some (3, true) }) rfl (by kernel_rfl) (by rfl) (fun K hK => ?_)
      go_simp
      refine (lay_wrong (HIY.out.later HX.out) HRY.out).mono ?_
      rintro e w31 ⟨rfl, hb⟩
      refine hK.out _ _ hb ?_
      replace HX := bel_on HX hb
      clear hb hK K
      try simp only [Act.put, List.setIfInBounds_toArray, List.set_cons_zero, List.set_cons_succ]
      refine any_read (i := 6) (o := { dst := some 46, op := Op.call { callee := Callee.builtin Builtin.len, args := #[Operand.tmp 45], argTypes := #[23] }, type := 3, pos := "law.go:109", after := #[{ on := 5, ground := Ground.data }, { on := 3, ground := Ground.guard }], guard := some (3, true) }) (v := ?_) rfl (by kernel_rfl) (by kernel_rfl) (by kernel_rfl) (fun _ _ _ h => h) (by rfl) ?_ ?_
      rotate_left
      · (intro x; go_simp; try with_reducible rfl)
      try simp only [Act.put, List.setIfInBounds_toArray, List.set_cons_zero, List.set_cons_succ]
      refine any_read (i := 7) (o := { dst := some 47, op := Op.binOp BinOp.eql 3 (Operand.tmp 46) (Operand.const (Value.int IntKind.i64 0)) 3, type := 4, pos := "law.go:109", after := #[{ on := 6, ground := Ground.data }, { on := 3, ground := Ground.guard }], guard := some (3, true) }) (v := ?_) rfl (by kernel_rfl) (by kernel_rfl) (by kernel_rfl) (fun _ _ _ h => h) (by rfl) ?_ ?_
      rotate_left
      · (intro x; go_simp; try with_reducible rfl)
      try simp only [Act.put, List.setIfInBounds_toArray, List.set_cons_zero, List.set_cons_succ]
      refine any_read (i := 8) (o := { dst := some 48, op := Op.pick (Operand.tmp 43) (Operand.tmp 47) (Operand.const (Value.bool false)), type := 4, pos := "law.go:109", after := #[{ on := 3, ground := Ground.data }, { on := 7, ground := Ground.data }], guard := none }) (v := ?_) rfl (by kernel_rfl) (by kernel_rfl) (by kernel_rfl) (fun _ _ _ h => h) (by rfl) ?_ ?_
      rotate_left
      · (intro x; go_simp; try with_reducible rfl)
      try simp only [Act.put, List.setIfInBounds_toArray, List.set_cons_zero, List.set_cons_succ]
      refine any_read (i := 9) (o := { dst := some 49, op := Op.move (Operand.tmp 48), type := 4, pos := "law.go:109", after := #[{ on := 8, ground := Ground.data }, { on := 5, ground := Ground.chain }], guard := none }) (v := ?_) rfl (by kernel_rfl) (by kernel_rfl) (by kernel_rfl) (fun _ _ _ h => h) (by rfl) ?_ ?_
      rotate_left
      · (intro x; go_simp; try with_reducible rfl)
      try simp only [Act.put, List.setIfInBounds_toArray, List.set_cons_zero, List.set_cons_succ]
      refine any_skip (i := 10) (o := { dst := some 50, op := Op.load 38 (Operand.tmp 9), type := 38, pos := "law.go:109", after := #[{ on := 9, ground := Ground.guard }], guard := some (9, false) }) rfl (by kernel_rfl) (by kernel_rfl) (by kernel_rfl) (fun _ _ _ h => h) (by rfl) ?_
      try simp only [Act.put, List.setIfInBounds_toArray, List.set_cons_zero, List.set_cons_succ]
      refine any_skip (i := 11) (o := { dst := some 51, op := Op.call { callee := Callee.value (Operand.func 10), args := #[Operand.tmp 50], argTypes := #[38] }, type := 4, pos := "law.go:109", after := #[{ on := 10, ground := Ground.data }, { on := 9, ground := Ground.chain }, { on := 9, ground := Ground.guard }], guard := some (9, false) }) rfl (by kernel_rfl) (by kernel_rfl) (by kernel_rfl) (fun _ _ _ h => h) (by rfl) ?_
      try simp only [Act.put, List.setIfInBounds_toArray, List.set_cons_zero, List.set_cons_succ]
      refine any_skip (i := 12) (o := { dst := some 52, op := Op.move (Operand.tmp 51), type := 4, pos := "law.go:109", after := #[{ on := 11, ground := Ground.data }, { on := 11, ground := Ground.chain }, { on := 9, ground := Ground.guard }], guard := some (9, false) }) rfl (by kernel_rfl) (by kernel_rfl) (by kernel_rfl) (fun _ _ _ h => h) (by rfl) ?_
      try simp only [Act.put, List.setIfInBounds_toArray, List.set_cons_zero, List.set_cons_succ]
      refine any_skip (i := 13) (o := { dst := some 53, op := Op.load 38 (Operand.tmp 8), type := 38, pos := "law.go:109", after := #[{ on := 12, ground := Ground.guard }], guard := some (12, true) }) rfl (by kernel_rfl) (by kernel_rfl) (by kernel_rfl) (fun _ _ _ h => h) (by rfl) ?_
      try simp only [Act.put, List.setIfInBounds_toArray, List.set_cons_zero, List.set_cons_succ]
      refine any_skip (i := 14) (o := { dst := some 54, op := Op.call { callee := Callee.value (Operand.func 15), args := #[Operand.tmp 53], argTypes := #[38] }, type := 23, pos := "law.go:109", after := #[{ on := 13, ground := Ground.data }, { on := 12, ground := Ground.chain }, { on := 12, ground := Ground.guard }], guard := some (12, true) }) rfl (by kernel_rfl) (by kernel_rfl) (by kernel_rfl) (fun _ _ _ h => h) (by rfl) ?_
      try simp only [Act.put, List.setIfInBounds_toArray, List.set_cons_zero, List.set_cons_succ]
      refine any_skip (i := 15) (o := { dst := some 55, op := Op.convert 23 9 (Operand.tmp 54), type := 9, pos := "law.go:109", after := #[{ on := 14, ground := Ground.data }, { on := 12, ground := Ground.guard }], guard := some (12, true) }) rfl (by kernel_rfl) (by kernel_rfl) (by kernel_rfl) (fun _ _ _ h => h) (by rfl) ?_
      try simp only [Act.put, List.setIfInBounds_toArray, List.set_cons_zero, List.set_cons_succ]
      refine any_skip (i := 16) (o := { dst := some 56, op := Op.load 38 (Operand.tmp 9), type := 38, pos := "law.go:109", after := #[{ on := 12, ground := Ground.guard }], guard := some (12, true) }) rfl (by kernel_rfl) (by kernel_rfl) (by kernel_rfl) (fun _ _ _ h => h) (by rfl) ?_
      try simp only [Act.put, List.setIfInBounds_toArray, List.set_cons_zero, List.set_cons_succ]
      refine any_skip (i := 17) (o := { dst := some 57, op := Op.call { callee := Callee.value (Operand.func 15), args := #[Operand.tmp 56], argTypes := #[38] }, type := 23, pos := "law.go:109", after := #[{ on := 16, ground := Ground.data }, { on := 14, ground := Ground.chain }, { on := 12, ground := Ground.guard }], guard := some (12, true) }) rfl (by kernel_rfl) (by kernel_rfl) (by kernel_rfl) (fun _ _ _ h => h) (by rfl) ?_
      try simp only [Act.put, List.setIfInBounds_toArray, List.set_cons_zero, List.set_cons_succ]
      refine any_skip (i := 18) (o := { dst := some 58, op := Op.convert 23 9 (Operand.tmp 57), type := 9, pos := "law.go:109", after := #[{ on := 17, ground := Ground.data }, { on := 12, ground := Ground.guard }], guard := some (12, true) }) rfl (by kernel_rfl) (by kernel_rfl) (by kernel_rfl) (fun _ _ _ h => h) (by rfl) ?_
      try simp only [Act.put, List.setIfInBounds_toArray, List.set_cons_zero, List.set_cons_succ]
      refine any_skip (i := 19) (o := { dst := some 59, op := Op.binOp BinOp.neq 9 (Operand.tmp 55) (Operand.tmp 58) 9, type := 4, pos := "law.go:109", after := #[{ on := 15, ground := Ground.data }, { on := 18, ground := Ground.data }, { on := 12, ground := Ground.guard }], guard := some (12, true) }) rfl (by kernel_rfl) (by kernel_rfl) (by kernel_rfl) (fun _ _ _ h => h) (by rfl) ?_
      try simp only [Act.put, List.setIfInBounds_toArray, List.set_cons_zero, List.set_cons_succ]
      refine any_skip (i := 20) (o := { dst := some 60, op := Op.pick (Operand.tmp 52) (Operand.tmp 59) (Operand.const (Value.bool false)), type := 4, pos := "law.go:109", after := #[{ on := 12, ground := Ground.data }, { on := 19, ground := Ground.data }, { on := 9, ground := Ground.guard }], guard := some (9, false) }) rfl (by kernel_rfl) (by kernel_rfl) (by kernel_rfl) (fun _ _ _ h => h) (by rfl) ?_
      try simp only [Act.put, List.setIfInBounds_toArray, List.set_cons_zero, List.set_cons_succ]
      refine any_read (i := 21) (o := { dst := some 61, op := Op.pick (Operand.tmp 49) (Operand.const (Value.bool true)) (Operand.tmp 60), type := 4, pos := "law.go:109", after := #[{ on := 9, ground := Ground.data }, { on := 20, ground := Ground.data }], guard := none }) (v := ?_) rfl (by kernel_rfl) (by kernel_rfl) (by kernel_rfl) (fun _ _ _ h => h) (by rfl) ?_ ?_
      rotate_left
      · (intro x; go_simp; try with_reducible rfl)
      try simp only [Act.put, List.setIfInBounds_toArray, List.set_cons_zero, List.set_cons_succ]
      refine any_read (i := 22) (o := { dst := some 6, op := Op.assign (Operand.tmp 61), type := 4, pos := "law.go:109", after := #[{ on := 21, ground := Ground.data }, { on := 17, ground := Ground.chain }, { on := 0, ground := Ground.phase }, { on := 1, ground := Ground.phase }, { on := 2, ground := Ground.phase }, { on := 3, ground := Ground.phase }, { on := 4, ground := Ground.phase }, { on := 5, ground := Ground.phase }, { on := 6, ground := Ground.phase }, { on := 7, ground := Ground.phase }, { on := 8, ground := Ground.phase }, { on := 9, ground := Ground.phase }, { on := 10, ground := Ground.phase }, { on := 11, ground := Ground.phase }, { on := 12, ground := Ground.phase }, { on := 13, ground := Ground.phase }, { on := 14, ground := Ground.phase }, { on := 15, ground := Ground.phase }, { on := 16, ground := Ground.phase }, { on := 17, ground := Ground.phase }, { on := 18, ground := Ground.phase }, { on := 19, ground := Ground.phase }, { on := 20, ground := Ground.phase }, { on := 21, ground := Ground.phase }], guard := none }) (v := ?_) rfl (by kernel_rfl) (by kernel_rfl) (by kernel_rfl) (fun _ _ _ h => h) (by rfl) ?_ ?_
      rotate_left
      · (intro x; go_simp; try with_reducible rfl)
      try simp only [Act.put, List.setIfInBounds_toArray, List.set_cons_zero, List.set_cons_succ]
      refine wpAnyH_done (by kernel_rfl) ?_ _
      go_wp2_with fail
      go_ret
      exact ⟨rfl, HB4.out.trans (below_sub HX.out HB4.out.size)⟩
end Go.Proofs.YtgenmebmdpnjhaaGreat
