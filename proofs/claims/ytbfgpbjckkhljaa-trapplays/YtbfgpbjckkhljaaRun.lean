/- TrapPlays: run, at one level over the next. -/
import Derived.Test.YtbfgpbjckkhljaaRunSub
namespace Go.Proofs.Ytbfgpbjckkhljaa
open Go.RowKit

theorem outOf_err {y : Int} (h0 : 0 < y) (h8 : y ≤ 8) : outOf y = .err y := by
  unfold outOf
  rw [if_neg (by omega), if_pos (by omega)]
theorem outOf_other {y : Int} (h0 : 0 ≤ y) : outOf (50 + y) = .other 3 (.int .i64 y) := by
  unfold outOf
  rw [if_neg (by omega), if_neg (by omega)]
  congr 2
  omega
theorem outOf_out {o : Int} (h0 : 50 ≤ o) : outOf o = .other 3 (.int .i64 (o - 50)) := by
  unfold outOf
  rw [if_neg (by omega), if_neg (by omega)]

theorem f40 (b : Nat) (y : Int) (W : World) (h : W.cell? ⟨b, 1, none⟩ = some (.int .i64 y)) : Calls Try.prog 40 #[.pointer (some ⟨b, 0, none⟩)] W fun e w' => e = .panicked [{ v := .iface 3 (.int .i64 y), recovered := false }] ∧ W = w' := by
  go_enter Try.func40, Try.ntmps40
  go_wp2
  exact ⟨rfl, rfl, rfl⟩

theorem box_after {w w1 : World} {b : Nat} {v u : Value} {o : Obj} (h : w.cell? ⟨b, 0, none⟩ = some u) (hv : v.ownBlock ≠ some b) (hg : (w.alloc o).grownBy w1 v.ownBlock) : w1.cell? ⟨b, 0, none⟩ = some u := by
  have hb : b < w.heap.size := World.block_lt_of_cell? w _ h
  exact (hg.cell_far ⟨b, 0, none⟩ (by simp; omega) (fun e => hv e.symm)).trans ((World.cell?_alloc_lt w o ⟨b, 0, none⟩ hb).trans h)

set_option maxRecDepth 100000 in
set_option maxHeartbeats 16000000 in
theorem run_lvl (g : Arg) (sub : Option (Nat → List Int → Res)) (deep : Int) (hd : SubOk g sub deep RunC) : RunC g (rounds' g.f (min g.len 50) sub (min g.len 50 + 1)) deep := by
  intro A base v a log W h ha hl
  have hmf : ∀ (fn : Fn) (first cap : Array Value) (w : World), (Instr.makeFunc fn first cap).run Try.prog w = .ok (.func fn first cap) w := fun _ _ _ _ => rfl
  obtain ⟨n, hn⟩ : ∃ n, n = min g.len 50 := ⟨_, rfl⟩
  rw [← hn] at ha ⊢
  obtain ⟨R, hR⟩ : ∃ R, rounds' g.f n sub (n + 1) a log = R := ⟨_, rfl⟩
  rw [hR]
  have HR := Lib.hid hR
  have HN := Lib.hid hn
  clear hR hn
  have hA : A < W.heap.size := World.block_lt_of_cell? W _ h.ix
  have hvb : ∀ k, v.ownBlock = some k → k < W.heap.size := fun k e => (h.own.lt k e).2
  have hbox : ∀ (v' : Value) (X : World), Went A v v' ((W.alloc (.cells #[.pointer (some ⟨A, 0, none⟩)] 30)).alloc (.cells #[.int .i64 deep] 3)) X →
      X.cell? ⟨W.heap.size, 0, none⟩ = some (.pointer (some ⟨A, 0, none⟩)) ∧ X.cell? ⟨W.heap.size + 1, 0, none⟩ = some (.int .i64 deep) ∧ v'.ownBlock ≠ some W.heap.size ∧ v'.ownBlock ≠ some (W.heap.size + 1) := by
    intro v' X hX
    refine ⟨hX.cell (p := ⟨W.heap.size, 0, none⟩) (by simp [go_sem]) (by simp; omega) (fun e => by have := hvb _ e; simp at this), hX.cell (p := ⟨W.heap.size + 1, 0, none⟩) (by simp [go_sem]) (by simp; omega) (fun e => by have := hvb _ e; simp at this; omega), fun e => ?_, fun e => ?_⟩
    · rcases hX.own with o | ⟨j, o, oj⟩
      · rw [o] at e; have := hvb _ e; omega
      · rw [o] at e; cases e; simp at oj; omega
    · rcases hX.own with o | ⟨j, o, oj⟩
      · rw [o] at e; have := hvb _ e; omega
      · rw [o] at e; cases e; simp at oj; omega
  have hP0 := (h.alloc (.cells #[.pointer (some ⟨A, 0, none⟩)] 30)).alloc (.cells #[.int .i64 deep] 3)
  have hW0 : Went A v v W ((W.alloc (.cells #[.pointer (some ⟨A, 0, none⟩)] 30)).alloc (.cells #[.int .i64 deep] 3)) := (Went.of_kept (Kept.alloc _ W _)).trans (Went.of_kept (Kept.alloc _ _ _))
  go_enter Try.func21, Try.ntmps21
  go_wp2_with fail
  generalize hWW : (W.alloc (Obj.cells #[Value.pointer (some { block := A, off := 0 })] 30)).alloc (Obj.cells #[Value.int IntKind.i64 deep] 3) = W1 at hbox hP0 hW0 ⊢
  have HBOX := Lib.hid hbox
  have HW0 := Lib.hid hW0
  clear hWW hbox hW0 h hvb
  go_loopw [] (fun wr => ∃ (k a' : Nat) (log' : List Int) (v' : Value), n - a' < k ∧ a' ≤ n ∧ log'.length ≤ a' ∧ rounds' g.f n sub k a' log' = R ∧ PL g A base v' a' log' wr ∧ Went A v v' W1 wr)
    (fun wr => n - atOf A wr)
  case atStart => exact ⟨n + 1, a, log, v, by omega, ha, hl, HR.out, hP0, Went.refl _ _ _⟩
  case round =>
    obtain ⟨k, a', log', v', hk, ha', hl', HRk0, hP, hWt⟩ := hrel
    have HRk := Lib.hid HRk0
    clear HRk0
    have hat := hP.atOf
    have HAT := Lib.hid hat
    clear hat HR ha hl hP0
    obtain ⟨x2, x3, x4, x5⟩ := HBOX.out _ _ hWt
    by_cases hlt : a' < n
    · go_wp2_with fail
      refine (more_yes g A base v' a' log' wr hP (by rw [← HN.out]; exact hlt)).mono ?_
      rintro e w1 ⟨rfl, q1, rfl⟩
      have hP1 := hP.drewN q1
      have hW1 := hWt.drewN q1
      clear hP hWt x2 x3 x4 x5
      obtain ⟨x2, x3, x4, x5⟩ := HBOX.out _ _ hW1
      go_wp2_with fail
      refine (step_any g A base v' a' log' _ hP1 (by rw [← HN.out]; exact hlt)).mono ?_
      rintro e w2 ⟨rfl, hP2, hk2⟩
      have hW2 := hW1.trans (Went.of_kept (v := v') hk2)
      clear hP1 hW1 hk2 x2 x3 x4 x5
      have b1 := g.f_ok.w0 a'
      have b2 := g.f_ok.n0 a'
      obtain ⟨x, hx⟩ : ∃ x, (g.f a').1 = x := ⟨_, rfl⟩
      obtain ⟨y, hy⟩ : ∃ y, (g.f a').2 = y := ⟨_, rfl⟩
      rw [hx] at b1
      rw [hy] at b2
      rw [hx, hy]
      have HX := Lib.hid hx
      have HY := Lib.hid hy
      have hs := hd.good
      have HS := Lib.hid hs
      have hP3 := hP2.alloc (.cells #[.int .i64 x, .int .i64 y] 45)
      have hW3 := hW2.trans (Went.of_kept (v := v') (Kept.alloc (· = A) w2 (.cells #[.int .i64 x, .int .i64 y] 45)))
      have x6 : v'.ownBlock ≠ some w2.heap.size := fun e => by have := (hP2.own.lt _ e).2; omega
      have nA6 : A < w2.heap.size := World.block_lt_of_cell? w2 _ hP2.ix
      clear hx hy hs hP2 hW2
      obtain ⟨x2, x3, x4, x5⟩ := HBOX.out _ _ hW3
      obtain ⟨i0, hi, hz0, hz1, hz2⟩ := info_parts Try.info3
      rcases (by omega : x < 3 ∨ x = 3 ∨ x = 4 ∨ x = 5 ∨ x = 6 ∨ x = 7 ∨ x = 8) with c | c | c | c | c | c | c
      · go_wp2_with fail
        generalize hwx : w2.alloc (Obj.cells #[Value.int IntKind.i64 x, Value.int IntKind.i64 y] 45) = wx at hP3 hW3 x2 x3 ⊢
        have cy : wx.cell? ⟨w2.heap.size, 1, none⟩ = some (.int .i64 y) := by rw [← hwx]; simp [go_sem]
        have cl := hP3.lg
        have hAx : A < wx.heap.size := World.block_lt_of_cell? wx _ hP3.ix
        have hown := hP3.own
        have hbw := hP3.baseW
        have h50 : log'.length < 50 := by have := HN.out; omega
        have hx2 : W.heap.size < wx.heap.size := World.block_lt_of_cell? wx _ x2
        have hxy : w2.heap.size < wx.heap.size := World.block_lt_of_cell? wx _ cy
        have HP3 := Lib.hid hP3
        clear hP3 hwx x3
        go_region_law (refine step_append_lies _ (by rfl) _ _ _ (by rfl) base 3 i0 _ 1 8 Try.underlying31 hi hz0 hz1 hz2 rfl (by omega) v' (log').length ((log').map (Value.int .i64)) (by rfl) ((hown.alloc _).drew) ⟨wx.heap.size, 0, none⟩ 1 1 [.int .i64 (y)] (by rfl) (by rfl) (World.news_of_block (cs := #[.int .i64 (y)]) (t := 3) (fr := (0, 0)) (heap_alloc_new wx _)) (by simp [Value.oneCell']) (by omega) (by unfold maxLen; omega) (by omega) (by simp; omega) (wx.heap.size + 1) (by simp) ?_; intro gg cap w1 hown1 hgrow hat hltg; have hc1 := (HP3.out.after (grown_undrew hgrow)).1; have hf1 := (HP3.out.after (grown_undrew hgrow)).2; have hb1 := box_after x2 x4 (grown_undrew hgrow))
        all_goals go_wp2_with fail
        all_goals
          obtain ⟨M1, M2⟩ := HP3.out.marked hown1 (grown_undrew hgrow) hat
          exact round_on HS.out HN.out HRk.out hk hlt hl' HAT.out (one_mark HX.out HY.out c) M1 (hW3.trans M2)
      · subst c
        rcases hd with ⟨rfl, rfl⟩ | ⟨s, rfl, d0, d5, hg, hC⟩
        · go_wp2_with fail
          exact round_on HS.out HN.out HRk.out hk hlt hl' HAT.out (one_run0 HX.out) hP3 hW3
        · have HC := Lib.hid hC
          have HG := Lib.hid hg
          clear hC hg
          go_wp2_with fail
          refine (run_sub g s deep 37 (.inl rfl) HC.out A base W.heap.size (W.heap.size + 1) v' (a' + 1) log' _ hP3 (by have := HN.out; omega) (by omega) x2 x3 d0 d5).mono ?_
          rintro e w3 ⟨he, v3, hP4, hW4⟩
          have hG := HG.out (a' + 1) log' (by have := HN.out; omega)
          obtain ⟨r, hr⟩ : ∃ r, s (a' + 1) log' = r := ⟨_, rfl⟩
          rw [hr] at hP4 hG he
          have hW5 := hW3.trans hW4
          have HR3 := Lib.hid hr
          have ro := hG.out
          have r1 := hG.le
          have r2 := hG.len
          rw [← HN.out] at r1
          have hr50 : r.2.1.length < 1000 := by have := HN.out; omega
          obtain ⟨o, ho⟩ : ∃ o, r.2.2 = o := ⟨_, rfl⟩
          rw [ho] at ro he
          have HO := Lib.hid ho
          clear hP3 hW3 hW4 hG hr ho x2 x3 x4 x5
          obtain ⟨x2, x3, x4, x5⟩ := HBOX.out _ _ hW5
          rcases runEnds_out he with ⟨h50, rfl⟩ | ⟨h50, cc, rfl, hcc⟩
          · have ro' : 0 ≤ o ∧ o ≤ 8 := by rcases ro with ro | ro <;> omega
            clear ro he
            have cl := hP4.lg
            have hAx : A < w3.heap.size := World.block_lt_of_cell? w3 _ hP4.ix
            have hown := hP4.own
            have hbw := hP4.baseW
            have hx2 : W.heap.size < w3.heap.size := World.block_lt_of_cell? w3 _ x2
            have HPP := Lib.hid hP4
            clear hP4
            go_wp2_with fail
            have hwrap : IntKind.i64.wrap (100 + o) = 100 + o := IntWalk.i64_in _ (by omega)
            go_region_law (refine step_append_lies _ (by rfl) _ _ _ (by rfl) base 3 i0 _ 1 8 Try.underlying31 hi hz0 hz1 hz2 rfl (by omega) v3 (r.2.1).length ((r.2.1).map (Value.int .i64)) (by rfl) ((hown.alloc _).drew) ⟨w3.heap.size, 0, none⟩ 1 1 [.int .i64 (100 + o)] (by rfl) (by rfl) (World.news_of_block (cs := #[.int .i64 (100 + o)]) (t := 3) (fr := (0, 0)) (heap_alloc_new w3 _)) (by simp [Value.oneCell']) (by omega) (by unfold maxLen; omega) (by omega) (by simp; omega) (w3.heap.size + 1) (by simp) ?_; intro gg cap w1 hown1 hgrow hat hltg; have hc1 := (HPP.out.after (grown_undrew hgrow)).1; have hf1 := (HPP.out.after (grown_undrew hgrow)).2; have hb1 := box_after x2 x4 (grown_undrew hgrow))
            all_goals go_wp2_with fail
            all_goals
              obtain ⟨M1, M2⟩ := HPP.out.marked hown1 (grown_undrew hgrow) hat
              refine round_on HS.out HN.out HRk.out hk hlt hl' HAT.out (one_run HX.out HR3.out (by rw [HO.out]; omega)) ?_ (hW5.trans M2)
              rw [HO.out]
              exact M1
          · refine ⟨rfl, ?_⟩
            rw [round_ret HRk.out hk hlt (one_run_out HX.out HR3.out (by rw [HO.out]; exact h50))]
            refine ⟨?_, v3, hP4, HW0.out.trans hW5⟩
            show Ends (outOf r.2.2) _
            rw [HO.out, outOf_out h50]
            exact ⟨by decide, cc, rfl, hcc⟩
      · subst c
        rcases hd with ⟨rfl, rfl⟩ | ⟨s, rfl, d0, d5, hg, hC⟩
        · go_wp2_with fail
          exact round_on HS.out HN.out HRk.out hk hlt hl' HAT.out (one_each0 HX.out) hP3 hW3
        · have HC := Lib.hid hC
          have HG := Lib.hid hg
          clear hC hg
          have hxx : W.heap.size + 1 < (w2.alloc (Obj.cells #[Value.int IntKind.i64 4, Value.int IntKind.i64 y] 45)).heap.size := World.block_lt_of_cell? _ _ x3
          have hvx : ∀ k, v'.ownBlock = some k → k < (w2.alloc (Obj.cells #[Value.int IntKind.i64 4, Value.int IntKind.i64 y] 45)).heap.size := fun k e => (hP3.own.lt k e).2
          go_wp2_with fail
          generalize hwx : w2.alloc (Obj.cells #[Value.int IntKind.i64 4, Value.int IntKind.i64 y] 45) = wx at hP3 hW3 x2 x3 hxx hvx ⊢
          have hsx : w2.heap.size + 1 = wx.heap.size := by rw [← hwx]; simp
          rw [hsx]
          refine (each_sub g s deep HG.out HC.out A base W.heap.size (W.heap.size + 1) wx.heap.size v' (a' + 1) log' _ (hP3.alloc _) (by have := HN.out; omega) (by omega) ((World.cell?_alloc_lt wx _ ⟨W.heap.size, 0, none⟩ (by simp; omega)).trans x2) ((World.cell?_alloc_lt wx _ ⟨W.heap.size + 1, 0, none⟩ hxx).trans x3) d0 d5
            ⟨by omega, x4⟩ ⟨by omega, x5⟩ ⟨by have : A < wx.heap.size := World.block_lt_of_cell? wx _ hP3.ix; omega, fun e => by have := hvx _ e; omega⟩ (by simp) (by simp)).mono ?_
          rintro e w3 ⟨he, v3, hP4, hW4⟩
          have hW5 := (hW3.trans (Went.of_kept (v := v') (Kept.alloc (· = A) wx _))).trans hW4
          have g1 := HG.out (a' + 1) log' (by have := HN.out; omega)
          obtain ⟨r, hr⟩ : ∃ r, s (a' + 1) log' = r := ⟨_, rfl⟩
          obtain ⟨q, hq⟩ : ∃ q, s r.1 r.2.1 = q := ⟨_, rfl⟩
          rw [hr] at g1
          have g2 := HG.out r.1 r.2.1 g1.le
          rw [hq] at g2
          have hE : eachRes s (a' + 1) log' = if r.2.2 = 0 then (if q.2.2 = 0 then (2, q) else (1, q)) else (0, r) := by unfold eachRes; rw [hr, hq]
          have ro := g1.out
          have r1 := g1.le
          have r2 := g1.len
          have qo := g2.out
          have q1 := g2.le
          have q2 := g2.len
          have q3 := g2.ge
          have HR3 := Lib.hid hr
          have HQ3 := Lib.hid hq
          have hn50 : min g.len 50 ≤ 50 := by omega
          have hr50 : r.2.1.length < 1000 := by omega
          have hq50 : q.2.1.length < 1000 := by omega
          clear hP3 hW3 hW4 g1 g2 hr hq x2 x3 x4 x5 r1 r2 q1 q2 q3 hxx hvx hsx hwx
          obtain ⟨x2, x3, x4, x5⟩ := HBOX.out _ _ hW5
          by_cases r0 : r.2.2 = 0
          · rw [if_pos r0] at hE
            have HR0 := Lib.hid r0
            clear r0 ro
            by_cases q0 : q.2.2 = 0
            · rw [if_pos q0] at hE
              rw [hE] at he hP4
              have HQ0 := Lib.hid q0
              clear hE qo
              rcases he with ⟨_, rfl⟩ | ⟨h50, _⟩
              case inr => simp only [q0] at h50; omega
              simp only [q0]
              clear q0
              have cl := hP4.lg
              have hAx : A < w3.heap.size := World.block_lt_of_cell? w3 _ hP4.ix
              have hown := hP4.own
              have hbw := hP4.baseW
              have hx2 : W.heap.size < w3.heap.size := World.block_lt_of_cell? w3 _ x2
              have HPP := Lib.hid hP4
              clear hP4
              go_wp2_with fail
              go_region_law (refine step_append_lies _ (by rfl) _ _ _ (by rfl) base 3 i0 _ 1 8 Try.underlying31 hi hz0 hz1 hz2 rfl (by omega) v3 (q.2.1).length ((q.2.1).map (Value.int .i64)) (by rfl) ((hown.alloc _).drew) ⟨w3.heap.size, 0, none⟩ 1 1 [.int .i64 (220)] (by rfl) (by rfl) (World.news_of_block (cs := #[.int .i64 (220)]) (t := 3) (fr := (0, 0)) (heap_alloc_new w3 _)) (by simp [Value.oneCell']) (by omega) (by unfold maxLen; omega) (by omega) (by simp; omega) (w3.heap.size + 1) (by simp) ?_; intro gg cap w1 hown1 hgrow hat hltg; have hc1 := (HPP.out.after (grown_undrew hgrow)).1; have hf1 := (HPP.out.after (grown_undrew hgrow)).2; have hb1 := box_after x2 x4 (grown_undrew hgrow))
              all_goals go_wp2_with fail
              all_goals
                obtain ⟨M1, M2⟩ := HPP.out.marked hown1 (grown_undrew hgrow) hat
                exact round_on HS.out HN.out HRk.out hk hlt hl' HAT.out (one_each_all HX.out HR3.out HR0.out HQ3.out HQ0.out) M1 (hW5.trans M2)
            · rw [if_neg q0] at hE
              rw [hE] at he hP4
              have HQ0 := Lib.hid q0
              clear hE q0
              obtain ⟨o, ho⟩ : ∃ o, q.2.2 = o := ⟨_, rfl⟩
              rw [ho] at qo he
              have HO := Lib.hid ho
              clear ho
              rcases he with ⟨h50, rfl⟩ | ⟨h50, cc, rfl, hcc⟩
              · have qo' : 0 ≤ o ∧ o ≤ 8 := by rcases qo with qo | qo <;> omega
                clear qo
                have cl := hP4.lg
                have hAx : A < w3.heap.size := World.block_lt_of_cell? w3 _ hP4.ix
                have hown := hP4.own
                have hbw := hP4.baseW
                have hx2 : W.heap.size < w3.heap.size := World.block_lt_of_cell? w3 _ x2
                have HPP := Lib.hid hP4
                clear hP4
                go_wp2_with fail
                have hwrap : IntKind.i64.wrap (210 + o) = 210 + o := IntWalk.i64_in _ (by omega)
                have hw1 : IntKind.i64.wrap 10 = 10 := IntWalk.i64_in _ (by omega)
                have hw2 : IntKind.i64.wrap 210 = 210 := IntWalk.i64_in _ (by omega)
                go_region_law (refine step_append_lies _ (by rfl) _ _ _ (by rfl) base 3 i0 _ 1 8 Try.underlying31 hi hz0 hz1 hz2 rfl (by omega) v3 (q.2.1).length ((q.2.1).map (Value.int .i64)) (by rfl) ((hown.alloc _).drew) ⟨w3.heap.size, 0, none⟩ 1 1 [.int .i64 (210 + o)] (by rfl) (by rfl) (World.news_of_block (cs := #[.int .i64 (210 + o)]) (t := 3) (fr := (0, 0)) (heap_alloc_new w3 _)) (by simp [Value.oneCell']) (by omega) (by unfold maxLen; omega) (by omega) (by simp; omega) (w3.heap.size + 1) (by simp) ?_; intro gg cap w1 hown1 hgrow hat hltg; have hc1 := (HPP.out.after (grown_undrew hgrow)).1; have hf1 := (HPP.out.after (grown_undrew hgrow)).2; have hb1 := box_after x2 x4 (grown_undrew hgrow))
                all_goals go_wp2_with fail
                all_goals
                  obtain ⟨M1, M2⟩ := HPP.out.marked hown1 (grown_undrew hgrow) hat
                  refine round_on HS.out HN.out HRk.out hk hlt hl' HAT.out (one_each_err2 HX.out HR3.out HR0.out HQ3.out (by rw [HO.out]; omega) HQ0.out) ?_ (hW5.trans M2)
                  rw [HO.out]
                  exact M1
              · refine ⟨rfl, ?_⟩
                rw [round_ret HRk.out hk hlt (one_each_out2 HX.out HR3.out HR0.out HQ3.out (by rw [HO.out]; exact h50))]
                refine ⟨?_, v3, hP4, HW0.out.trans hW5⟩
                show Ends (outOf q.2.2) _
                rw [HO.out, outOf_out h50]
                exact ⟨by decide, cc, rfl, hcc⟩
          · rw [if_neg r0] at hE
            rw [hE] at he hP4
            have HR0 := Lib.hid r0
            clear hE r0
            obtain ⟨o, ho⟩ : ∃ o, r.2.2 = o := ⟨_, rfl⟩
            rw [ho] at ro he
            have HO := Lib.hid ho
            clear ho
            rcases he with ⟨h50, rfl⟩ | ⟨h50, cc, rfl, hcc⟩
            · have ro' : 0 ≤ o ∧ o ≤ 8 := by rcases ro with ro | ro <;> omega
              clear ro
              have cl := hP4.lg
              have hAx : A < w3.heap.size := World.block_lt_of_cell? w3 _ hP4.ix
              have hown := hP4.own
              have hbw := hP4.baseW
              have hx2 : W.heap.size < w3.heap.size := World.block_lt_of_cell? w3 _ x2
              have HPP := Lib.hid hP4
              clear hP4
              go_wp2_with fail
              have hwrap : IntKind.i64.wrap (200 + o) = 200 + o := IntWalk.i64_in _ (by omega)
              have hw1 : IntKind.i64.wrap 0 = 0 := IntWalk.i64_in _ (by omega)
              have hw2 : IntKind.i64.wrap 200 = 200 := IntWalk.i64_in _ (by omega)
              go_region_law (refine step_append_lies _ (by rfl) _ _ _ (by rfl) base 3 i0 _ 1 8 Try.underlying31 hi hz0 hz1 hz2 rfl (by omega) v3 (r.2.1).length ((r.2.1).map (Value.int .i64)) (by rfl) ((hown.alloc _).drew) ⟨w3.heap.size, 0, none⟩ 1 1 [.int .i64 (200 + o)] (by rfl) (by rfl) (World.news_of_block (cs := #[.int .i64 (200 + o)]) (t := 3) (fr := (0, 0)) (heap_alloc_new w3 _)) (by simp [Value.oneCell']) (by omega) (by unfold maxLen; omega) (by omega) (by simp; omega) (w3.heap.size + 1) (by simp) ?_; intro gg cap w1 hown1 hgrow hat hltg; have hc1 := (HPP.out.after (grown_undrew hgrow)).1; have hf1 := (HPP.out.after (grown_undrew hgrow)).2; have hb1 := box_after x2 x4 (grown_undrew hgrow))
              all_goals go_wp2_with fail
              all_goals
                obtain ⟨M1, M2⟩ := HPP.out.marked hown1 (grown_undrew hgrow) hat
                refine round_on HS.out HN.out HRk.out hk hlt hl' HAT.out (one_each_err HX.out HR3.out (by rw [HO.out]; omega) HR0.out) ?_ (hW5.trans M2)
                rw [HO.out]
                exact M1
            · refine ⟨rfl, ?_⟩
              rw [round_ret HRk.out hk hlt (one_each_out HX.out HR3.out (by rw [HO.out]; exact h50))]
              refine ⟨?_, v3, hP4, HW0.out.trans hW5⟩
              show Ends (outOf r.2.2) _
              rw [HO.out, outOf_out h50]
              exact ⟨by decide, cc, rfl, hcc⟩
      · subst c
        go_wp2_with fail
        refine bodyPost_ret (results_none rfl _ _ _) rfl ?_
        rw [round_ret HRk.out hk hlt (one_end HX.out)]
        exact ⟨⟨_, rfl⟩, v', hP3, HW0.out.trans hW3⟩
      · subst c
        by_cases hy0 : 0 < y
        · have hyb : (y != 0) = true := by simp; omega
          go_wp2_with fail
          refine (stop_err y hyb _).mono ?_
          rintro e w3 ⟨rfl, rfl⟩
          refine ⟨rfl, ?_⟩
          rw [round_ret HRk.out hk hlt (one_stop HX.out HY.out hy0)]
          refine ⟨?_, v', hP3, HW0.out.trans hW3⟩
          show Ends (outOf y) _
          rw [outOf_err hy0 (by omega)]
          exact ⟨_, rfl, Chain.one _⟩
        · obtain rfl : y = 0 := by omega
          go_wp2_with (go_at_call 9; refine (stop_ok _).mono ?_; rintro e w' ⟨rfl, rfl⟩)
          exact round_on HS.out HN.out HRk.out hk hlt hl' HAT.out (one_stop0 HX.out HY.out (by omega)) hP3 hW3
      · subst c
        by_cases hy0 : y % 2 = 1
        · have hyb : (y != 0) = true := by simp; omega
          have hy2 : (y % 2 == 0) = false := by simp; omega
          go_wp2_with fail
          refine (need_err y hyb _).mono ?_
          rintro e w3 ⟨rfl, rfl⟩
          refine ⟨rfl, ?_⟩
          rw [round_ret HRk.out hk hlt (one_need HX.out HY.out hy0)]
          refine ⟨?_, v', hP3, HW0.out.trans hW3⟩
          show Ends (outOf y) _
          rw [outOf_err (by omega) (by omega)]
          exact ⟨_, rfl, Chain.one _⟩
        · have hy2 : (y % 2 == 0) = true := by simp; omega
          go_wp2_with (go_at_call 15; refine (need_ok y _).mono ?_; rintro e w' ⟨rfl, rfl⟩)
          exact round_on HS.out HN.out HRk.out hk hlt hl' HAT.out (one_need0 HX.out HY.out (by omega)) hP3 hW3
      · subst c
        go_wp2_with fail
        refine (f40 w2.heap.size y _ (by simp [go_sem])).mono ?_
        rintro e w3 ⟨rfl, rfl⟩
        refine ⟨rfl, ?_⟩
        rw [round_ret HRk.out hk hlt (one_throw HX.out HY.out)]
        refine ⟨?_, v', hP3, HW0.out.trans hW3⟩
        show Ends (outOf (50 + y)) _
        rw [outOf_other b2.1]
        exact ⟨by decide, _, rfl, Chain.one _⟩
    · go_wp2_with fail
      refine (more_no g A base v' a' log' wr hP (by rw [← HN.out]; exact hlt)).mono ?_
      rintro e w1 ⟨rfl, q1, rfl⟩
      have hP1 := hP.drewN q1
      have hW1 := hWt.drewN q1
      clear hP hWt x2 x3 x4 x5
      go_wp2_with fail
      have e : R = (a', log', 0) := HRk.out.symm.trans (rounds_end hlt)
      go_end0
      rw [e]
      exact ⟨⟨_, rfl⟩, v', hP1, HW0.out.trans hW1⟩

end Go.Proofs.Ytbfgpbjckkhljaa
