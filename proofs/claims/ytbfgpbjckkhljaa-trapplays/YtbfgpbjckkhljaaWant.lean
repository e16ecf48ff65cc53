/- TrapPlays: want, at one level over the next. -/
import Derived.Test.YtbfgpbjckkhljaaPlayer
import Derived.Deep.RegionLaw
namespace Go.Proofs.Ytbfgpbjckkhljaa
open Go.RowKit

def WantC (g : Arg) (s : Nat → List Int → Res) (deep : Int) : Prop := ∀ (A base : Nat) (v : Value) (a : Nat) (log : List Int) (W : World), PL g A base v a log W → a ≤ min g.len 50 → log.length ≤ a →
  Calls Try.prog 22 #[.pointer (some ⟨A, 0, none⟩), .int .i64 deep] W fun e W' => e = .returned (.int .i64 (s a log).2.2) ∧ ∃ v', PL g A base v' (s a log).1 (s a log).2.1 W' ∧ Went A v v' W W'

/-- What holds of the level below. -/
def SubOk (g : Arg) (sub : Option (Nat → List Int → Res)) (deep : Int) (C : Arg → (Nat → List Int → Res) → Int → Prop) : Prop :=
  (sub = none ∧ deep = 5) ∨ ∃ s, sub = some s ∧ 0 ≤ deep ∧ deep < 5 ∧ GoodSub (min g.len 50) s ∧ C g s (deep + 1)

theorem Arg.f_ok (g : Arg) : Steps' g.f := ⟨fun i => ⟨Int.emod_nonneg _ (by omega), by have := Int.emod_lt_of_pos (g.z i).1 (show (0 : Int) < 9 by omega); simp only [Arg.f]; omega⟩, fun i => ⟨Int.emod_nonneg _ (by omega), by have := Int.emod_lt_of_pos (g.z i).2 (show (0 : Int) < 9 by omega); simp only [Arg.f]; omega⟩⟩

theorem rounds_stop {f : Nat → Int × Int} {n k a : Nat} {sub : Option (Nat → List Int → Res)} {log : List Int} {o : Int} {x : Nat} {l : List Int} (ha : a < n) (h : one f sub a log = (some o, x, l)) : rounds' f n sub (k + 1) a log = (x, l, o) := by
  simp only [rounds', if_pos ha, h]
theorem rounds_go {f : Nat → Int × Int} {n k a : Nat} {sub : Option (Nat → List Int → Res)} {log : List Int} {x : Nat} {l : List Int} (ha : a < n) (h : one f sub a log = (none, x, l)) : rounds' f n sub (k + 1) a log = rounds' f n sub k x l := by
  simp only [rounds', if_pos ha, h]
theorem rounds_end {f : Nat → Int × Int} {n k a : Nat} {sub : Option (Nat → List Int → Res)} {log : List Int} (ha : ¬ a < n) : rounds' f n sub k a log = (a, log, 0) := by
  cases k <;> simp [rounds', ha]

theorem SubOk.good {g : Arg} {sub : Option (Nat → List Int → Res)} {deep : Int} {C : Arg → (Nat → List Int → Res) → Int → Prop} (h : SubOk g sub deep C) : ∀ s, sub = some s → GoodSub (min g.len 50) s := by
  intro s hs
  rcases h with ⟨h, _⟩ | ⟨s', h, _, _, hg, _⟩
  · rw [h] at hs; cases hs
  · rw [h] at hs; cases hs; exact hg

theorem one_mark {f : Nat → Int × Int} {sub : Option (Nat → List Int → Res)} {a : Nat} {log : List Int} {x y : Int} (hx : (f a).1 = x) (hy : (f a).2 = y) (h : x < 3) : one f sub a log = (none, a + 1, log ++ [y]) := by
  unfold one
  rw [hx, hy, if_neg (by omega), if_neg (by omega), if_neg (by omega), if_neg (by omega), if_neg (by omega), if_neg (by omega)]

theorem one_end {f : Nat → Int × Int} {sub : Option (Nat → List Int → Res)} {a : Nat} {log : List Int} (hx : (f a).1 = 5) : one f sub a log = (some 0, a + 1, log) := by
  unfold one
  rw [hx]; simp
theorem one_stop {f : Nat → Int × Int} {sub : Option (Nat → List Int → Res)} {a : Nat} {log : List Int} {y : Int} (hx : (f a).1 = 6) (hy : (f a).2 = y) (h : 0 < y) : one f sub a log = (some y, a + 1, log) := by
  unfold one
  rw [hx, hy]; simp [h]
theorem one_stop0 {f : Nat → Int × Int} {sub : Option (Nat → List Int → Res)} {a : Nat} {log : List Int} {y : Int} (hx : (f a).1 = 6) (hy : (f a).2 = y) (h : ¬ 0 < y) : one f sub a log = (none, a + 1, log) := by
  unfold one
  rw [hx, hy]; simp [h]
theorem one_need {f : Nat → Int × Int} {sub : Option (Nat → List Int → Res)} {a : Nat} {log : List Int} {y : Int} (hx : (f a).1 = 7) (hy : (f a).2 = y) (h : y % 2 = 1) : one f sub a log = (some y, a + 1, log) := by
  unfold one
  rw [hx, hy]; simp [h]
theorem one_need0 {f : Nat → Int × Int} {sub : Option (Nat → List Int → Res)} {a : Nat} {log : List Int} {y : Int} (hx : (f a).1 = 7) (hy : (f a).2 = y) (h : ¬ y % 2 = 1) : one f sub a log = (none, a + 1, log) := by
  unfold one
  rw [hx, hy]; simp [h]
theorem one_throw {f : Nat → Int × Int} {sub : Option (Nat → List Int → Res)} {a : Nat} {log : List Int} {y : Int} (hx : (f a).1 = 8) (hy : (f a).2 = y) : one f sub a log = (some (50 + y), a + 1, log) := by
  unfold one
  rw [hx, hy]; simp
theorem one_run0 {f : Nat → Int × Int} {a : Nat} {log : List Int} (hx : (f a).1 = 3) : one f none a log = (none, a + 1, log) := by
  unfold one
  rw [hx]; simp
theorem one_each0 {f : Nat → Int × Int} {a : Nat} {log : List Int} (hx : (f a).1 = 4) : one f none a log = (none, a + 1, log) := by
  unfold one
  rw [hx]; simp
theorem one_run_out {f : Nat → Int × Int} {a : Nat} {log : List Int} {s : Nat → List Int → Res} {r : Res} (hx : (f a).1 = 3) (hr : s (a + 1) log = r) (h : 50 ≤ r.2.2) : one f (some s) a log = (some r.2.2, r.1, r.2.1) := by
  unfold one
  rw [hx]; simp [hr, h]
theorem one_run {f : Nat → Int × Int} {a : Nat} {log : List Int} {s : Nat → List Int → Res} {r : Res} (hx : (f a).1 = 3) (hr : s (a + 1) log = r) (h : ¬ 50 ≤ r.2.2) : one f (some s) a log = (none, r.1, r.2.1 ++ [100 + r.2.2]) := by
  unfold one
  rw [hx]; simp [hr, h]
theorem one_each_out {f : Nat → Int × Int} {a : Nat} {log : List Int} {s : Nat → List Int → Res} {r : Res} (hx : (f a).1 = 4) (hr : s (a + 1) log = r) (h : 50 ≤ r.2.2) : one f (some s) a log = (some r.2.2, r.1, r.2.1) := by
  unfold one
  have : ¬ r.2.2 = 0 := by omega
  rw [hx]; simp [hr, h, this]
theorem one_each_err {f : Nat → Int × Int} {a : Nat} {log : List Int} {s : Nat → List Int → Res} {r : Res} (hx : (f a).1 = 4) (hr : s (a + 1) log = r) (h : ¬ 50 ≤ r.2.2) (h0 : ¬ r.2.2 = 0) : one f (some s) a log = (none, r.1, r.2.1 ++ [200 + r.2.2]) := by
  unfold one
  rw [hx]; simp [hr, h, h0]
theorem one_each_out2 {f : Nat → Int × Int} {a : Nat} {log : List Int} {s : Nat → List Int → Res} {r q : Res} (hx : (f a).1 = 4) (hr : s (a + 1) log = r) (h0 : r.2.2 = 0) (hq : s r.1 r.2.1 = q) (h : 50 ≤ q.2.2) : one f (some s) a log = (some q.2.2, q.1, q.2.1) := by
  unfold one
  rw [hx]; simp [hr, h0, hq, h]
theorem one_each_all {f : Nat → Int × Int} {a : Nat} {log : List Int} {s : Nat → List Int → Res} {r q : Res} (hx : (f a).1 = 4) (hr : s (a + 1) log = r) (h0 : r.2.2 = 0) (hq : s r.1 r.2.1 = q) (h : q.2.2 = 0) : one f (some s) a log = (none, q.1, q.2.1 ++ [220]) := by
  unfold one
  rw [hx]; simp [hr, h0, hq, h]
theorem one_each_err2 {f : Nat → Int × Int} {a : Nat} {log : List Int} {s : Nat → List Int → Res} {r q : Res} (hx : (f a).1 = 4) (hr : s (a + 1) log = r) (h0 : r.2.2 = 0) (hq : s r.1 r.2.1 = q) (h : ¬ 50 ≤ q.2.2) (h1 : ¬ q.2.2 = 0) : one f (some s) a log = (none, q.1, q.2.1 ++ [210 + q.2.2]) := by
  unfold one
  rw [hx]; simp [hr, h0, hq, h, h1]

def atOf (A : Nat) (w : World) : Nat := match w.cell? ⟨A, 1, none⟩ with | some (.int _ q) => q.toNat | _ => 0

theorem PL.atOf {g : Arg} {A base : Nat} {v : Value} {a : Nat} {log : List Int} {W : World} (h : PL g A base v a log W) : Ytbfgpbjckkhljaa.atOf A W = a := by
  simp [Ytbfgpbjckkhljaa.atOf, h.ix]

theorem grown_undrew {w w1 : World} {r : Option Nat} (h : w.drew.grownBy w1 r) : w.grownBy w1 r := ⟨h.os, h.tape, h.output, h.size, h.block⟩

theorem PL.after {g : Arg} {A base : Nat} {v : Value} {a : Nat} {log : List Int} {W w1 : World} {m : Int} (h : PL g A base v a log W) (hg : (W.alloc (.cells #[.int .i64 m] 3)).grownBy w1 v.ownBlock) : w1.cell? ⟨A, 2, none⟩ = some v ∧ w1.frozen? ⟨A, 2, none⟩ = false := by
  have hA : A < W.heap.size := World.block_lt_of_cell? W _ h.ix
  have e : w1.heap[A]? = W.heap[A]? := (hg.block A (by simp; omega) (fun e => h.nA e.symm)).trans (Below.heap_alloc _ _ _ hA)
  exact ⟨(World.cell?_of_block (a := ⟨A, 2, none⟩) e).trans h.lg, (World.frozen?_of_block (a := ⟨A, 2, none⟩) e).trans (h.fz 2)⟩

/-- A round that goes on. -/
theorem round_on {g : Arg} {sub : Option (Nat → List Int → Res)} {A base n k a' x : Nat} {log' l : List Int} {v v' : Value} {W w wr : World} {R : Res} (hs : ∀ s, sub = some s → GoodSub (min g.len 50) s) (hn : n = min g.len 50)
    (hR : rounds' g.f n sub k a' log' = R) (hk : n - a' < k) (hlt : a' < n) (hl : log'.length ≤ a') (hat : atOf A wr = a') (hone : one g.f sub a' log' = (none, x, l)) (hP : PL g A base v' x l w) (hW : Went A v v' W w) :
    (∃ (k a' : Nat) (log' : List Int) (v' : Value), n - a' < k ∧ a' ≤ n ∧ log'.length ≤ a' ∧ rounds' g.f n sub k a' log' = R ∧ PL g A base v' a' log' w ∧ Went A v v' W w) ∧ n - atOf A w < n - atOf A wr := by
  have G := one_good g.f_ok sub (n := n) (by rw [hn]; exact hs) a' log' hlt
  rw [hone] at G
  have g1 := G.ge
  have g2 := G.le
  have g3 := G.len
  simp only at g1 g2 g3
  obtain ⟨k', rfl⟩ : ∃ k', k = k' + 1 := ⟨k - 1, by omega⟩
  rw [hP.atOf, hat]
  exact ⟨⟨k', x, l, v', by omega, g2, by omega, (rounds_go hlt hone).symm.trans hR, hP, hW⟩, by omega⟩

theorem round_ret {g : Arg} {sub : Option (Nat → List Int → Res)} {n k a' x : Nat} {log' l : List Int} {R : Res} {o : Int} (hR : rounds' g.f n sub k a' log' = R) (hk : n - a' < k) (hlt : a' < n) (hone : one g.f sub a' log' = (some o, x, l)) : R = (x, l, o) := by
  obtain ⟨k', rfl⟩ : ∃ k', k = k' + 1 := ⟨k - 1, by omega⟩
  exact hR.symm.trans (rounds_stop hlt hone)

set_option maxRecDepth 100000 in
set_option maxHeartbeats 8000000 in
theorem want_lvl (g : Arg) (sub : Option (Nat → List Int → Res)) (deep : Int) (hd : SubOk g sub deep WantC) : WantC g (rounds' g.f (min g.len 50) sub (min g.len 50 + 1)) deep := by
  intro A base v a log W h ha hl
  obtain ⟨n, hn⟩ : ∃ n, n = min g.len 50 := ⟨_, rfl⟩
  rw [← hn] at ha ⊢
  obtain ⟨R, hR⟩ : ∃ R, rounds' g.f n sub (n + 1) a log = R := ⟨_, rfl⟩
  rw [hR]
  have HR := Lib.hid hR
  have HN := Lib.hid hn
  clear hR hn
  go_enter Try.func22, Try.ntmps22
  go_wp2_with fail
  go_loopw [4] (fun _ wr => ∃ (k a' : Nat) (log' : List Int) (v' : Value), n - a' < k ∧ a' ≤ n ∧ log'.length ≤ a' ∧ rounds' g.f n sub k a' log' = R ∧ PL g A base v' a' log' wr ∧ Went A v v' W wr)
    (fun _ wr => n - atOf A wr)
  case atStart => exact ⟨n + 1, a, log, v, by omega, ha, hl, HR.out, h, Went.refl _ _ _⟩
  case round =>
    obtain ⟨k, a', log', v', hk, ha', hl', HRk0, hP, hWt⟩ := hrel
    have HRk := Lib.hid HRk0
    clear HRk0
    have hat := hP.atOf
    have HAT := Lib.hid hat
    clear hat HR ha hl h
    by_cases hlt : a' < n
    · go_wp2_with fail
      refine (more_yes g A base v' a' log' wr hP (by rw [← HN.out]; exact hlt)).mono ?_
      rintro e w1 ⟨rfl, q1, rfl⟩
      have hP1 := hP.drewN q1
      have hW1 := hWt.drewN q1
      clear hP hWt
      go_wp2_with fail
      refine (step_any g A base v' a' log' _ hP1 (by rw [← HN.out]; exact hlt)).mono ?_
      rintro e w2 ⟨rfl, hP2, hk2⟩
      have hW2 := hW1.trans (Went.of_kept (v := v') hk2)
      clear hP1 hW1 hk2
      have b1 := g.f_ok.w0 a'
      have b2 := g.f_ok.n0 a'
      obtain ⟨x, hx⟩ : ∃ x, (g.f a').1 = x := ⟨_, rfl⟩
      obtain ⟨y, hy⟩ : ∃ y, (g.f a').2 = y := ⟨_, rfl⟩
      rw [hx] at b1
      rw [hy] at b2
      rw [hx, hy]
      have HX := Lib.hid hx
      have HY := Lib.hid hy
      have hs := hd.good
      have HS := Lib.hid hs
      have hP3 := hP2.alloc (.cells #[.int .i64 x, .int .i64 y] 45)
      have hW3 := hW2.trans (Went.of_kept (v := v') (Kept.alloc (· = A) w2 (.cells #[.int .i64 x, .int .i64 y] 45)))
      clear hx hy hs
      obtain ⟨i0, hi, hz0, hz1, hz2⟩ := info_parts Try.info3
      rcases (by omega : x < 3 ∨ x = 3 ∨ x = 4 ∨ x = 5 ∨ x = 6 ∨ x = 7 ∨ x = 8) with c | c | c | c | c | c | c
      · go_wp2_with fail
        generalize hwx : w2.alloc (Obj.cells #[Value.int IntKind.i64 x, Value.int IntKind.i64 y] 45) = wx at hP3 hW3 ⊢
        have cy : wx.cell? ⟨w2.heap.size, 1, none⟩ = some (.int .i64 y) := by rw [← hwx]; simp [go_sem]
        have cl := hP3.lg
        have hA : A < wx.heap.size := World.block_lt_of_cell? wx _ hP3.ix
        have hown := hP3.own
        have hbw := hP3.baseW
        have h50 : log'.length < 50 := by have := HN.out; omega
        have HP3 := Lib.hid hP3
        clear hP3 hwx hP2 hW2
        go_region_law (refine step_append_lies _ (by rfl) _ _ _ (by rfl) base 3 i0 _ 1 8 Try.underlying31 hi hz0 hz1 hz2 rfl (by omega) v' log'.length (log'.map (Value.int .i64)) (by rfl) ((hown.alloc _).drew) ⟨wx.heap.size, 0, none⟩ 1 1 [.int .i64 y] (by rfl) (by rfl) (World.news_of_block (cs := #[.int .i64 y]) (t := 3) (fr := (0, 0)) (heap_alloc_new wx _)) (by simp [Value.oneCell']) (by omega) (by unfold maxLen; omega) (by omega) (by simp; omega) (wx.heap.size + 1) (by simp) ?_; intro gg cap w1 hown1 hgrow hat hltg; have hc1 := (HP3.out.after (grown_undrew hgrow)).1; have hf1 := (HP3.out.after (grown_undrew hgrow)).2)
        all_goals go_wp2_with fail
        all_goals
          obtain ⟨M1, M2⟩ := HP3.out.marked hown1 (grown_undrew hgrow) hat
          exact round_on HS.out HN.out HRk.out hk hlt hl' HAT.out (one_mark HX.out HY.out c) M1 (hW3.trans M2)
      · subst c
        rcases hd with ⟨rfl, rfl⟩ | ⟨s, rfl, d0, d5, hg, hC⟩
        · go_wp2_with fail
          exact round_on HS.out HN.out HRk.out hk hlt hl' HAT.out (one_run0 HX.out) hP3 hW3
        · go_wp2_with fail
          refine (hC A base v' (a' + 1) log' _ hP3 (by have := HN.out; omega) (by omega)).mono ?_
          rintro e w3 ⟨rfl, v3, hP4, hW4⟩
          have hG := hg (a' + 1) log' (by have := HN.out; omega)
          obtain ⟨r, hr⟩ : ∃ r, s (a' + 1) log' = r := ⟨_, rfl⟩
          rw [hr] at hP4 hG ⊢
          have hW5 := hW3.trans hW4
          have HR3 := Lib.hid hr
          have ro := hG.out
          have r1 := hG.le
          have r2 := hG.len
          rw [← HN.out] at r1
          have hr50 : r.2.1.length < 1000 := by have := HN.out; omega
          obtain ⟨o, ho⟩ : ∃ o, r.2.2 = o := ⟨_, rfl⟩
          rw [ho] at ro ⊢
          have HO := Lib.hid ho
          clear hP2 hW2 hP3 hW3 hW4 hC hg hG hr ho
          by_cases h50 : 50 ≤ o
          · go_wp2_with fail
            go_ret
            rw [round_ret HRk.out hk hlt (one_run_out HX.out HR3.out (by rw [HO.out]; exact h50))]
            exact ⟨by rw [HO.out]; rfl, v3, hP4, hW5⟩
          · have ro' : 0 ≤ o ∧ o ≤ 8 := by rcases ro with ro | ro <;> omega
            clear ro
            have cl := hP4.lg
            have hA : A < w3.heap.size := World.block_lt_of_cell? w3 _ hP4.ix
            have hown := hP4.own
            have hbw := hP4.baseW
            have HPP := Lib.hid hP4
            clear hP4
            go_wp2_with (at_builtin; refine wpList_append_lies _ rfl _ _ 31 rfl base 3 i0 (.int .i64 0) 1 8 Try.underlying31 hi hz0 hz1 hz2 rfl (by decide) v3 (r.2.1).length ((r.2.1).map (Value.int .i64)) rfl (hown.alloc _) ⟨w3.heap.size, 0, none⟩ 1 1 [.int .i64 (100 + o)] rfl rfl (World.news_of_block (cs := #[.int .i64 (100 + o)]) (t := 3) (fr := (0, 0)) (heap_alloc_new w3 _)) (by simp [Value.oneCell']) (by omega) (by unfold maxLen; omega) (by omega) (by simp; omega) (w3.heap.size + 1) (by simp) ?_; intro gg cap w1 hown1 hgrow hat hltg; have hc1 := (HPP.out.after hgrow).1; have hf1 := (HPP.out.after hgrow).2)
            obtain ⟨M1, M2⟩ := HPP.out.marked hown1 hgrow hat
            refine round_on HS.out HN.out HRk.out hk hlt hl' HAT.out (one_run HX.out HR3.out (by rw [HO.out]; omega)) ?_ (hW5.trans M2)
            rw [HO.out]
            exact M1
      · subst c
        rcases hd with ⟨rfl, rfl⟩ | ⟨s, rfl, d0, d5, hg, hC⟩
        · go_wp2_with fail
          exact round_on HS.out HN.out HRk.out hk hlt hl' HAT.out (one_each0 HX.out) hP3 hW3
        · go_wp2_with fail
          refine (hC A base v' (a' + 1) log' _ hP3 (by have := HN.out; omega) (by omega)).mono ?_
          rintro e w3 ⟨rfl, v3, hP4, hW4⟩
          have hG := hg (a' + 1) log' (by have := HN.out; omega)
          obtain ⟨r, hr⟩ : ∃ r, s (a' + 1) log' = r := ⟨_, rfl⟩
          rw [hr] at hP4 hG ⊢
          have hW5 := hW3.trans hW4
          have HR3 := Lib.hid hr
          have ro := hG.out
          have r1 := hG.le
          have r2 := hG.len
          rw [← HN.out] at r1
          have hr50 : r.2.1.length < 1000 := by have := HN.out; omega
          obtain ⟨o, ho⟩ : ∃ o, r.2.2 = o := ⟨_, rfl⟩
          rw [ho] at ro ⊢
          have HO := Lib.hid ho
          have HC := Lib.hid hC
          have HG := Lib.hid hg
          clear hP2 hW2 hP3 hW3 hW4 hG hr ho hC hg
          by_cases h50 : 50 ≤ o
          · go_wp2_with fail
            go_ret
            rw [round_ret HRk.out hk hlt (one_each_out HX.out HR3.out (by rw [HO.out]; exact h50))]
            exact ⟨by rw [HO.out]; rfl, v3, hP4, hW5⟩
          · have ro' : 0 ≤ o ∧ o ≤ 8 := by rcases ro with ro | ro <;> omega
            clear ro
            by_cases h0 : o = 0
            · subst h0
              go_wp2_with fail
              refine (HC.out A base v3 r.1 r.2.1 _ hP4 (by have := HN.out; omega) (by omega)).mono ?_
              rintro e w4 ⟨rfl, v4, hP5, hW6⟩
              have hG := HG.out r.1 r.2.1 (by have := HN.out; omega)
              obtain ⟨q, hq⟩ : ∃ q, s r.1 r.2.1 = q := ⟨_, rfl⟩
              rw [hq] at hP5 hG ⊢
              have hW7 := hW5.trans hW6
              have HQ3 := Lib.hid hq
              have qo := hG.out
              have s1 := hG.le
              have s2 := hG.len
              have s3 := hG.ge
              rw [← HN.out] at s1
              have hs50 : q.2.1.length < 1000 := by have := HN.out; omega
              obtain ⟨p, hp⟩ : ∃ p, q.2.2 = p := ⟨_, rfl⟩
              rw [hp] at qo ⊢
              have HPo := Lib.hid hp
              clear hP4 hW5 hW6 hG hq hp
              by_cases p50 : 50 ≤ p
              · go_wp2_with fail
                go_ret
                rw [round_ret HRk.out hk hlt (one_each_out2 HX.out HR3.out HO.out HQ3.out (by rw [HPo.out]; exact p50))]
                exact ⟨by rw [HPo.out]; rfl, v4, hP5, hW7⟩
              · have qo' : 0 ≤ p ∧ p ≤ 8 := by rcases qo with qo | qo <;> omega
                clear qo
                by_cases p0 : p = 0
                · subst p0
                  have cl := hP5.lg
                  have hA : A < w4.heap.size := World.block_lt_of_cell? w4 _ hP5.ix
                  have hown := hP5.own
                  have hbw := hP5.baseW
                  have HPP := Lib.hid hP5
                  clear hP5
                  go_wp2_with (at_builtin; refine wpList_append_lies _ rfl _ _ 31 rfl base 3 i0 (.int .i64 0) 1 8 Try.underlying31 hi hz0 hz1 hz2 rfl (by decide) v4 (q.2.1).length ((q.2.1).map (Value.int .i64)) rfl (hown.alloc _) ⟨w4.heap.size, 0, none⟩ 1 1 [.int .i64 (220)] rfl rfl (World.news_of_block (cs := #[.int .i64 (220)]) (t := 3) (fr := (0, 0)) (heap_alloc_new w4 _)) (by simp [Value.oneCell']) (by omega) (by unfold maxLen; omega) (by omega) (by simp; omega) (w4.heap.size + 1) (by simp) ?_; intro gg cap w1 hown1 hgrow hat hltg; have hc1 := (HPP.out.after hgrow).1; have hf1 := (HPP.out.after hgrow).2)
                  obtain ⟨M1, M2⟩ := HPP.out.marked hown1 hgrow hat
                  exact round_on HS.out HN.out HRk.out hk hlt hl' HAT.out (one_each_all HX.out HR3.out HO.out HQ3.out HPo.out) M1 (hW7.trans M2)
                · have pb : (p == 0) = false := by simp; exact p0
                  have cl := hP5.lg
                  have hA : A < w4.heap.size := World.block_lt_of_cell? w4 _ hP5.ix
                  have hown := hP5.own
                  have hbw := hP5.baseW
                  have HPP := Lib.hid hP5
                  clear hP5
                  go_wp2_with (at_builtin; refine wpList_append_lies _ rfl _ _ 31 rfl base 3 i0 (.int .i64 0) 1 8 Try.underlying31 hi hz0 hz1 hz2 rfl (by decide) v4 (q.2.1).length ((q.2.1).map (Value.int .i64)) rfl (hown.alloc _) ⟨w4.heap.size, 0, none⟩ 1 1 [.int .i64 (210 + p)] rfl rfl (World.news_of_block (cs := #[.int .i64 (210 + p)]) (t := 3) (fr := (0, 0)) (heap_alloc_new w4 _)) (by simp [Value.oneCell']) (by omega) (by unfold maxLen; omega) (by omega) (by simp; omega) (w4.heap.size + 1) (by simp) ?_; intro gg cap w1 hown1 hgrow hat hltg; have hc1 := (HPP.out.after hgrow).1; have hf1 := (HPP.out.after hgrow).2)
                  obtain ⟨M1, M2⟩ := HPP.out.marked hown1 hgrow hat
                  refine round_on HS.out HN.out HRk.out hk hlt hl' HAT.out (one_each_err2 HX.out HR3.out HO.out HQ3.out (by rw [HPo.out]; omega) (by rw [HPo.out]; exact p0)) ?_ (hW7.trans M2)
                  rw [HPo.out]
                  exact M1
            · have ob : (o == 0) = false := by simp; exact h0
              have cl := hP4.lg
              have hA : A < w3.heap.size := World.block_lt_of_cell? w3 _ hP4.ix
              have hown := hP4.own
              have hbw := hP4.baseW
              have HPP := Lib.hid hP4
              clear hP4
              go_wp2_with (at_builtin; refine wpList_append_lies _ rfl _ _ 31 rfl base 3 i0 (.int .i64 0) 1 8 Try.underlying31 hi hz0 hz1 hz2 rfl (by decide) v3 (r.2.1).length ((r.2.1).map (Value.int .i64)) rfl (hown.alloc _) ⟨w3.heap.size, 0, none⟩ 1 1 [.int .i64 (200 + o)] rfl rfl (World.news_of_block (cs := #[.int .i64 (200 + o)]) (t := 3) (fr := (0, 0)) (heap_alloc_new w3 _)) (by simp [Value.oneCell']) (by omega) (by unfold maxLen; omega) (by omega) (by simp; omega) (w3.heap.size + 1) (by simp) ?_; intro gg cap w1 hown1 hgrow hat hltg; have hc1 := (HPP.out.after hgrow).1; have hf1 := (HPP.out.after hgrow).2)
              obtain ⟨M1, M2⟩ := HPP.out.marked hown1 hgrow hat
              refine round_on HS.out HN.out HRk.out hk hlt hl' HAT.out (one_each_err HX.out HR3.out (by rw [HO.out]; omega) (by rw [HO.out]; exact h0)) ?_ (hW5.trans M2)
              rw [HO.out]
              exact M1
      · subst c
        go_wp2_with fail
        go_ret
        rw [round_ret HRk.out hk hlt (one_end HX.out)]
        exact ⟨rfl, v', hP3, hW3⟩
      · subst c
        by_cases hy0 : 0 < y
        · go_wp2_with fail
          go_ret
          rw [round_ret HRk.out hk hlt (one_stop HX.out HY.out hy0)]
          exact ⟨rfl, v', hP3, hW3⟩
        · go_wp2_with fail
          exact round_on HS.out HN.out HRk.out hk hlt hl' HAT.out (one_stop0 HX.out HY.out (by omega)) hP3 hW3
      · subst c
        by_cases hy0 : y % 2 = 1
        · go_wp2_with fail
          go_ret
          rw [round_ret HRk.out hk hlt (one_need HX.out HY.out hy0)]
          exact ⟨rfl, v', hP3, hW3⟩
        · go_wp2_with fail
          exact round_on HS.out HN.out HRk.out hk hlt hl' HAT.out (one_need0 HX.out HY.out (by omega)) hP3 hW3
      · subst c
        go_wp2_with fail
        go_ret
        rw [round_ret HRk.out hk hlt (one_throw HX.out HY.out)]
        exact ⟨rfl, v', hP3, hW3⟩
    · go_wp2_with fail
      refine (more_no g A base v' a' log' wr hP (by rw [← HN.out]; exact hlt)).mono ?_
      rintro e w1 ⟨rfl, q1, rfl⟩
      have hP1 := hP.drewN q1
      have hW1 := hWt.drewN q1
      clear hP hWt
      go_wp2_with fail
      go_ret
      have e : R = (a', log', 0) := HRk.out.symm.trans (rounds_end hlt)
      rw [e]
      exact ⟨rfl, v', hP1, hW1⟩

end Go.Proofs.Ytbfgpbjckkhljaa
