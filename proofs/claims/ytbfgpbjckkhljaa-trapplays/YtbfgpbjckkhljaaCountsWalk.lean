/- TrapCounts: the walk. -/
import Derived.Test.YtbfgpbjckkhljaaCounts
namespace Go.Proofs.Ytbfgpbjckkhljaa
open Go.RowKit

theorem one_new (W : World) (v : Value) (t : TypeId) (g : Nat) (hg : g = W.heap.size) : ∀ (j : Nat) (u : Value), [v][j]? = some u → (W.alloc (.cells #[v] t)).cell? ((⟨g, 0, none⟩ : Addr).add j) = some u := by
  intro j u hj
  subst hg
  match j, hj with
  | 0, hj => simp at hj; subst hj; simp [Addr.add]

theorem one_cell (B b : Nat) : ∀ u ∈ [clo B b], u.oneCell' = true := by
  intro u hu
  simp at hu
  subst hu
  rfl

theorem fst_hit (f : Nat → Int) (k : Nat) (h : fst f k < 0) (h1 : 0 < f k) : fst f (k + 1) = k ∧ fstE f (k + 1) = f k := by
  simp only [fst, fstE]; rw [if_pos ⟨h, h1⟩, if_pos ⟨h, h1⟩]; exact ⟨rfl, rfl⟩
theorem fst_miss (f : Nat → Int) (k : Nat) (h : ¬ (fst f k < 0 ∧ 0 < f k)) : fst f (k + 1) = fst f k ∧ fstE f (k + 1) = fstE f k := by
  simp only [fst, fstE]; rw [if_neg h, if_neg h]; exact ⟨rfl, rfl⟩

theorem ret_bool {b : Bool} (h : b = true) : Ending.returned (.bool b) = .returned (.bool true) := by rw [h]

theorem fin {w wr w2 w3 : World} (h : Below w.heap.size w wr) (hw : w.heap.size < wr.heap.size) (hk : Kept (· = w.heap.size) wr w2) (h3 : Below w2.heap.size w2 w3) : Below w.heap.size w w3 := by
  have := hk.size
  exact (h.trans (hk.below (by omega) (by intro k hk e; omega))).trans (h3.mono (by omega))

theorem CRel.fns {B : Nat} {f : Nat → Int} {w wr : World} {g n cap : Nat} {bs : List Nat} (h : CRel B f w wr (.slice (some ⟨g, 0, none⟩) n cap) bs) : Fns B bs f g wr := by
  refine ⟨?_, h.val, ?_, fun j hj => by have := h.bB j hj; omega⟩
  · intro j hj
    have := h.own.cells (g := g) rfl j (clo B (bs.getD j 0)) (by rw [List.getElem?_map, List.getElem?_eq_getElem hj]; simp [List.getD, List.getElem?_eq_getElem hj])
    rw [Nat.zero_add]
    have e : (⟨g, 0, none⟩ : Addr).add j = ⟨g, j, none⟩ := by simp only [Addr.add]; split <;> simp_all
    rw [e] at this
    exact this
  · have := (h.own.lt g rfl).1
    omega

theorem each_none (B g cap n : Nat) (bs : List Nat) (f : Nat → Int) (w W : World) (h : CRel B f w W (.slice (some ⟨g, 0, none⟩) n cap) bs) (hn : bs.length ≤ 20) (h0 : fst f bs.length < 0) :
    Calls Try.prog 10 #[.slice (some ⟨g, 0, none⟩) bs.length cap] W fun e w' =>
      e = .returned (.tuple #[.int .i64 bs.length, .int .i64 0]) ∧ w'.cell? ⟨B, 0, none⟩ = some (.int .i64 bs.length) ∧ Kept (· = B) W w' := by
  refine (each_counts B g cap bs f W hn h.fns h.cnt h.frz).mono ?_
  rintro e w' ⟨(⟨_, he, hc⟩ | ⟨hne, _⟩), hk⟩
  · exact ⟨he, hc, hk⟩
  · exact absurd h0 hne

theorem each_hit (B g cap n : Nat) (bs : List Nat) (f : Nat → Int) (w W : World) (h : CRel B f w W (.slice (some ⟨g, 0, none⟩) n cap) bs) (hn : bs.length ≤ 20) (h0 : ¬ fst f bs.length < 0) :
    Calls Try.prog 10 #[.slice (some ⟨g, 0, none⟩) bs.length cap] W fun e w' =>
      e = .returned (.tuple #[.int .i64 (fst f bs.length), .int .i64 (fstE f bs.length)]) ∧ w'.cell? ⟨B, 0, none⟩ = some (.int .i64 (fst f bs.length + 1)) ∧ Kept (· = B) W w' := by
  refine (each_counts B g cap bs f W hn h.fns h.cnt h.frz).mono ?_
  rintro e w' ⟨(⟨hne, _⟩ | ⟨_, he, hc⟩), hk⟩
  · exact absurd hne h0
  · exact ⟨he, hc, hk⟩

set_option maxRecDepth 100000 in
set_option maxHeartbeats 4000000 in
theorem counts_some (b off len cap : Nat) (zs : List Int) (w : World) (hlen : len ≤ zs.length) (hmax : len ≤ 9223372036854775807)
    (hc : ∀ j, j < zs.length → w.cell? ⟨b, off + j, none⟩ = some (.int .i64 (zs.getD j 0))) :
    Calls Try.prog 6 #[.slice (some ⟨b, off, none⟩) len cap] w fun e w' => e = .returned (.bool true) ∧ Below w.heap.size w w' := by
  have hmf : ∀ (fn : Fn) (first cap : Array Value) (w : World), (Instr.makeFunc fn first cap).run Try.prog w = .ok (.func fn first cap) w := fun _ _ _ _ => rfl
  obtain ⟨i0, hi, hz0, hz1, hz2⟩ := info_parts Try.info1
  obtain ⟨f, hf⟩ : ∃ f : Nat → Int, f = fun j => cv (zs.getD j 0) := ⟨_, rfl⟩
  have HF := Lib.hid hf
  clear hf
  have HC := Lib.hid hc
  clear hc
  go_enter Try.func6, Try.ntmps6
  go_wp2_with fail
  go_loopw [3, 5, 6, 7] (fun v fi ee i wr => ∃ (bs : List Nat), bs.length ≤ len ∧ bs.length ≤ 20 ∧ i = .int .i64 bs.length ∧ fi = .int .i64 (fst f bs.length) ∧ ee = .int .i64 (fstE f bs.length) ∧ CRel w.heap.size f w wr v bs)
    (fun _ _ _ i _ => 20 - (intOf i).toNat)
  case atStart =>
    refine ⟨[], Nat.zero_le _, Nat.zero_le _, rfl, rfl, rfl, World.ownsRow_nil _ _ _ _, by simp, by simp, by simp, by simp [go_sem], (Below.refl _ _).alloc (Nat.le_refl _) _⟩
  case round =>
    obtain ⟨bs, hk, hk20, rfl, rfl, rfl, R⟩ := hrel
    by_cases hlt : bs.length < len
    · by_cases hlt2 : bs.length < 20
      · obtain ⟨z, hzz⟩ : ∃ z, z = zs.getD bs.length 0 := ⟨_, rfl⟩
        have hb : b < w.heap.size := World.block_lt_of_cell? w _ (HC.out 0 (by omega))
        have hcell : wr.cell? ⟨b, off + bs.length, none⟩ = some (.int .i64 z) := by
          rw [R.bel.cell (p := ⟨b, off + bs.length, none⟩) hb, hzz]; exact HC.out _ (by omega)
        have hfz : f bs.length = z % 12 - 6 := by rw [HF.out, hzz]; rfl
        have HFZ := Lib.hid hfz
        have z1 : 0 ≤ z % 12 := Int.emod_nonneg _ (by omega)
        have z2 : z % 12 < 12 := Int.emod_lt_of_pos _ (by omega)
        have hwz : w.heap.size + 1 ≤ wr.heap.size := World.block_lt_of_cell? wr _ R.cnt
        clear hfz hzz HC HF
        by_cases hp : 6 < z % 12
        · by_cases hq0 : fst f bs.length < 0
          · have HA := Lib.hid (fst_hit f bs.length hq0 (by rw [HFZ.out]; omega))
            go_wp2_with (first
              | (go_at_call 24; refine (pick_any _ _ (by omega) (by omega) _).mono ?_; rintro e w' ⟨rfl, rfl⟩)
              | (at_builtin; refine wpList_append_own _ rfl _ _ 41 rfl (w.heap.size + 1) 1 i0 .nilFunc 1 8 Try.underlying41 hi hz0 hz1 hz2 rfl (by decide) _ _ _ rfl ((R.own.alloc _).alloc _) ⟨wr.heap.size + 1, 0, none⟩ 1 1 [clo w.heap.size wr.heap.size] rfl rfl (one_new _ _ _ _ (by simp)) (one_cell _ _) (by unfold maxLen; omega) (by omega) (by simp; omega) ?_; intro v' w1 hown' hgrow _))
            have R' := R.step (o := _) hown' (by rw [HFZ.out]; exact hgrow)
            have L : (bs ++ [wr.heap.size]).length = bs.length + 1 := by simp
            refine ⟨⟨bs ++ [wr.heap.size], by rw [L]; omega, by rw [L]; omega, by rw [L]; simp, ?_, ?_, R'⟩, by simp [intOf]; omega⟩
            · rw [L, (HA.out).1]
            · rw [L, (HA.out).2]; exact congrArg _ HFZ.out.symm
          · have HA := Lib.hid (fst_miss f bs.length (by omega))
            go_wp2_with (first
              | (go_at_call 24; refine (pick_any _ _ (by omega) (by omega) _).mono ?_; rintro e w' ⟨rfl, rfl⟩)
              | (at_builtin; refine wpList_append_own _ rfl _ _ 41 rfl (w.heap.size + 1) 1 i0 .nilFunc 1 8 Try.underlying41 hi hz0 hz1 hz2 rfl (by decide) _ _ _ rfl ((R.own.alloc _).alloc _) ⟨wr.heap.size + 1, 0, none⟩ 1 1 [clo w.heap.size wr.heap.size] rfl rfl (one_new _ _ _ _ (by simp)) (one_cell _ _) (by unfold maxLen; omega) (by omega) (by simp; omega) ?_; intro v' w1 hown' hgrow _))
            have R' := R.step (o := _) hown' (by rw [HFZ.out]; exact hgrow)
            have L : (bs ++ [wr.heap.size]).length = bs.length + 1 := by simp
            refine ⟨⟨bs ++ [wr.heap.size], by rw [L]; omega, by rw [L]; omega, by rw [L]; simp, ?_, ?_, R'⟩, by simp [intOf]; omega⟩
            · rw [L, (HA.out).1]
            · rw [L, (HA.out).2]
        · have HA := Lib.hid (fst_miss f bs.length (by rw [HFZ.out]; omega))
          go_wp2_with (first
            | (go_at_call 24; refine (pick_any _ _ (by omega) (by omega) _).mono ?_; rintro e w' ⟨rfl, rfl⟩)
            | (at_builtin; refine wpList_append_own _ rfl _ _ 41 rfl (w.heap.size + 1) 1 i0 .nilFunc 1 8 Try.underlying41 hi hz0 hz1 hz2 rfl (by decide) _ _ _ rfl ((R.own.alloc _).alloc _) ⟨wr.heap.size + 1, 0, none⟩ 1 1 [clo w.heap.size wr.heap.size] rfl rfl (one_new _ _ _ _ (by simp)) (one_cell _ _) (by unfold maxLen; omega) (by omega) (by simp; omega) ?_; intro v' w1 hown' hgrow _))
          have R' := R.step (o := _) hown' (by rw [HFZ.out]; exact hgrow)
          have L : (bs ++ [wr.heap.size]).length = bs.length + 1 := by simp
          refine ⟨⟨bs ++ [wr.heap.size], by rw [L]; omega, by rw [L]; omega, by rw [L]; simp, ?_, ?_, R'⟩, by simp [intOf]; omega⟩
          · rw [L, (HA.out).1]
          · rw [L, (HA.out).2]
      · have hBw : w.heap.size < wr.heap.size := World.block_lt_of_cell? wr _ R.cnt
        have fb := fst_bd f bs.length
        rcases R.own with ⟨hl, ⟨rfl, hn⟩ | ⟨g, cap', cur, rfl, hg, hr⟩⟩
        · exact absurd hn (by omega)
        · by_cases hq0 : fst f bs.length < 0
          · have hE := each_none _ _ _ _ _ _ _ _ R hk20 hq0
            have HE0 := Lib.hid (fst_neg f bs.length hq0).1
            have hbel := R.bel
            clear R HC HF hr hl
            go_wp2_with fail
            refine hE.mono ?_
            rintro e w2 ⟨rfl, hcnt, hkp⟩
            go_wp2_with fail
            rw [HE0.out]
            refine (known_any _).mono ?_
            rintro e w3 ⟨rfl, hb3⟩
            have hcnt3 : w3.cell? ⟨w.heap.size, 0, none⟩ = some (.int .i64 bs.length) := (hb3.cell (World.block_lt_of_cell? w2 _ hcnt)).trans hcnt
            have hfin : Below w.heap.size w w3 := fin hbel hBw hkp hb3
            clear hE hkp hb3 hbel hcnt HE0
            go_wp2_with fail
            go_ret
            exact ⟨rfl, hfin⟩
          · have hE := each_hit _ _ _ _ _ _ _ _ R hk20 hq0
            have hbel := R.bel
            clear R HC HF hr hl
            go_wp2_with fail
            refine hE.mono ?_
            rintro e w2 ⟨rfl, hcnt, hkp⟩
            go_wp2_with fail
            refine (known_any _).mono ?_
            rintro e w3 ⟨rfl, hb3⟩
            have hcnt3 : w3.cell? ⟨w.heap.size, 0, none⟩ = some (.int .i64 (fst f bs.length + 1)) := (hb3.cell (World.block_lt_of_cell? w2 _ hcnt)).trans hcnt
            have hfin : Below w.heap.size w w3 := fin hbel hBw hkp hb3
            clear hE hkp hb3 hbel hcnt
            go_wp2_with fail
            · go_ret
              exact ⟨rfl, hfin⟩
            · go_ret
              exact ⟨ret_bool (by simp; omega), hfin⟩
    · have hBw : w.heap.size < wr.heap.size := World.block_lt_of_cell? wr _ R.cnt
      have fb := fst_bd f bs.length
      rcases R.own with ⟨hl, ⟨rfl, hn⟩ | ⟨g, cap', cur, rfl, hg, hr⟩⟩
      · have hbs : bs = [] := List.eq_nil_of_length_eq_zero hn
        subst hbs
        have hcnt := R.cnt
        have hbel := R.bel
        clear R HC HF hl
        go_wp2_with fail
        refine (each_nil _).mono ?_
        rintro e w2 ⟨rfl, rfl⟩
        go_wp2_with fail
        have he0 : fstE f 0 = 0 := rfl
        rw [he0]
        refine (known_any _).mono ?_
        rintro e w3 ⟨rfl, hb3⟩
        have hcnt3 : w3.cell? ⟨w.heap.size, 0, none⟩ = some (.int .i64 0) := (hb3.cell (World.block_lt_of_cell? wr _ hcnt)).trans hcnt
        have hfin : Below w.heap.size w w3 := fin hbel hBw (Kept.refl _ _) hb3
        clear hb3 hbel hcnt he0 fb
        go_wp2_with fail
        go_ret
        exact ⟨rfl, hfin⟩
      · by_cases hq0 : fst f bs.length < 0
        · have hE := each_none _ _ _ _ _ _ _ _ R hk20 hq0
          have HE0 := Lib.hid (fst_neg f bs.length hq0).1
          have hbel := R.bel
          clear R HC HF hr hl
          go_wp2_with fail
          refine hE.mono ?_
          rintro e w2 ⟨rfl, hcnt, hkp⟩
          go_wp2_with fail
          rw [HE0.out]
          refine (known_any _).mono ?_
          rintro e w3 ⟨rfl, hb3⟩
          have hcnt3 : w3.cell? ⟨w.heap.size, 0, none⟩ = some (.int .i64 bs.length) := (hb3.cell (World.block_lt_of_cell? w2 _ hcnt)).trans hcnt
          have hfin : Below w.heap.size w w3 := fin hbel hBw hkp hb3
          clear hE hkp hb3 hbel hcnt HE0
          go_wp2_with fail
          go_ret
          exact ⟨rfl, hfin⟩
        · have hE := each_hit _ _ _ _ _ _ _ _ R hk20 hq0
          have hbel := R.bel
          clear R HC HF hr hl
          go_wp2_with fail
          refine hE.mono ?_
          rintro e w2 ⟨rfl, hcnt, hkp⟩
          go_wp2_with fail
          refine (known_any _).mono ?_
          rintro e w3 ⟨rfl, hb3⟩
          have hcnt3 : w3.cell? ⟨w.heap.size, 0, none⟩ = some (.int .i64 (fst f bs.length + 1)) := (hb3.cell (World.block_lt_of_cell? w2 _ hcnt)).trans hcnt
          have hfin : Below w.heap.size w w3 := fin hbel hBw hkp hb3
          clear hE hkp hb3 hbel hcnt
          go_wp2_with fail
          · go_ret
            exact ⟨rfl, hfin⟩
          · go_ret
            exact ⟨ret_bool (by simp; omega), hfin⟩

set_option maxRecDepth 100000 in
set_option maxHeartbeats 4000000 in
theorem counts_zero (a : Option Addr) (cap : Nat) (w : World) :
    Calls Try.prog 6 #[.slice a 0 cap] w fun e w' => e = .returned (.bool true) ∧ Below w.heap.size w w' := by
  have hmf : ∀ (fn : Fn) (first cap : Array Value) (w : World), (Instr.makeFunc fn first cap).run Try.prog w = .ok (.func fn first cap) w := fun _ _ _ _ => rfl
  go_enter Try.func6, Try.ntmps6
  go_wp2_with fail
  refine wp_loop_rounds 1 ?_
  rw [rounds_succ]
  go_wp2_with fail
  refine (each_nil _).mono ?_
  rintro e w2 ⟨rfl, rfl⟩
  go_wp2_with fail
  refine (known_any _).mono ?_
  rintro e w3 ⟨rfl, hb3⟩
  have hcnt3 : w3.cell? ⟨w.heap.size, 0, none⟩ = some (.int .i64 0) := (hb3.cell (by simp)).trans (by simp)
  have hfin : Below w.heap.size w w3 := ((Below.refl _ _).alloc (Nat.le_refl _) _).trans (hb3.mono (by simp))
  clear hb3
  go_wp2_with fail
  go_ret
  exact ⟨rfl, hfin⟩

end Go.Proofs.Ytbfgpbjckkhljaa
