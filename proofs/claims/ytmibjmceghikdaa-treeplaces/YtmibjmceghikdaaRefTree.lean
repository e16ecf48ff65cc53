
/- The document's own answers on trees: RightTree, has, up, Way, Dist, Next, Near, Kids, Side, Place: the same words as the landed ones'. -/
import Derived.Test.YtmibjmceghikdaaTreeMake
namespace Go.Proofs.Ytmibjmceghikdaa
open Go.RowKit
set_option linter.unusedVariables false

theorem then_below {w w1 w2 : World} (h : Below w.heap.size w w1) (k : Below w1.heap.size w1 w2) : Below w.heap.size w w2 := h.trans ⟨k.os, k.tape, k.output, k.size, fun i hi => k.block i (Nat.lt_of_lt_of_le hi h.size)⟩
theorem drewn_below {B : Nat} {w w1 : World} (h : Below B w w1) (n : Nat) : Below B w (w1.drewN n) := ⟨h.os, h.tape, h.output, h.size, h.block⟩
theorem Tr.ints_snoc (x : List Nat) (y : Nat) : Tr.ints (x ++ [y]) = Tr.ints x ++ [(y : Int)] := Tr.ints_append _ _
def lenOfSl : Value → Nat | .slice _ n _ => n | _ => 0
namespace Tr
theorem okFrom_bad {l : List Int} {k : Nat} {u : Int} (h : l[k]? = some u) (hp : okFrom 0 l = okFrom k (l.drop k)) (hb : ¬ (0 ≤ u ∧ u ≤ (k : Int))) : right l = false := by
  unfold right
  rw [hp, okFrom_drop h, show (decide (0 ≤ u) && decide (u ≤ (k : Int))) = false by simp only [Bool.and_eq_false_iff, decide_eq_false_iff_not]; omega, Bool.false_and, Bool.and_false]
theorem has_pair (l : List Int) (a b : Int) : has l [a, b] = (has l [a] && has l [b]) := by
  unfold has
  simp only [List.all_cons, List.all_nil, Bool.and_true]
  cases right l <;> simp
theorem has_self {l : List Int} {x : Nat} (h : right l = true) (hx : x ≤ l.length) : has l [(x : Int)] = true := by
  rw [has_iff]
  refine ⟨h, fun b hb => ?_⟩
  rw [List.mem_singleton.1 hb]; omega
theorem has_both {l : List Int} {x y : Nat} (h : right l = true) (hx : x ≤ l.length) (hy : y ≤ l.length) : has l [(x : Int), (y : Int)] = true := by
  rw [has_pair, has_self h hx, has_self h hy]; rfl
theorem up_at {l : List Int} {b : Nat} {pre : List Nat} {k : Nat} (h : up l b = pre ++ up l k) (hk : 0 < k) : up l b = (pre ++ [k]) ++ up l (par l k) := by
  rw [h, up_pos hk, List.append_assoc]; rfl
theorem up_len_at {l : List Int} {b : Nat} {pre : List Nat} {k : Nat} (h : up l b = pre ++ up l k) : pre.length + 1 ≤ b + 1 := by
  have h1 := up_few l b
  have h2 := up_len l k
  rw [h, List.length_append] at h1
  omega
theorem cut_again {x y : List Nat} {m n : Nat} (h : x.getD m 0 = y.getD n 0) : wayCut x y (m + 2) (n + 2) = wayCut x y (m + 1) (n + 1) := by rw [wayCut, if_pos h]
theorem cut_end {x y : List Nat} {m n : Nat} (h : ¬ x.getD m 0 = y.getD n 0) : wayCut x y (m + 2) (n + 2) = x.take (m + 2) ++ (y.take (n + 1)).reverse := by rw [wayCut, if_neg h]
theorem cut_left (x y : List Nat) (n : Nat) : wayCut x y 1 (n + 1) = x.take 1 ++ (y.take n).reverse := wayCut_one x y (n + 1)
theorem cut_right (x y : List Nat) (m : Nat) : wayCut x y m 1 = x.take m ++ (y.take 0).reverse := by rw [wayCut_one']; simp
theorem back {y : List Nat} {n k u : Nat} (hk : k < n) (hu : y[k]? = some u) : ((y.take n).drop k).reverse = ((y.take n).drop (k + 1)).reverse ++ [u] := by
  have h : (y.take n)[k]? = some u := by rw [List.getElem?_take, if_pos hk]; exact hu
  obtain ⟨hk2, he⟩ := List.getElem?_eq_some_iff.1 h
  rw [List.drop_eq_getElem_cons hk2, he, List.reverse_cons]
end Tr

set_option maxRecDepth 100000 in
set_option maxHeartbeats 4000000 in
theorem rright_any {A : Option Addr} {n c : Nat} {l : List Int} {w : World} (h : Ri w A n l) (hn : n ≤ 1000) :
    Calls Try.prog 17 #[.slice A n c] w fun e w' => e = .returned (.bool (Tr.right l)) ∧ w = w' := by
  obtain rfl := h.1.symm
  have HA := Lib.hid h
  clear h
  go_enter Try.func17, Try.ntmps17
  go_wp2_with fail
  go_loopw [3] (fun ii wr => ∃ k : Nat, k ≤ l.length ∧ ii = .int .i64 (k : Int) ∧ Tr.okFrom 0 l = Tr.okFrom k (l.drop k) ∧ w = wr) (fun ii _ => l.length - (intOf ii).toNat)
  case atStart => exact ⟨0, by omega, rfl, rfl, rfl⟩
  case round =>
    obtain ⟨k, hk, rfl, hl, rfl⟩ := hrel
    have HL := Lib.hid hl
    clear hl
    by_cases hlt : k < l.length
    · obtain ⟨rb, ro, u, rfl, hu, hc⟩ := HA.out.at_ hlt
      have HU := Lib.hid hu
      clear hu
      by_cases h0 : u < 0
      · go_wp2_with fail
        go_ret
        exact ⟨by rw [Tr.okFrom_bad HU.out HL.out (by omega)]; rfl, rfl⟩
      · by_cases h1 : (k : Int) < u
        · go_wp2_with fail
          go_ret
          exact ⟨by rw [Tr.okFrom_bad HU.out HL.out (by omega)]; rfl, rfl⟩
        · have HD := Lib.hid (Tr.okFrom_drop HU.out)
          go_wp2_with fail
          exact ⟨⟨k + 1, by omega, by simp, by rw [HL.out, HD.out, decide_eq_true (by omega), decide_eq_true (by omega)]; rfl, trivial⟩, by simp [intOf]; omega⟩
    · have HE := Lib.hid (show Tr.right l = decide (l.length ≤ 7) by unfold Tr.right; rw [HL.out, List.drop_eq_nil_of_le (by omega)]; simp [Tr.okFrom])
      by_cases h7 : l.length ≤ 7
      · go_wp2_with fail
        go_ret
        exact ⟨by rw [HE.out]; simp; omega, rfl⟩
      · go_wp2_with fail
        go_ret
        exact ⟨by rw [HE.out]; simp; omega, rfl⟩

set_option maxRecDepth 100000 in
set_option maxHeartbeats 4000000 in
theorem rhas_any {A : Option Addr} {n c : Nat} {l : List Int} {w : World} (h : Ri w A n l) (hn : n ≤ 1000) (b : Int) :
    Calls Try.prog 34 #[.slice A n c, .int .i64 b] w fun e w' => e = .returned (.bool (Tr.has l [b])) ∧ w = w' := by
  obtain rfl := h.1.symm
  have HA := Lib.hid h
  have HK := Lib.hid (rright_any (c := c) h hn)
  clear h
  cases hr : Tr.right l
  · rw [hr] at HK
    have HE := Lib.hid (show Tr.has l [b] = false by unfold Tr.has; rw [hr]; rfl)
    clear hr
    go_enter Try.func34, Try.ntmps34
    go_wp2_with (first | (go_at_call 17; refine HK.out.mono ?_; rintro e w' ⟨rfl, rfl⟩))
    go_ret
    exact ⟨by rw [HE.out]; rfl, rfl⟩
  · rw [hr] at HK
    have HE := Lib.hid (show Tr.has l [b] = (decide (0 ≤ b) && decide (b ≤ (l.length : Int))) by unfold Tr.has; rw [hr]; simp)
    clear hr
    by_cases h0 : 0 ≤ b
    · by_cases h1 : b ≤ (l.length : Int)
      · go_enter Try.func34, Try.ntmps34
        go_wp2_with (first | (go_at_call 17; refine HK.out.mono ?_; rintro e w' ⟨rfl, rfl⟩))
        go_ret
        exact ⟨by rw [HE.out, decide_eq_true h0, decide_eq_true h1]; rfl, rfl⟩
      · go_enter Try.func34, Try.ntmps34
        go_wp2_with (first | (go_at_call 17; refine HK.out.mono ?_; rintro e w' ⟨rfl, rfl⟩))
        go_ret
        exact ⟨by rw [HE.out]; simp [h0], rfl⟩
    · go_enter Try.func34, Try.ntmps34
      go_wp2_with (first | (go_at_call 17; refine HK.out.mono ?_; rintro e w' ⟨rfl, rfl⟩))
      go_ret
      exact ⟨by rw [HE.out, decide_eq_false (by omega)]; rfl, rfl⟩

set_option maxRecDepth 100000 in
set_option maxHeartbeats 4000000 in
theorem up_any {A : Option Addr} {n c : Nat} {l : List Int} {w : World} (h : Ri w A n l) (hr : Tr.right l = true) (b : Nat) (hb : b ≤ n) :
    Calls Try.prog 36 #[.slice A n c, .int .i64 (b : Int)] w (RowPost w (Tr.ints (Tr.up l b))) := by
  obtain rfl := h.1.symm
  have h7 := Tr.right_len hr
  have HA := Lib.hid h
  have HR := Lib.hid hr
  clear h hr
  go_enter Try.func36, Try.ntmps36
  go_wp2_with fail
  go_loopw [1, 5] (fun ii xv wr => ∃ (k : Nat) (pre : List Nat), k ≤ l.length ∧ ii = .int .i64 (k : Int) ∧ Tr.up l b = pre ++ Tr.up l k ∧ OwnI w.heap.size wr xv (Tr.ints (pre ++ [k])) ∧ Below w.heap.size w wr) (fun ii _ _ => (intOf ii).toNat)
  case atStart => exact ⟨b, [], by omega, rfl, rfl, owni_new w (Nat.le_refl _) _, new_below w _⟩
  case round =>
    obtain ⟨k, pre, hk, rfl, hl, hv, hB⟩ := hrel
    have hpl := Tr.up_len_at hl
    have HL := Lib.hid hl
    have HV := Lib.hid hv
    have HB := Lib.hid hB
    clear hl hB
    obtain ⟨A1, c1, rfl, -, -, -⟩ := hv.reads
    clear hv
    by_cases h0 : 0 < k
    · obtain ⟨x, rfl⟩ : ∃ x, k = x + 1 := ⟨k - 1, by omega⟩
      obtain ⟨rb, ro, u, rfl, hu, hc⟩ := (HA.out.later HB.out).at_ (j := x) (by omega)
      have hp := (Tr.right_par HR.out (b := x + 1) (by omega) (by omega)).1
      rw [show x + 1 - 1 = x by omega, hu] at hp
      have hu2 : u = (Tr.par l (x + 1) : Int) := Option.some.inj hp
      subst hu2
      have hlt := Tr.par_lt (l := l) (show 0 < x + 1 by omega)
      have HL2 := Lib.hid (Tr.up_at HL.out (by omega))
      clear hu hp
      go_wp2_with (first | (at_builtin; refine wpList_owni rfl _ _ rfl w.heap.size _ (Tr.ints (pre ++ [x + 1])) rfl HV.out _ rfl (by simp only [Tr.ints_len, List.length_append, List.length_cons, List.length_nil]; omega) ?_; intro v1 w1 hv1 hk1; have HV1 := Lib.hid hv1; have HK1 := Lib.hid hk1; clear hv1 hk1))
      exact ⟨⟨Tr.par l (x + 1), pre ++ [x + 1], by omega, rfl, HL2.out, by rw [Tr.ints_append (pre ++ [x + 1])]; exact HV1.out, below_behind HB.out HK1.out⟩, by simp [intOf]; omega⟩
    · obtain rfl : k = 0 := by omega
      have HL2 := Lib.hid (show Tr.up l b = pre ++ [0] by rw [HL.out, Tr.up_zero])
      go_wp2_with fail
      go_ret
      exact ⟨_, rfl, by rw [HL2.out]; exact HV.out, HB.out⟩

set_option maxRecDepth 100000 in
set_option maxHeartbeats 8000000 in
theorem way_any {A : Option Addr} {n c : Nat} {l : List Int} {w : World} (h : Ri w A n l) (hr : Tr.right l = true) (a b : Nat) (ha : a ≤ n) (hb : b ≤ n) :
    Calls Try.prog 35 #[.slice A n c, .int .i64 (a : Int), .int .i64 (b : Int)] w (RowPost w (Tr.ints (Tr.way l a b))) := by
  obtain rfl := h.1.symm
  have h7 := Tr.right_len hr
  have HA := Lib.hid h
  have HR := Lib.hid hr
  have HW := Lib.hid (Tr.way_cut l _ a b (Nat.le_refl _)).symm
  clear h hr
  go_enter Try.func35, Try.ntmps35
  go_wp2_with fail
  refine (up_any HA.out HR.out a ha).mono ?_
  rintro e w1 ⟨v1, rfl, hv1, hk1⟩
  have HV1 := Lib.hid hv1
  have HK1 := Lib.hid hk1
  clear hv1 hk1
  go_wp2_with fail
  refine (up_any (HA.out.later HK1.out) HR.out b hb).mono ?_
  rintro e w2 ⟨v2, rfl, hv2, hk2⟩
  have HX := Lib.hid (HV1.out.later hk2)
  have HY := Lib.hid hv2
  have HB := Lib.hid (then_below HK1.out hk2)
  have xl := Tr.up_len l a
  have xf := Tr.up_few l a
  have yl := Tr.up_len l b
  have yf := Tr.up_few l b
  obtain ⟨A1, c1, rfl, hc1, hx1, hA1⟩ := (HV1.out.later hk2).reads
  obtain ⟨A2, c2, rfl, hc2, hy1, hA2⟩ := hv2.reads
  clear hv2 hk2
  rw [Tr.ints_len] at hc1 hx1 hA1 hc2 hy1 hA2 HX HY
  rw [Tr.ints_len, Tr.ints_len]
  obtain ⟨g, rfl, hg, hg2⟩ : ∃ g, A1 = some ⟨g, 0, none⟩ ∧ w.heap.size ≤ g ∧ g < w2.heap.size := by
    rcases hA1 with ⟨-, e⟩ | h
    · omega
    · exact h
  obtain ⟨g', rfl, hg', hg2'⟩ : ∃ g, A2 = some ⟨g, 0, none⟩ ∧ w1.heap.size ≤ g ∧ g < w2.heap.size := by
    rcases hA2 with ⟨-, e⟩ | h
    · omega
    · exact h
  have hgg : g ≠ g' := by
    obtain ⟨A3, c3, e3, -, -, hA3⟩ := HV1.out.reads
    cases e3
    rcases hA3 with ⟨e, -⟩ | ⟨g3, e, h3, h4⟩
    · cases e
    · cases e; omega
  clear HV1 HK1 hA1 hA2
  have HRX := Lib.hid hx1
  have HRY := Lib.hid hy1
  clear hx1 hy1
  generalize hX : Tr.up l a = X at HW HX HRX xl xf hc1 ⊢
  generalize hY : Tr.up l b = Y at HW HY HRY yl yf hc2 ⊢
  clear hX hY
  go_wp2_with fail
  go_loopw [7, 8] (fun xv yv wr => ∃ m n : Nat, 1 ≤ m ∧ m ≤ X.length ∧ 1 ≤ n ∧ n ≤ Y.length ∧ xv = .slice (some ⟨g, 0, none⟩) m c1 ∧ yv = .slice (some ⟨g', 0, none⟩) n c2 ∧ Tr.way l a b = Tr.wayCut X Y m n ∧ Below w2.heap.size w2 wr) (fun xv _ _ => lenOfSl xv)
  case atStart => exact ⟨X.length, Y.length, xl, by omega, yl, by omega, rfl, rfl, HW.out, Below.refl _ _⟩
  case round =>
    obtain ⟨m, n, hm, hm2, hn, hn2, rfl, rfl, hl, hw⟩ := hrel
    have HBw := Lib.hid hw
    clear hw HW
    by_cases hm1 : m = 1
    · subst hm1
      obtain ⟨n', rfl⟩ : ∃ n', n = n' + 1 := ⟨n - 1, by omega⟩
      have HL := Lib.hid (hl.trans (Tr.cut_left X Y n'))
      clear hl
      go_wp2_with fail
      go_quiet (fail)
      go_wp2_with fail
      have hX0 : (X.take (1)).length = (1) := by rw [List.length_take]; omega
      go_loopw [7, 9] (fun xv iv wr => ∃ (k : Nat) (z : Int), k ≤ (n') ∧ iv = .int .i64 z ∧ z = (k : Int) - 1 ∧ OwnI w.heap.size wr xv (Tr.ints (X.take (1) ++ ((Y.take (n')).drop k).reverse)) ∧ xv.ownBlock ≠ some g' ∧ Ri wr (some ⟨g', 0, none⟩) Y.length (Tr.ints Y) ∧ Below w.heap.size w wr) (fun _ iv _ => (intOf iv + 1).toNat)
      case atStart =>
        refine ⟨(n'), _, Nat.le_refl _, rfl, by omega, ?_, ?_, HRY.out.later (drewn_below HBw.out _), then_below HB.out (drewn_below HBw.out _)⟩
        · rw [List.drop_eq_nil_of_le (by rw [List.length_take]; omega), List.reverse_nil, List.append_nil]
          rw [show Tr.ints (X.take (1)) = (Tr.ints X).take (1) from List.map_take ..]
          exact (HX.out.later (drewn_below HBw.out _)).cut (by omega) (by simp)
        · intro e; exact hgg (Option.some.inj e)
      case round =>
        obtain ⟨k, z, hk, rfl, hz, hv, hne, hry, hBB⟩ := hrel
        have hlen : (Tr.ints (X.take (1) ++ ((Y.take (n')).drop k).reverse)).length ≤ 100 := by
          rw [Tr.ints_len, List.length_append, List.length_reverse, List.length_drop, List.length_take, List.length_take]; omega
        obtain ⟨A3, c3, rfl, -, -, -⟩ := hv.reads
        have HV := Lib.hid hv
        have HN := Lib.hid hne
        have HRB := Lib.hid hry
        have HBB := Lib.hid hBB
        clear hv hne hBB
        by_cases h0 : 0 < k
        · obtain ⟨j, rfl⟩ : ∃ j, k = j + 1 := ⟨k - 1, by omega⟩
          obtain rfl : z = (j : Int) := by omega
          obtain ⟨rb, ro, u, e, hu, cx⟩ := hry.at_ (j := j) (by omega)
          cases e
          rw [Nat.zero_add] at cx
          obtain ⟨y, hy, rfl⟩ : ∃ y, Y[j]? = some y ∧ u = (y : Int) := by
            rw [Tr.ints_get] at hu
            obtain ⟨y, h1, h2⟩ := Option.map_eq_some_iff.1 hu
            exact ⟨y, h1, h2.symm⟩
          have HBK := Lib.hid (Tr.back (n := (n')) (by omega) hy)
          clear hry hu hy hz
          go_wp2_with (first | (at_builtin; refine wpList_owni_lies rfl _ _ rfl w.heap.size _ _ rfl HV.out _ rfl (by omega) ?_; intro gx cx' w3 hv3 hk3 hl3; have HV3 := Lib.hid hv3; have HK3 := Lib.hid hk3; have HL3 := Lib.hid hl3; clear hv3 hk3 hl3))
          refine ⟨⟨j, _, by omega, rfl, by omega, ?_, ?_, HRB.out.kept HK3.out (fun ad e => by cases e; exact HN.out), below_behind HBB.out (HK3.out.mono fun i _ hi => (HV.out.base hi).1)⟩, by simp [intOf]⟩
          · rw [HBK.out, ← List.append_assoc, Tr.ints_snoc]
            exact HV3.out
          · intro e
            rcases HL3.out with h | h
            · exact HN.out (h.trans (by cases e; rfl))
            · cases e
              have h9 := cell_lt cx
              dsimp only at h9
              omega
        · obtain rfl : k = 0 := by omega
          have hz2 : z < 0 := by omega
          clear hz
          go_wp2_with fail
          go_ret
          exact ⟨_, rfl, by rw [HL.out]; simpa using HV.out, HBB.out⟩
    by_cases hn1 : n = 1
    · subst hn1
      have HL := Lib.hid (hl.trans (Tr.cut_right X Y m))
      have hm3 : (m : Int) > 1 := by omega
      clear hl
      go_wp2_with fail
      go_quiet (fail)
      go_wp2_with fail
      have hX0 : (X.take (m)).length = (m) := by rw [List.length_take]; omega
      go_loopw [7, 9] (fun xv iv wr => ∃ (k : Nat) (z : Int), k ≤ (0) ∧ iv = .int .i64 z ∧ z = (k : Int) - 1 ∧ OwnI w.heap.size wr xv (Tr.ints (X.take (m) ++ ((Y.take (0)).drop k).reverse)) ∧ xv.ownBlock ≠ some g' ∧ Ri wr (some ⟨g', 0, none⟩) Y.length (Tr.ints Y) ∧ Below w.heap.size w wr) (fun _ iv _ => (intOf iv + 1).toNat)
      case atStart =>
        refine ⟨(0), _, Nat.le_refl _, rfl, by omega, ?_, ?_, HRY.out.later (drewn_below HBw.out _), then_below HB.out (drewn_below HBw.out _)⟩
        · rw [List.drop_eq_nil_of_le (by rw [List.length_take]; omega), List.reverse_nil, List.append_nil]
          rw [show Tr.ints (X.take (m)) = (Tr.ints X).take (m) from List.map_take ..]
          exact (HX.out.later (drewn_below HBw.out _)).cut (by omega) (by simp)
        · intro e; exact hgg (Option.some.inj e)
      case round =>
        obtain ⟨k, z, hk, rfl, hz, hv, hne, hry, hBB⟩ := hrel
        have hlen : (Tr.ints (X.take (m) ++ ((Y.take (0)).drop k).reverse)).length ≤ 100 := by
          rw [Tr.ints_len, List.length_append, List.length_reverse, List.length_drop, List.length_take, List.length_take]; omega
        obtain ⟨A3, c3, rfl, -, -, -⟩ := hv.reads
        have HV := Lib.hid hv
        have HN := Lib.hid hne
        have HRB := Lib.hid hry
        have HBB := Lib.hid hBB
        clear hv hne hBB
        by_cases h0 : 0 < k
        · exact absurd h0 (by omega)
        · obtain rfl : k = 0 := by omega
          have hz2 : z < 0 := by omega
          clear hz
          go_wp2_with fail
          go_ret
          exact ⟨_, rfl, by rw [HL.out]; simpa using HV.out, HBB.out⟩
    obtain ⟨m', rfl⟩ : ∃ m', m = m' + 2 := ⟨m - 2, by omega⟩
    obtain ⟨n', rfl⟩ : ∃ n', n = n' + 2 := ⟨n - 2, by omega⟩
    have hx := (HRX.out.later HBw.out).at_ (j := m') (by omega)
    have hy := (HRY.out.later HBw.out).at_ (j := n') (by omega)
    obtain ⟨rb, ro, u, e, hu, cx⟩ := hx
    cases e
    obtain ⟨rb, ro, z, e, hz, cy⟩ := hy
    cases e
    rw [Nat.zero_add] at cx cy
    have ex : u = (X.getD m' 0 : Int) := by
      rw [Tr.ints_get, List.getElem?_eq_getElem (by omega)] at hu
      rw [List.getD_eq_getElem?_getD, List.getElem?_eq_getElem (by omega)]
      exact (Option.some.inj hu).symm
    have ey : z = (Y.getD n' 0 : Int) := by
      rw [Tr.ints_get, List.getElem?_eq_getElem (by omega)] at hz
      rw [List.getD_eq_getElem?_getD, List.getElem?_eq_getElem (by omega)]
      exact (Option.some.inj hz).symm
    clear hu hz
    subst ex
    subst ey
    have hgm : (decide ((1 : Int) < (m' : Int) + 2)) = true := decide_eq_true (by omega)
    have hgn : (decide ((1 : Int) < (n' : Int) + 2)) = true := decide_eq_true (by omega)
    have hwm : IntKind.i64.wrap ((m' : Int) + 2 - 2) = (m' : Int) := by rw [IntWalk.i64_in _ (by omega)]; omega
    have hwn : IntKind.i64.wrap ((n' : Int) + 2 - 2) = (n' : Int) := by rw [IntWalk.i64_in _ (by omega)]; omega
    by_cases heq : X.getD m' 0 = Y.getD n' 0
    · have HL := Lib.hid (hl.trans (Tr.cut_again heq))
      have heq2 : ((X.getD m' 0 : Int) == (Y.getD n' 0 : Int)) = true := by simp only [beq_iff_eq]; omega
      clear hl heq
      generalize X.getD m' 0 = p at cx heq2
      generalize Y.getD n' 0 = q at cy heq2
      go_wp2_with fail
      go_quiet (fail)
      go_wp2_with fail
      exact ⟨⟨m' + 1, n' + 1, by omega, by omega, by omega, by omega, by simp, by simp, HL.out, drewn_below HBw.out _⟩, by simp [lenOfSl]⟩
    · have HL := Lib.hid (hl.trans (Tr.cut_end heq))
      have heq2 : ((X.getD m' 0 : Int) == (Y.getD n' 0 : Int)) = false := by rw [beq_eq_false_iff_ne]; omega
      clear hl heq
      generalize X.getD m' 0 = p at cx heq2
      generalize Y.getD n' 0 = q at cy heq2
      go_wp2_with fail
      go_quiet (fail)
      go_wp2_with fail
      have hX0 : (X.take (m' + 2)).length = (m' + 2) := by rw [List.length_take]; omega
      go_loopw [7, 9] (fun xv iv wr => ∃ (k : Nat) (z : Int), k ≤ (n' + 1) ∧ iv = .int .i64 z ∧ z = (k : Int) - 1 ∧ OwnI w.heap.size wr xv (Tr.ints (X.take (m' + 2) ++ ((Y.take (n' + 1)).drop k).reverse)) ∧ xv.ownBlock ≠ some g' ∧ Ri wr (some ⟨g', 0, none⟩) Y.length (Tr.ints Y) ∧ Below w.heap.size w wr) (fun _ iv _ => (intOf iv + 1).toNat)
      case atStart =>
        refine ⟨(n' + 1), _, Nat.le_refl _, rfl, by omega, ?_, ?_, HRY.out.later (drewn_below HBw.out _), then_below HB.out (drewn_below HBw.out _)⟩
        · rw [List.drop_eq_nil_of_le (by rw [List.length_take]; omega), List.reverse_nil, List.append_nil]
          rw [show Tr.ints (X.take (m' + 2)) = (Tr.ints X).take (m' + 2) from List.map_take ..]
          exact (HX.out.later (drewn_below HBw.out _)).cut (by omega) (by simp)
        · intro e; exact hgg (Option.some.inj e)
      case round =>
        obtain ⟨k, z, hk, rfl, hz, hv, hne, hry, hBB⟩ := hrel
        have hlen : (Tr.ints (X.take (m' + 2) ++ ((Y.take (n' + 1)).drop k).reverse)).length ≤ 100 := by
          rw [Tr.ints_len, List.length_append, List.length_reverse, List.length_drop, List.length_take, List.length_take]; omega
        obtain ⟨A3, c3, rfl, -, -, -⟩ := hv.reads
        have HV := Lib.hid hv
        have HN := Lib.hid hne
        have HRB := Lib.hid hry
        have HBB := Lib.hid hBB
        clear hv hne hBB
        by_cases h0 : 0 < k
        · obtain ⟨j, rfl⟩ : ∃ j, k = j + 1 := ⟨k - 1, by omega⟩
          obtain rfl : z = (j : Int) := by omega
          obtain ⟨rb, ro, u, e, hu, cx⟩ := hry.at_ (j := j) (by omega)
          cases e
          rw [Nat.zero_add] at cx
          obtain ⟨y, hy, rfl⟩ : ∃ y, Y[j]? = some y ∧ u = (y : Int) := by
            rw [Tr.ints_get] at hu
            obtain ⟨y, h1, h2⟩ := Option.map_eq_some_iff.1 hu
            exact ⟨y, h1, h2.symm⟩
          have HBK := Lib.hid (Tr.back (n := (n' + 1)) (by omega) hy)
          clear hry hu hy hz
          go_wp2_with (first | (at_builtin; refine wpList_owni_lies rfl _ _ rfl w.heap.size _ _ rfl HV.out _ rfl (by omega) ?_; intro gx cx' w3 hv3 hk3 hl3; have HV3 := Lib.hid hv3; have HK3 := Lib.hid hk3; have HL3 := Lib.hid hl3; clear hv3 hk3 hl3))
          refine ⟨⟨j, _, by omega, rfl, by omega, ?_, ?_, HRB.out.kept HK3.out (fun ad e => by cases e; exact HN.out), below_behind HBB.out (HK3.out.mono fun i _ hi => (HV.out.base hi).1)⟩, by simp [intOf]⟩
          · rw [HBK.out, ← List.append_assoc, Tr.ints_snoc]
            exact HV3.out
          · intro e
            rcases HL3.out with h | h
            · exact HN.out (h.trans (by cases e; rfl))
            · cases e
              have h9 := cell_lt cx
              dsimp only at h9
              omega
        · obtain rfl : k = 0 := by omega
          have hz2 : z < 0 := by omega
          clear hz
          go_wp2_with fail
          go_ret
          exact ⟨_, rfl, by rw [HL.out]; simpa using HV.out, HBB.out⟩
end Go.Proofs.Ytmibjmceghikdaa
