
/- The document's own answers on trees: RightTree, has, up, Way, Dist, Next, Near, Kids, Side, Place: the same words as the landed ones'. -/
import Derived.Test.YtegkphbnedbgfaaTreeMake
namespace Go.Proofs.Ytegkphbnedbgfaa
open Go.RowKit
set_option linter.unusedVariables false

theorem then_below {w w1 w2 : World} (h : Below w.heap.size w w1) (k : Below w1.heap.size w1 w2) : Below w.heap.size w w2 := h.trans ⟨k.os, k.tape, k.output, k.size, fun i hi => k.block i (Nat.lt_of_lt_of_le hi h.size)⟩
theorem drewn_below {B : Nat} {w w1 : World} (h : Below B w w1) (n : Nat) : Below B w (w1.drewN n) := ⟨h.os, h.tape, h.output, h.size, h.block⟩
theorem Tr.ints_snoc (x : List Nat) (y : Nat) : Tr.ints (x ++ [y]) = Tr.ints x ++ [(y : Int)] := Tr.ints_append _ _
def lenOfSl : Value → Nat | .slice _ n _ => n | _ => 0
namespace Tr
theorem okFrom_bad {l : List Int} {k : Nat} {u : Int} (h : l[k]? = some u) (hp : okFrom 0 l = okFrom k (l.drop k)) (hb : ¬ (0 ≤ u ∧ u ≤ (k : Int))) : right l = false := by
  unfold right
  rw [hp, okFrom_drop h, show (decide (0 ≤ u) && decide (u ≤ (k : Int))) = false by simp only [Bool.and_eq_false_iff, decide_eq_false_iff_not]; omega, Bool.false_and, Bool.and_false]
theorem has_pair (l : List Int) (a b : Int) : has l [a, b] = (has l [a] && has l [b]) := by
  unfold has
  simp only [List.all_cons, List.all_nil, Bool.and_true]
  cases right l <;> simp
theorem has_self {l : List Int} {x : Nat} (h : right l = true) (hx : x ≤ l.length) : has l [(x : Int)] = true := by
  rw [has_iff]
  refine ⟨h, fun b hb => ?_⟩
  rw [List.mem_singleton.1 hb]; omega
theorem has_both {l : List Int} {x y : Nat} (h : right l = true) (hx : x ≤ l.length) (hy : y ≤ l.length) : has l [(x : Int), (y : Int)] = true := by
  rw [has_pair, has_self h hx, has_self h hy]; rfl
theorem up_at {l : List Int} {b : Nat} {pre : List Nat} {k : Nat} (h : up l b = pre ++ up l k) (hk : 0 < k) : up l b = (pre ++ [k]) ++ up l (par l k) := by
  rw [h, up_pos hk, List.append_assoc]; rfl
theorem up_len_at {l : List Int} {b : Nat} {pre : List Nat} {k : Nat} (h : up l b = pre ++ up l k) : pre.length + 1 ≤ b + 1 := by
  have h1 := up_few l b
  have h2 := up_len l k
  rw [h, List.length_append] at h1
  omega
theorem cut_again {x y : List Nat} {m n : Nat} (h : x.getD m 0 = y.getD n 0) : wayCut x y (m + 2) (n + 2) = wayCut x y (m + 1) (n + 1) := by rw [wayCut, if_pos h]
theorem cut_end {x y : List Nat} {m n : Nat} (h : ¬ x.getD m 0 = y.getD n 0) : wayCut x y (m + 2) (n + 2) = x.take (m + 2) ++ (y.take (n + 1)).reverse := by rw [wayCut, if_neg h]
theorem cut_left (x y : List Nat) (n : Nat) : wayCut x y 1 (n + 1) = x.take 1 ++ (y.take n).reverse := wayCut_one x y (n + 1)
theorem cut_right (x y : List Nat) (m : Nat) : wayCut x y m 1 = x.take m ++ (y.take 0).reverse := by rw [wayCut_one']; simp
theorem back {y : List Nat} {n k u : Nat} (hk : k < n) (hu : y[k]? = some u) : ((y.take n).drop k).reverse = ((y.take n).drop (k + 1)).reverse ++ [u] := by
  have h : (y.take n)[k]? = some u := by rw [List.getElem?_take, if_pos hk]; exact hu
  obtain ⟨hk2, he⟩ := List.getElem?_eq_some_iff.1 h
  rw [List.drop_eq_getElem_cons hk2, he, List.reverse_cons]
end Tr

set_option maxRecDepth 100000 in
set_option maxHeartbeats 4000000 in
theorem rright_any {A : Option Addr} {n c : Nat} {l : List Int} {w : World} (h : Ri w A n l) (hn : n ≤ 1000) :
    Calls Try.prog 22 #[.slice A n c] w fun e w' => e = .returned (.bool (Tr.right l)) ∧ w = w' := by
  obtain rfl := h.1.symm
  have HA := Lib.hid h
  clear h
  go_enter Try.func22, Try.ntmps22
  go_wp2_with fail
  go_loopw [3] (fun ii wr => ∃ k : Nat, k ≤ l.length ∧ ii = .int .i64 (k : Int) ∧ Tr.okFrom 0 l = Tr.okFrom k (l.drop k) ∧ w = wr) (fun ii _ => l.length - (intOf ii).toNat)
  case atStart => exact ⟨0, by omega, rfl, rfl, rfl⟩
  case round =>
    obtain ⟨k, hk, rfl, hl, rfl⟩ := hrel
    have HL := Lib.hid hl
    clear hl
    by_cases hlt : k < l.length
    · obtain ⟨rb, ro, u, rfl, hu, hc⟩ := HA.out.at_ hlt
      have HU := Lib.hid hu
      clear hu
      by_cases h0 : u < 0
      · go_wp2_with fail
        go_ret
        exact ⟨by rw [Tr.okFrom_bad HU.out HL.out (by omega)]; rfl, rfl⟩
      · by_cases h1 : (k : Int) < u
        · go_wp2_with fail
          go_ret
          exact ⟨by rw [Tr.okFrom_bad HU.out HL.out (by omega)]; rfl, rfl⟩
        · have HD := Lib.hid (Tr.okFrom_drop HU.out)
          go_wp2_with fail
          exact ⟨⟨k + 1, by omega, by simp, by rw [HL.out, HD.out, decide_eq_true (by omega), decide_eq_true (by omega)]; rfl, trivial⟩, by simp [intOf]; omega⟩
    · have HE := Lib.hid (show Tr.right l = decide (l.length ≤ 7) by unfold Tr.right; rw [HL.out, List.drop_eq_nil_of_le (by omega)]; simp [Tr.okFrom])
      by_cases h7 : l.length ≤ 7
      · go_wp2_with fail
        go_ret
        exact ⟨by rw [HE.out]; simp; omega, rfl⟩
      · go_wp2_with fail
        go_ret
        exact ⟨by rw [HE.out]; simp; omega, rfl⟩

end Go.Proofs.Ytegkphbnedbgfaa
