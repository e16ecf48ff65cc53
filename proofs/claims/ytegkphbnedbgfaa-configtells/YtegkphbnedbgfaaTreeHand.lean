
/- Hand's Tree; the statements' parents, same. -/
import Derived.Test.YtegkphbnedbgfaaRefTree2
namespace Go.Proofs.Ytegkphbnedbgfaa
open Go.RowKit
set_option linter.unusedVariables false

theorem Ri.keep {S : Nat → Prop} {w w' : World} {A : Option Addr} {n : Nat} {l : List Int} (h : Ri w A n l) (k : Kept S w w') (hs : ∀ ad, A = some ad → n ≠ 0 → ¬ S ad.block) : Ri w' A n l := by
  by_cases h0 : n = 0
  · exact ⟨h.1, .inl h0⟩
  · exact h.kept k fun ad e => hs ad e h0
namespace Tr
theorem okFrom_snoc : ∀ (L : List Int) (k : Nat) (u : Int), okFrom k (L ++ [u]) = (okFrom k L && (decide (0 ≤ u) && decide (u ≤ ((k + L.length : Nat) : Int))))
  | [], k, u => by simp [okFrom]
  | v :: L, k, u => by
    rw [List.cons_append, okFrom, okFrom, okFrom_snoc L (k + 1) u, List.length_cons, show k + 1 + L.length = k + (L.length + 1) by omega]
    simp only [Bool.and_assoc]
theorem right_snoc {L : List Int} {u : Int} (h : okFrom 0 L = true) (h0 : 0 ≤ u) (h1 : u ≤ (L.length : Int)) : okFrom 0 (L ++ [u]) = true := by
  rw [okFrom_snoc, h, decide_eq_true h0, decide_eq_true (by omega)]; rfl
theorem right_of {L : List Int} (h : okFrom 0 L = true) (h7 : L.length ≤ 7) : right L = true := by
  unfold right; rw [h, decide_eq_true h7]; rfl
end Tr
/-- What Tree tells: a right row of its own; the Feed is one still. -/
def TreePost (B b a : Nat) (w : World) (e : Ending) (w' : World) : Prop :=
  ∃ v L, e = .returned v ∧ OwnI w.heap.size w' v L ∧ Tr.right L = true ∧ IsFeed B w' b (a + 10) ∧ Kept (· = b) w w'
set_option maxRecDepth 100000 in
set_option maxHeartbeats 4000000 in
theorem feedtree_any {B b a : Nat} (w : World) (ha : a < 1000000) (hf : IsFeed B w b a) :
    Calls Try.prog 21 #[.pointer (some ⟨b, 0, none⟩), .int .i64 8] w (TreePost B b a w) := by
  have hb := hf.lt
  have HF := Lib.hid hf
  clear hf
  go_enter Try.func21, Try.ntmps21
  go_wp2_with fail
  refine (next_any 8 (by omega) (by omega) w (by omega) HF.out).mono ?_
  rintro e w1 ⟨n0, hn0, rfl, hf1, hk1, hs1⟩
  have HF1 := Lib.hid hf1
  have HK1 := Lib.hid hk1
  have hs2 := Nat.le_of_eq hs1.symm
  clear hf1 hk1 hs1 HF
  go_wp2_with fail
  go_loopw [5, 6] (fun xv ii wr => ∃ (k : Nat) (L : List Int), L.length + k ≤ 7 ∧ ii = .int .i64 (k : Int) ∧ Tr.okFrom 0 L = true ∧ OwnI w.heap.size wr xv L ∧ IsFeed B wr b (a + 1 + L.length) ∧ Kept (· = b) w wr) (fun _ ii _ => (intOf ii).toNat)
  case atStart => exact ⟨n0, [], by simp; omega, rfl, rfl, OwnI.nil _ hs2, HF1.out, HK1.out⟩
  case round =>
    obtain ⟨k, L, hkL, rfl, hok, hv, hf, hK⟩ := hrel
    obtain ⟨A1, c1, rfl, -, -, -⟩ := hv.reads
    have HV := Lib.hid hv
    have HFd := Lib.hid hf
    have HK := Lib.hid hK
    have HO := Lib.hid hok
    clear hv hf hK hok HF1 HK1
    by_cases h0 : 0 < k
    · have h0' : (0 : Int) < (k : Int) := by omega
      go_wp2_with fail
      refine (next_any ((L.length : Int) + 1) (by omega) (by omega) _ (by omega) HFd.out).mono ?_
      rintro e w2 ⟨u, hu, rfl, hf2, hk2, -⟩
      have HF2 := Lib.hid hf2
      have HV2 := Lib.hid (OwnW.kept HV.out hk2 (fun i hi e => by have := (HV.out.base hi).1; omega))
      have HK2 := Lib.hid (HK.out.then hk2)
      clear hf2 hk2
      go_wp2_with (first | (at_builtin; refine wpList_owni_lies rfl _ _ rfl w.heap.size _ _ rfl HV2.out _ rfl (by omega) ?_; intro gx cx' w3 hv3 hk3 hl3; have HV3 := Lib.hid hv3; have HK3 := Lib.hid hk3; clear hv3 hk3 hl3))
      refine ⟨⟨k - 1, L ++ [(u : Int)], by simp; omega, by simp; omega, Tr.right_snoc HO.out (by omega) (by omega), ?_, ?_, ?_⟩, by simp [intOf]; omega⟩
      · simpa using HV3.out
      · rw [List.length_append]
        refine HF2.out.kept HK3.out (fun e => ?_) (fun i hi e => ?_)
        · have := (OwnI.base HV2.out e).1; omega
        · have := (OwnI.base HV2.out e).1; have := HF2.out.1; omega
      · refine HK2.out.trans HK3.out fun i hi e => ?_
        have := (OwnI.base HV2.out e).1; omega
    · obtain rfl : k = 0 := by omega
      go_wp2_with fail
      go_ret
      exact ⟨_, L, rfl, HV.out, Tr.right_of HO.out (by omega), HFd.out.more (by omega), HK.out⟩

/-- What the statements' parents tell: a row of at most nine; the Feed is one still. -/
def ParPost (B b a : Nat) (w : World) (e : Ending) (w' : World) : Prop :=
  ∃ A n c l, e = .returned (.slice A n c) ∧ Ri w' A n l ∧ n ≤ 9 ∧ (∀ ad, A = some ad → n ≠ 0 → ad.block ≠ b) ∧ IsFeed B w' b (a + 11) ∧ Kept (· = b) w w'
theorem same_drop {l q : List Int} {k : Nat} {u v : Int} (h : l[k]? = some u) (g : q[k]? = some v) (hp : (l = q) = (l.drop k = q.drop k)) (e : u = v) : (l = q) = (l.drop (k + 1) = q.drop (k + 1)) := by
  subst e
  obtain ⟨h1, h2⟩ := List.getElem?_eq_some_iff.1 h
  obtain ⟨g1, g2⟩ := List.getElem?_eq_some_iff.1 g
  rw [hp, List.drop_eq_getElem_cons h1, h2, List.drop_eq_getElem_cons g1, g2]
  simp
end Go.Proofs.Ytegkphbnedbgfaa
