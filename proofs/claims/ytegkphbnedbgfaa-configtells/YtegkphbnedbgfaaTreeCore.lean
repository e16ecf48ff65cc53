
/- Package tree: what it asks of a row of parents: Right, has, parent, step, links, far. -/
import Derived.Test.YtegkphbnedbgfaaTreeRow
namespace Go.Proofs.Ytegkphbnedbgfaa
open Go.RowKit
set_option linter.unusedVariables false

theorem ret_b {e : Ending} {a b : Bool} (h : a = b) (he : e = .returned (.bool a)) : e = .returned (.bool b) := by rw [he, h]
set_option maxRecDepth 100000 in
set_option maxHeartbeats 4000000 in
theorem right_any {A : Option Addr} {n c : Nat} {l : List Int} {w : World} (h : Ri w A n l) (hn : n ≤ 1000) :
    Calls Try.prog 19 #[.slice A n c] w fun e w' => e = .returned (.bool (Tr.right l)) ∧ w = w' := by
  obtain rfl := h.1.symm
  have HA := Lib.hid h
  clear h
  by_cases h7 : 7 < l.length
  · have h7' : (l.length : Int) > 7 := by omega
    go_enter Try.func19, Try.ntmps19
    go_wp2_with fail
    go_ret
    exact ⟨by rw [show Tr.right l = false by unfold Tr.right; simp; omega]; rfl, rfl⟩
  have h7' : ¬ (l.length : Int) > 7 := by omega
  have HT : Hid (Tr.right l = Tr.okFrom 0 l) := Lib.hid (by unfold Tr.right; rw [decide_eq_true (by omega)]; rfl)
  go_enter Try.func19, Try.ntmps19
  go_wp2_with fail
  clear h7'
  go_loopw [10] (fun ii wr => ∃ k : Nat, k ≤ l.length ∧ ii = .int .i64 (k : Int) ∧ Tr.okFrom 0 l = Tr.okFrom k (l.drop k) ∧ w = wr) (fun ii _ => l.length - (intOf ii).toNat)
  case atStart => exact ⟨0, by omega, rfl, rfl, rfl⟩
  case round =>
    obtain ⟨k, hk, rfl, hl, rfl⟩ := hrel
    have HL := Lib.hid hl
    clear hl
    by_cases hlt : k < l.length
    · obtain ⟨rb, ro, u, rfl, hu, hc⟩ := HA.out.at_ hlt
      have HU := Lib.hid (Tr.okFrom_drop hu)
      clear hu
      by_cases h0 : u < 0
      · go_wp2_with fail
        go_ret
        exact ⟨by rw [HT.out, HL.out, HU.out, decide_eq_false (by omega)]; rfl, rfl⟩
      · by_cases h1 : (k : Int) < u
        · go_wp2_with fail
          go_ret
          exact ⟨by rw [HT.out, HL.out, HU.out, decide_eq_false (p := u ≤ (k : Int)) (by omega), Bool.and_false]; rfl, rfl⟩
        · go_wp2_with fail
          exact ⟨⟨k + 1, by omega, rfl, by rw [HL.out, HU.out, decide_eq_true (by omega), decide_eq_true (by omega)]; rfl, trivial⟩, by simp [intOf]; omega⟩
    · go_wp2_with fail
      go_ret
      exact ⟨by rw [HT.out, HL.out, List.drop_eq_nil_of_le (by omega)]; rfl, rfl⟩
end Go.Proofs.Ytegkphbnedbgfaa
