
/- Words: what they are; the contracts of attr.Word and of the document's answer. -/
import Derived.Test.YtgenmebmdpnjhaaVal2
import Derived.Lib.Hide
namespace Go.Proofs.Ytgenmebmdpnjhaa
open Go.RowKit

namespace At
/-- A byte from a to z. -/
def low (b : UInt8) : Bool := decide (97 ≤ b.toNat) && decide (b.toNat ≤ 122)
/-- 1 to 6 bytes, each from a to z. -/
def word (s : ByteArray) : Bool := decide (1 ≤ s.size) && decide (s.size ≤ 6) && s.toList.all low
theorem toList_len (s : ByteArray) : s.toList.length = s.size := by rw [ByteArray.toList_eq]; cases s; rfl
theorem toList_get (s : ByteArray) (k : Nat) (h : k < s.size) : s.toList[k]? = some s[k] := by
  rw [ByteArray.toList_eq]
  cases s with
  | mk d => 
    show d.toList[k]? = some d[k]
    have h' : k < d.size := h
    simp [h']
theorem take_low {s : ByteArray} {k : Nat} (h : k < s.size) (hl : (s.toList.take k).all low = true) (hb : low s[k] = true) : (s.toList.take (k + 1)).all low = true := by
  rw [List.take_add_one, List.all_append, hl, toList_get s k h]
  simp [hb]
theorem not_low {s : ByteArray} {k : Nat} (h : k < s.size) (hb : low s[k] = false) : word s = false := by
  have : s.toList.all low = false := by
    rw [List.all_eq_false]
    exact ⟨s[k], List.mem_of_getElem? (toList_get s k h), by simp [hb]⟩
  unfold word
  rw [this, Bool.and_false]
theorem is_word {s : ByteArray} {k : Nat} (h1 : ¬ s.size < 1) (h2 : ¬ s.size > 6) (h : ¬ k < s.size) (hl : (s.toList.take k).all low = true) : word s = true := by
  rw [List.take_of_length_le (by rw [toList_len]; omega)] at hl
  unfold word
  rw [hl, decide_eq_true (by omega : 1 ≤ s.size), decide_eq_true (by omega : s.size ≤ 6)]
  rfl
theorem short_none {s : ByteArray} (h : s.size < 1) : word s = false := by unfold word; rw [decide_eq_false (by omega)]; rfl
theorem long_none {s : ByteArray} (h : s.size > 6) : word s = false := by unfold word; rw [decide_eq_false (p := s.size ≤ 6) (by omega)]; simp
end At

theorem word_any (s : ByteArray) (hs : s.size ≤ 9223372036854775807) (w : World) : Calls Try.prog 65 #[.string s] w fun e w' => e = .returned (.bool (At.word s)) ∧ w = w' := by
  by_cases h1 : s.size < 1
  · rw [At.short_none h1]
    go_enter Try.func65, Try.ntmps65
    go_wp2_with fail
    go_ret
    exact ⟨rfl, rfl⟩
  · by_cases h2 : s.size > 6
    · rw [At.long_none h2]
      go_enter Try.func65, Try.ntmps65
      go_wp2_with fail
      go_ret
      exact ⟨rfl, rfl⟩
    · go_enter Try.func65, Try.ntmps65
      go_wp2_with fail
      go_loopw [14] (fun ii wr => ∃ k : Nat, k ≤ s.size ∧ ii = .int .i64 (k : Int) ∧ (s.toList.take k).all At.low = true ∧ w = wr) (fun ii _ => s.size - (intOf ii).toNat)
      case atStart => exact ⟨0, by omega, rfl, by simp, rfl⟩
      case round =>
        obtain ⟨k, hk, rfl, hl, rfl⟩ := hrel
        have HL := Lib.hid hl
        clear hl
        by_cases hlt : k < s.size
        · cases hb : At.low s[k]
          · have HN := Lib.hid (At.not_low hlt hb)
            have hb' : (s[k].toNat : Int) < 97 ∨ 97 ≤ (s[k].toNat : Int) ∧ 122 < (s[k].toNat : Int) := by
              unfold At.low at hb
              simp only [Bool.and_eq_false_iff, decide_eq_false_iff_not] at hb
              omega
            clear hb
            rcases hb' with hb | ⟨hb, hb2⟩
            · go_wp2_with fail
              go_ret
              exact ⟨by rw [HN.out]; rfl, rfl⟩
            · go_wp2_with fail
              go_ret
              exact ⟨by rw [HN.out]; rfl, rfl⟩
          · have HL2 := Lib.hid (At.take_low hlt HL.out hb)
            have hb' : 97 ≤ (s[k].toNat : Int) ∧ (s[k].toNat : Int) ≤ 122 := by
              unfold At.low at hb
              simp only [Bool.and_eq_true, decide_eq_true_eq] at hb
              omega
            obtain ⟨hb1, hb2⟩ := hb'
            clear hb
            go_wp2_with fail
            exact ⟨⟨k + 1, by omega, rfl, HL2.out, trivial⟩, by simp [intOf]; omega⟩
        · go_wp2_with fail
          go_ret
          exact ⟨by rw [At.is_word h1 h2 hlt HL.out]; rfl, rfl⟩

end Go.Proofs.Ytgenmebmdpnjhaa
