
/- Few, Short: the first bytes. -/
import Derived.Test.YtkapdefghigdoaaRefPack
namespace Go.Proofs.Ytkapdefghigdoaa
open Go.RowKit

theorem Rd.take {w : World} {A : Option Addr} {n c : Nat} {l : List Nat} (h : Rd w A n c l) {k : Nat} (hk : k ≤ n) : Rd w A k c (l.take k) := by
  refine ⟨by rw [List.length_take, h.1]; omega, ?_⟩
  rcases h.2 with ⟨h0, h1, h2⟩ | ⟨rb, ro, e, hc⟩
  · exact .inl ⟨h0, by omega, h2⟩
  · refine .inr ⟨rb, ro, e, fun j u hj => hc j u ?_⟩
    rw [List.getElem?_take] at hj
    split at hj
    · exact hj
    · cases hj

set_option maxRecDepth 100000 in
theorem few_any {A : Option Addr} {n c : Nat} {l : List Nat} {w : World} (m : Nat) (hm : m ≤ 100000) (hr : Rd w A n c l) (hc : n ≤ c) (hn : n ≤ 9223372036854775807) :
    Calls Try.prog 20 #[.slice A n c, .int .i64 (m : Int)] w fun e w' => ∃ v, e = .returned v ∧ Laid w w' v (l.take m) := by
  have HR := Lib.hid hr
  have hl := hr.1
  clear hr
  have HT : n ≤ m → Hid (l.take m = l.take n) := fun h => by
    have e1 : l.take m = l := List.take_of_length_le (by omega)
    have e2 : l.take n = l := List.take_of_length_le (by omega)
    have e3 : l.take m = l.take n := by rw [e1, e2]
    exact e3
  by_cases h : m < n
  · have h' : (m : Int) < (n : Int) := by omega
    have HT := Lib.hid HT
    by_cases h0 : m = 0
    · subst h0
      go_enter Try.func20, Try.ntmps20
      go_wp2_with (first | (at_builtin; refine wpList_lay rfl _ _ rfl _ [] rfl (laid_empty w) A 0 c (l.take 0) rfl ((HR.out.take (by omega)).later (one_more w _)) (by simp) ?_; intro v1 w1 hl1; have HL := Lib.hid hl1; clear hl1))
      go_ret
      exact ⟨v1, rfl, by simpa using HL.out⟩
    · go_enter Try.func20, Try.ntmps20
      go_wp2_with (first | (at_builtin; refine wpList_lay rfl _ _ rfl _ [] rfl (laid_empty w) A m c (l.take m) rfl ((HR.out.take (by omega)).later (one_more w _)) (by simp; omega) ?_; intro v1 w1 hl1; have HL := Lib.hid hl1; clear hl1))
      go_ret
      exact ⟨v1, rfl, by simpa using HL.out⟩
  · have HT2 := HT (by omega)
    have h' : (n : Int) ≤ (m : Int) := by omega
    clear HT
    go_enter Try.func20, Try.ntmps20
    go_wp2_with (first | (at_builtin; refine wpList_lay rfl _ _ rfl _ [] rfl (laid_empty w) A n c (l.take n) rfl ((HR.out.take (by omega)).later (one_more w _)) (by simp; omega) ?_; intro v1 w1 hl1; have HL := Lib.hid hl1; clear hl1))
    go_ret
    exact ⟨v1, rfl, by rw [HT2.out]; simpa using HL.out⟩

set_option maxRecDepth 100000 in
theorem short_any (s : ByteArray) (m : Nat) (_ : m ≤ 100000) (_ : s.size ≤ 140737488351232) (w : World) :
    Calls Try.prog 21 #[.string s, .int .i64 (m : Int)] w fun e w' => ∃ t, e = .returned (.string t) ∧ t.size ≤ m ∧ w = w' := by
  by_cases h : m < s.size
  · have h' : (m : Int) < (s.size : Int) := by omega
    go_enter Try.func21, Try.ntmps21
    go_wp2_with fail
    go_ret
    refine ⟨_, rfl, ?_, rfl⟩
    rw [ByteArray.size_extract]
    omega
  · have h' : (s.size : Int) ≤ (m : Int) := by omega
    go_enter Try.func21, Try.ntmps21
    go_wp2_with fail
    go_ret
    exact ⟨_, rfl, by omega, rfl⟩
end Go.Proofs.Ytkapdefghigdoaa
