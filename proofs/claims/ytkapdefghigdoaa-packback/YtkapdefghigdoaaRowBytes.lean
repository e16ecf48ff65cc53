
/- A row of bytes that came in reads as a list of bytes. -/
import Derived.Test.YtkapdefghigdoaaRefReader
namespace Go.Proofs.Ytkapdefghigdoaa
open Go.RowKit

theorem i64_range {n : Int} (h : (Lit.int .i64 n).wf = true) : -9223372036854775808 ≤ n ∧ n ≤ 9223372036854775807 := by
  simp only [Lit.wf, decide_eq_true_eq, Bool.and_eq_true] at h
  exact h
theorem u8_range {n : Int} (h : (Lit.int .u8 n).wf = true) : 0 ≤ n ∧ n ≤ 255 := by
  simp only [Lit.wf, decide_eq_true_eq, Bool.and_eq_true] at h
  exact h
theorem f64_range {n : Nat} (h : (Lit.float .f64 n).wf = true) : n < 2 ^ 64 := by
  simp only [Lit.wf, decide_eq_true_eq] at h
  exact h
theorem IsRow.rd {w : World} {a : Option Addr} {len cap : Nat} {zs : List Int} (h : IsRow .u8 w a len cap zs) (hp : ∀ x, a = some x → x.spot = none) :
    ∃ l, Rd w a len cap l ∧ len ≤ cap ∧ len ≤ 9223372036854775807 ∧ Bytey l ∧ ∀ ad, a = some ad → 0 < len → ad.block < w.heap.size := by
  rcases h with ⟨rfl, rfl, rfl, rfl⟩ | ⟨x, rfl, hl, hm, hz, hc, hw⟩
  · exact ⟨[], ⟨rfl, .inl ⟨rfl, rfl, rfl⟩⟩, Nat.le_refl _, by omega, (fun b hb => by cases hb), fun _ e => by cases e⟩
  · have hm' : len ≤ 9223372036854775807 := by unfold maxLen at hm; omega
    by_cases h0 : len = 0
    · subst h0
      obtain ⟨rb, ro, pt⟩ := x
      obtain rfl : pt = none := hp _ rfl
      exact ⟨[], ⟨rfl, .inr ⟨rb, ro, rfl, fun j u hj => by cases hj⟩⟩, hl, hm', (fun b hb => by cases hb), fun _ _ h => by omega⟩
    · obtain ⟨b, off, rfl, hc'⟩ := ints_at hc (by omega)
      refine ⟨(zs.take len).map Int.toNat, ⟨by simp; omega, .inr ⟨b, off, rfl, fun j u hj => ?_⟩⟩, hl, hm', ?_, ?_⟩
      · rw [List.getElem?_map, Option.map_eq_some_iff] at hj
        obtain ⟨z, hz', rfl⟩ := hj
        have hj' := (List.getElem?_eq_some_iff.1 hz').1
        rw [List.length_take] at hj'
        rw [List.getElem?_take, if_pos (by omega)] at hz'
        have hj2 : j < zs.length := by omega
        rw [hc' j hj2]
        have e : zs.getD j 0 = z := by rw [List.getD_eq_getElem?_getD, hz']; rfl
        have hr := u8_range (hw z (List.mem_of_getElem? hz'))
        rw [e, bcell, Int.toNat_of_nonneg hr.1]
      · intro v hv
        obtain ⟨z, hz', rfl⟩ := List.mem_map.1 hv
        have hr := u8_range (hw z (List.mem_of_mem_take hz'))
        omega
      · intro ad e h1
        cases e
        exact cell_lt (hc' 0 (by omega))
end Go.Proofs.Ytkapdefghigdoaa
