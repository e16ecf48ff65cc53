
/- What was laid is taken: plain mathematics; nothing of the program. -/
import Derived.Test.YtgenmebmdpnjhaaRefReader
namespace Go.Proofs.Ytgenmebmdpnjhaa
open Go.RowKit

theorem natb_pos (m : Nat) : 0 < (natb m).length := by
  by_cases h : m < 128
  · rw [natb_small h]; simp
  · rw [natb_big (by omega)]; simp
/-- Each byte but the last has its highest bit set. -/
theorem natb_high (m : Nat) : ∀ j, j + 1 < (natb m).length → 128 ≤ (natb m).getD j 0 := by
  induction m using Nat.strongRecOn with
  | _ m ih =>
    intro j hj
    by_cases h : m < 128
    · rw [natb_small h] at hj; simp at hj
    · rw [natb_big (by omega)] at hj ⊢
      cases j with
      | zero => simp
      | succ j => simpa using ih (m / 128) (by omega) j (by simpa using hj)
theorem natb_last (m : Nat) : (natb m).getD ((natb m).length - 1) 0 < 128 ∧ (0 < m → 0 < (natb m).getD ((natb m).length - 1) 0) := by
  induction m using Nat.strongRecOn with
  | _ m ih =>
    by_cases h : m < 128
    · rw [natb_small h]; simpa using h
    · rw [natb_big (by omega)]
      have hp := natb_pos (m / 128)
      obtain ⟨h1, h2⟩ := ih (m / 128) (by omega)
      obtain ⟨q, hq⟩ : ∃ q, (natb (m / 128)).length = q + 1 := ⟨_, (Nat.succ_pred_eq_of_pos hp).symm⟩
      rw [hq] at h1 h2
      have h2 := h2 (by omega)
      simp only [List.length_cons, hq, Nat.add_sub_cancel] at h1 h2 ⊢
      exact ⟨by simpa using h1, fun _ => by simpa using h2⟩
theorem valb_natb (m : Nat) : valb (natb m) = m := by
  induction m using Nat.strongRecOn with
  | _ m ih =>
    by_cases h : m < 128
    · rw [natb_small h]; simp [valb]; omega
    · rw [natb_big (by omega), valb, ih (m / 128) (by omega)]; omega

theorem natb_len9 {m : Nat} (h : m ≤ 4611686018427387904) : (natb m).length ≤ 9 := by
  have e : (128 : Nat) ^ 9 = 9223372036854775808 := by decide
  exact natb_len 8 m (by omega)
theorem getD_left {l r : List Nat} {j : Nat} (h : j < l.length) : (l ++ r).getD j 0 = l.getD j 0 := by simp [List.getElem?_append_left h]
theorem lead_natb {m : Nat} (h : m ≤ 4611686018427387904) (rest : List Nat) : lead (natb m ++ rest) = (natb m).length - 1 := by
  have h9 := natb_len9 h
  have hp := natb_pos m
  refine led_end ⟨by omega, by rw [List.length_append]; omega, fun j hj => ?_⟩ (.inr (.inr ?_))
  · have := natb_high m j (by omega)
    rw [getD_left (by omega)]
    exact this
  · rw [getD_left (by omega)]
    exact (natb_last m).1
/-- What Nat lays is taken. -/
theorem nat_back {m : Nat} (h : m ≤ 4611686018427387904) (rest : List Nat) : natErr (natb m ++ rest) = 0 ∧ natVal (natb m ++ rest) = m ∧ natTaken (natb m ++ rest) = (natb m).length := by
  have hl := lead_natb h rest
  have h9 := natb_len9 h
  have hp := natb_pos m
  have ht : (natb m ++ rest).take ((natb m).length - 1 + 1) = natb m := by
    rw [Nat.sub_add_cancel hp]
    exact List.take_left
  refine ⟨?_, ?_, ?_⟩
  · unfold natErr
    rw [hl, ht, valb_natb, if_neg (by omega), if_neg (by rw [List.length_append]; omega), if_neg]
    rintro (⟨h1, h2⟩ | h1)
    · rw [getD_left (by omega)] at h2
      have hm : 0 < m := by
        rcases Nat.eq_zero_or_pos m with e | e
        · subst e; rw [natb_small (by omega)] at h1; simp at h1
        · exact e
      have := (natb_last m).2 hm
      omega
    · omega
  · unfold natVal; rw [hl, ht, valb_natb]
  · unfold natTaken; rw [hl]; omega
/-- Cut short it is too short. -/
theorem nat_cut {m : Nat} (h : m ≤ 4611686018427387904) {k : Nat} (hk : k < (natb m).length) : natErr ((natb m).take k) = 2 := by
  have h9 := natb_len9 h
  have hl : lead ((natb m).take k) = k := by
    refine led_end ⟨by omega, by rw [List.length_take]; omega, fun j hj => ?_⟩ (.inr (.inl (by rw [List.length_take]; omega)))
    have := natb_high m j (by omega)
    rw [show ((natb m).take k).getD j 0 = (natb m).getD j 0 by simp [hj]]
    exact this
  unfold natErr
  rw [hl, if_neg (by omega), if_pos (by rw [List.length_take]; omega)]
theorem wordn_eight {v : Nat} (h : v < 18446744073709551616) (rest : List Nat) : wordn (eightb v ++ rest) 8 = v := by
  have e : (eightb v ++ rest).take 8 = eightb v := List.take_left (l₁ := eightb v)
  unfold wordn
  rw [e]
  simp [eightb, List.range, List.range.loop]
  omega
theorem wrap_word {i : Int} (h1 : -9223372036854775808 ≤ i) (h2 : i ≤ 9223372036854775807) : wrap64 ((wordOf i : Nat) : Int) = i := by
  have e := (Int.toNat_of_nonneg (Int.emod_nonneg i (show (18446744073709551616 : Int) ≠ 0 by omega)))
  unfold wordOf
  rw [e]
  go_arith
theorem tstr_bytes (s : ByteArray) : tstr (bytesOf s) = s := by
  obtain ⟨⟨l⟩⟩ := s
  simp [tstr, bytesOf, strOfNums, List.map_map, Function.comp_def]
theorem bytesOf_small (s : ByteArray) : Bytey (bytesOf s) := by
  intro b hb
  obtain ⟨u, _, rfl⟩ := List.mem_map.1 hb
  exact u.toNat_lt
theorem natb_small_bytes (m : Nat) : Bytey (natb m) := by
  induction m using Nat.strongRecOn with
  | _ m ih =>
    intro b hb
    by_cases h : m < 128
    · rw [natb_small h] at hb
      simp at hb
      omega
    · rw [natb_big (by omega)] at hb
      rcases List.mem_cons.1 hb with e | e
      · omega
      · exact ih (m / 128) (by omega) b e
theorem eightb_small (v : Nat) : Bytey (eightb v) := by
  intro b hb
  obtain ⟨i, _, rfl⟩ := List.mem_map.1 hb
  exact Nat.mod_lt _ (by omega)
/-- What Text lays is taken. -/
theorem text_back {s : ByteArray} (hs : s.size ≤ 4611686018427387904) (rest : List Nat) {most : Int} (hm : (s.size : Int) ≤ most) :
    textErr (natb s.size ++ bytesOf s ++ rest) most = 0 ∧ textVal (natb s.size ++ bytesOf s ++ rest) = s ∧ textTaken (natb s.size ++ bytesOf s ++ rest) = (natb s.size).length + s.size := by
  rw [List.append_assoc]
  obtain ⟨h1, h2, h3⟩ := nat_back hs (bytesOf s ++ rest)
  have hl := bytesOf_len s
  refine ⟨?_, ?_, ?_⟩
  · unfold textErr
    rw [h1, h2, h3, if_pos rfl, if_neg (by omega), if_neg]
    simp only [List.length_append]
    omega
  · unfold textVal
    rw [h2, h3, List.drop_left, ← hl, List.take_left, tstr_bytes]
  · unfold textTaken
    rw [h2, h3]
/-- The bits that are told are told again. -/
theorem told_bits (x : Nat) : Fl.told (Fl.bits x) = true := by
  have hq : Fl.nan 9221120237041090560 = true := by decide
  have hz : Fl.nan 0 = false := by decide
  have hz2 : Fl.isZero 0 = true := by decide
  unfold Fl.told
  rw [beq_iff_eq]
  cases hn : Fl.nan x
  · cases h0 : Fl.isZero x
    · rw [Fl.bits_else hn h0, Fl.bits_else hn h0]
    · rw [Fl.bits_zero hn h0, Fl.bits_zero hz hz2]
  · rw [Fl.bits_nan hn, Fl.bits_nan hq]
end Go.Proofs.Ytgenmebmdpnjhaa
