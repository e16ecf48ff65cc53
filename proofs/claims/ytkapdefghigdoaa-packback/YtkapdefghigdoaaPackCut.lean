
/- PackCut: the walk. -/
import Derived.Test.YtkapdefghigdoaaPackCutFns
import Derived.Test.YtkapdefghigdoaaHandBytes
import Derived.Deep.DeepCutAuto
namespace Go.Proofs.Ytkapdefghigdoaa
open Go.RowKit

theorem known_any (w : World) : Calls Try.prog 24 #[] w fun e w' => e = .returned (.bool true) ∧ Below w.heap.size w w' := by
  go_enter Try.func24, Try.ntmps24
  go_wp2_with fail
  refine (pknown_any w).mono ?_
  rintro e w1 ⟨rfl, hb⟩
  have HB := Lib.hid hb
  clear hb
  go_wp2_with fail
  go_ret
  exact ⟨rfl, HB.out⟩

theorem Laid.readsc {W0 w : World} {v : Value} {l : List Nat} (h : Laid W0 w v l) : ∃ A n c, v = .slice A n c ∧ Rd w A n c l ∧ n ≤ c ∧ (∀ ad, A = some ad → ad.block < w.heap.size) ∧ n = l.length := by
  obtain ⟨A, c, e, hr⟩ := h.reads
  refine ⟨A, _, c, e, hr, ?_, ?_, rfl⟩
  · rcases h.1.2 with ⟨rfl, h0⟩ | ⟨g, cap, cur, fz, rfl, hb, hg, hfz, hn, hm, hs, ht⟩
    · omega
    · obtain ⟨-, -, rfl⟩ := Value.slice.inj e; exact hn
  · intro ad ea
    rcases h.1.2 with ⟨rfl, h0⟩ | ⟨g, cap, cur, fz, rfl, hb, hg, hfz, hn, hm, hs, ht⟩
    · obtain ⟨rfl, -, -⟩ := Value.slice.inj e; cases ea
    · obtain ⟨rfl, -, -⟩ := Value.slice.inj e; cases ea
      have := (Array.getElem?_eq_some_iff.1 hg).1
      exact this
theorem natw_nat {q : Nat} (h : q ≤ 4611686018427387904) : natw (q : Int) = natb q := by
  unfold natw
  rw [if_pos (by omega), Int.toNat_natCast]
theorem u8_nat {z : Int} (h : (Lit.int .u8 z).wf = true) : ∃ b : Nat, z = (b : Int) ∧ b < 256 := by
  simp only [Lit.wf, decide_eq_true_eq, Bool.and_eq_true] at h
  obtain ⟨h1, h2⟩ := h
  have h1' : 0 ≤ z := h1
  have h2' : z ≤ 255 := h2
  exact ⟨z.toNat, by omega, by omega⟩
theorem clamp_nat (n : Int) : ∃ (m : Int) (q : Nat), q ≤ 4611686018427387904 ∧ (if 4611686018427387904 < n then 4611686018427387904 else n) = m ∧ (if 0 < m then m else 0) = (q : Int) := by
  refine ⟨_, (if 4611686018427387904 < n then 4611686018427387904 else n).toNat, ?_, rfl, ?_⟩
  · split <;> omega
  · generalize hm : (if 4611686018427387904 < n then 4611686018427387904 else n) = m
    split <;> omega

set_option maxRecDepth 100000 in
set_option maxHeartbeats 4000000 in
theorem packcut_any (w : World) (n : Int) (_ : (Lit.int .i64 n).wf = true) (s : ByteArray) (hs : s.size ≤ 140737488351232) (cut : Int) (_ : (Lit.int .i64 cut).wf = true) (wi : Int) (hwi : (Lit.int .u8 wi).wf = true) :
    Calls Try.prog 7 #[.int .i64 n, .string s, .int .i64 cut, .int .u8 wi] w fun e w' => e = .returned (.bool true) ∧ Below w.heap.size w w' := by
  obtain ⟨b, rfl, hb⟩ := u8_nat hwi
  obtain ⟨m, q, hq, hqe⟩ := clamp_nat n
  have HQ := Lib.hid hqe
  clear hqe hwi
  go_enter Try.func7, Try.ntmps7
  go_upto_region 2 with fail
  rw [HQ.out.1, HQ.out.2]
  clear HQ
  go_wp2_with fail
  refine (short_any s 100 (by omega) hs w).mono ?_
  rintro e w1 ⟨t, rfl, ht, rfl⟩
  clear hs
  go_wp2_with fail
  refine (pnat_any (q : Int) (rd_nil w) (by omega)).mono ?_
  rintro e w1 ⟨v1, rfl, hl1⟩
  rw [natw_nat hq, List.nil_append] at hl1
  obtain ⟨A1, n1, c1, rfl, hr1, hc1, ha1, hn1⟩ := hl1.readsc
  have h91 := natb_len9 hq
  have HB1 := Lib.hid hl1.below
  have N1 : n1 ≤ 9 := by omega
  have HR1 := Lib.hid hr1
  clear hl1 hr1 hn1 h91
  go_wp2_with fail
  refine (pint_any 5 HR1.out (by omega)).mono ?_
  rintro e w2 ⟨v2, rfl, hl2⟩
  obtain ⟨A2, n2, c2, rfl, hr2, hc2, ha2, hn2⟩ := hl2.readsc
  have N2 : n2 ≤ 17 := by rw [hn2, List.length_append, eightb_len, HR1.out.1]; omega
  have HB2 := Lib.hid (HB1.out.trans (hl2.below.mono (HB1.out.size)))
  have HR2 := Lib.hid hr2
  clear hl2 hr2 hn2 HR1 HB1 ha1
  go_wp2_with fail
  refine (ptext_any t (by omega) HR2.out (by omega)).mono ?_
  rintro e w3 ⟨v3, rfl, hl3⟩
  have e3 : natb q ++ eightb (wordOf 5) ++ natb t.size ++ bytesOf t = natb q ++ (eightb (wordOf 5) ++ (natb t.size ++ bytesOf t)) := by simp only [List.append_assoc]
  rw [e3] at hl3
  obtain ⟨A3, n3, c3, rfl, hr3, hc3, ha3, hn3⟩ := hl3.readsc
  have HB3 := Lib.hid (HB2.out.trans (hl3.below.mono (HB2.out.size)))
  have hby : Bytey (natb q ++ (eightb (wordOf 5) ++ (natb t.size ++ bytesOf t))) := (natb_small_bytes _).append ((eightb_small _).append ((natb_small_bytes _).append (bytesOf_small _)))
  have HS := Lib.hid (fun k (hk : k < (natb q ++ (eightb (wordOf 5) ++ (natb t.size ++ bytesOf t))).length) => cut_short (v := wordOf 5) hq ht hk)
  have HM := Lib.hid (cut_more (v := wordOf 5) hq ht [b])
  have N3 : n3 ≤ 200 := by
    have h1 := natb_len9 hq
    have h2 := natb_len9 (m := t.size) (by omega)
    have h3 := bytesOf_len t
    simp only [List.length_append, eightb_len] at hn3
    omega
  have P3 : 1 ≤ n3 := by
    have h1 := natb_pos q
    simp only [List.length_append, eightb_len] at hn3
    omega
  generalize natb q ++ (eightb (wordOf 5) ++ (natb t.size ++ bytesOf t)) = l at HS HM hr3 hn3 hby
  have HR3 := Lib.hid hr3
  have HY := Lib.hid hby
  have HN3 := Lib.hid hn3
  clear hl3 hr3 HR2 HB2 ha2 e3 hby hn3
  go_wp2_with fail
  refine (pick_any cut (n3 : Int) (by omega) (by omega) w3).mono ?_
  rintro e w4 ⟨rfl, rfl⟩
  obtain ⟨k, hk, hkn⟩ : ∃ k : Nat, cut % (n3 : Int) = (k : Int) ∧ k < n3 := by
    have h1 := Int.emod_nonneg cut (show (n3 : Int) ≠ 0 by omega)
    have h2 := Int.emod_lt_of_pos cut (show (0 : Int) < n3 by omega)
    exact ⟨(cut % (n3 : Int)).toNat, by omega, by omega⟩
  rw [hk]
  clear hk
  obtain ⟨rb, ro, rfl, -⟩ := HR3.out.at_ (j := 0) (by omega)
  go_wp2_with fail
  refine (take_read (HR3.out.take (Nat.le_of_lt hkn)) (by omega) (by omega) ha3 (HY.out.take k)).mono ?_
  rintro e w5 ⟨rfl, hb5⟩
  rw [HS.out k (by rw [← HN3.out]; exact hkn), show readAns 2 (cutRest (l.take k)) = 2 from rfl]
  have HB5 := Lib.hid (HB3.out.trans (hb5.mono (HB3.out.size)))
  have HR5 := Lib.hid (HR3.out.later hb5)
  clear hb5 HB3 ha3 HS hkn
  go_wp2_with fail
  refine (few_any n3 (by omega) HR5.out hc3 (by omega)).mono ?_
  rintro e w6 ⟨v6, rfl, hl6⟩
  rw [List.take_of_length_le (by rw [HN3.out]; exact Nat.le_refl _)] at hl6
  have HL6 := Lib.hid hl6
  clear hl6
  go_wp2_with (first | (at_builtin; refine wpList_lay1 rfl _ _ rfl _ l rfl HL6.out _ b rfl rfl (by rw [← HN3.out]; omega) ?_; intro v7 w7 hl7; have HL7 := Lib.hid hl7; clear hl7))
  obtain ⟨A7, n7, c7, rfl, hr7, hc7, ha7, hn7⟩ := HL7.out.readsc
  have N7 : n7 ≤ 201 := by rw [hn7, List.length_append, ← HN3.out]; simp; omega
  have HB7 := Lib.hid (HB5.out.trans (HL7.out.below.mono HB5.out.size))
  have HR7 := Lib.hid hr7
  have hy7 : Bytey (l ++ [b]) := HY.out.append (fun x hx => by rw [List.mem_singleton.1 hx]; exact hb)
  have HY7 := Lib.hid hy7
  clear hr7 hn7 HL7 HL6 HB5 HR5 HR3 hy7
  refine (take_read HR7.out hc7 (by omega) ha7 HY7.out).mono ?_
  rintro e w8 ⟨rfl, hb8⟩
  rw [HM.out.1, HM.out.2, show readAns 0 [b] = 3 from rfl]
  have HB8 := Lib.hid (HB7.out.trans (hb8.mono HB7.out.size))
  clear hb8 HB7 HR7 HY7 HY HM HN3
  go_wp2_with fail
  refine (pnat_any 101 (rd_nil w8) (by omega)).mono ?_
  rintro e w9 ⟨v9, rfl, hl9⟩
  rw [show natw 101 = natb 101 from natw_nat (q := 101) (by omega), List.nil_append] at hl9
  obtain ⟨A9, n9, c9, rfl, hr9, hc9, ha9, hn9⟩ := hl9.readsc
  have N9 : n9 ≤ 9 := by have := natb_len9 (m := 101) (by omega); omega
  have HR9 := Lib.hid hr9
  have HB9 := Lib.hid (HB8.out.trans (hl9.below.mono HB8.out.size))
  clear hr9 hn9 hl9 HB8
  go_wp2_with fail
  refine (over_read HR9.out hc9 (by omega) ha9 3 text_over.1 (by decide)).mono ?_
  rintro e w10 ⟨rfl, hb10⟩
  have HB10 := Lib.hid (HB9.out.trans (hb10.mono HB9.out.size))
  clear hb10 HB9 HR9
  go_wp2_with fail
  refine (pnat_any 100 (rd_nil w10) (by omega)).mono ?_
  rintro e w11 ⟨v11, rfl, hl11⟩
  rw [show natw 100 = natb 100 from natw_nat (q := 100) (by omega), List.nil_append] at hl11
  obtain ⟨A11, n11, c11, rfl, hr11, hc11, ha11, hn11⟩ := hl11.readsc
  have N11 : n11 ≤ 9 := by have := natb_len9 (m := 100) (by omega); omega
  have HR11 := Lib.hid hr11
  have HB11 := Lib.hid (HB10.out.trans (hl11.below.mono HB10.out.size))
  clear hr11 hn11 hl11 HB10
  go_wp2_with fail
  refine (over_read2 HR11.out hc11 (by omega) ha11 2 text_over.2 (by decide)).mono ?_
  rintro e w12 ⟨rfl, hb12⟩
  have HB12 := Lib.hid (HB11.out.trans (hb12.mono HB11.out.size))
  clear hb12 HB11 HR11
  go_wp2_with fail
  refine (known_any w12).mono ?_
  rintro e w13 ⟨rfl, hb13⟩
  have HB13 := Lib.hid (HB12.out.trans (hb13.mono HB12.out.size))
  clear hb13 HB12
  go_wp2_with fail
  go_ret
  exact ⟨rfl, HB13.out⟩
end Go.Proofs.Ytkapdefghigdoaa
