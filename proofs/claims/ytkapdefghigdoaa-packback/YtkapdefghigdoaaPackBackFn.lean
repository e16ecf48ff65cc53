
/- PackBack's function: what was laid is taken. -/
import Derived.Test.YtkapdefghigdoaaPackCut
import Derived.Test.YtkapdefghigdoaaRowBytes
namespace Go.Proofs.Ytkapdefghigdoaa
open Go.RowKit

/-- What the Reader is to find. -/
def backList (q : Nat) (i : Int) (y : Nat) (t : ByteArray) : List Nat := natb q ++ eightb (wordOf i) ++ eightb (Fl.bits y) ++ natb t.size ++ bytesOf t
theorem backList_bytey (q : Nat) (i : Int) (y : Nat) (t : ByteArray) : Bytey (backList q i y t) :=
  ((((natb_small_bytes _).append (eightb_small _)).append (eightb_small _)).append (natb_small_bytes _)).append (bytesOf_small _)

theorem wordOf_lt (i : Int) : wordOf i < 18446744073709551616 := by
  unfold wordOf
  have := Int.emod_lt_of_pos i (show (0 : Int) < 18446744073709551616 by omega)
  have := Int.emod_nonneg i (show (18446744073709551616 : Int) ≠ 0 by omega)
  omega
theorem flbits_lt {y : Nat} (h : y < 2 ^ 64) : Fl.bits y < 18446744073709551616 := by
  unfold Fl.bits
  split
  · omega
  · split <;> omega
theorem flt_full {v : Nat} (h : v < 18446744073709551616) (ht : Fl.told v = true) (rest : List Nat) : fltErr (eightb v ++ rest) = 0 := by
  unfold fltErr
  rw [List.length_append, eightb_len, if_neg (by omega), wordn_eight h, if_pos ht]

/-- The three kinds of floats, as the tests spell them. -/
inductive BackFloat (z y : Nat) : Prop
  | nan (h1 : (FloatKind.f64.format.order z y == some .eq) = false) (h2 : (FloatKind.f64.format.order y y != some .eq) = true) (h3 : (FloatKind.f64.format.order z z != some .eq) = true) (h4 : (FloatKind.f64.format.order z 0 != some .eq) = true)
  | zero (h1 : (FloatKind.f64.format.order 0 y == some .eq) = true) (h2 : z = 0)
  | other (h1 : (FloatKind.f64.format.order z y == some .eq) = true) (h2 : (FloatKind.f64.format.order z 0 != some .eq) = true)
theorem back_float (y : Nat) : BackFloat (Fl.bits y) y := by
  have hq : Fl.nan 9221120237041090560 = true := by decide
  cases hn : Fl.nan y
  · cases h0 : Fl.isZero y
    · rw [Fl.bits_else hn h0]
      refine .other ?_ ?_
      · rw [Fl.ord_self', hn]; rfl
      · have e := Fl.ord_zero hn
        rw [h0] at e
        rw [bne, e]; rfl
    · rw [Fl.bits_zero hn h0]
      refine .zero ?_ rfl
      have hz : Fl.Z y = 0 := (Fl.Z_zero_iff y).2 (by simpa [Fl.isZero] using h0)
      rw [Fl.ord_eq (by rw [Fl.nan_zero, hn]; rfl) (by rw [Fl.Z_zero, hz])]
      rfl
  · rw [Fl.bits_nan hn]
    refine .nan ?_ ?_ ?_ ?_
    · rw [Fl.ord_nan (by rw [hq]; rfl)]; rfl
    · rw [Fl.ord_self, hn]
    · rw [Fl.ord_self, hq]
    · rw [Fl.ord_nan (by rw [hq]; rfl)]; rfl

theorem signbit_zero (w : World) : Calls Try.prog 43 #[.float .f64 0] w fun e w' => e = .returned (.bool false) ∧ w = w' := by
  have hb : ∀ w : World, (callFunc 36 #[.float .f64 0]).run Try.prog w = .ok (.value (.int .u64 0)) w := fun w => tobits_run 0 w
  go_enter Try.func43, Try.ntmps43
  go_wp2_with fail
  go_ret
  exact ⟨rfl, rfl⟩

set_option maxRecDepth 100000 in
set_option maxHeartbeats 4000000 in
theorem back_fn {w : World} {g : Nat} {A : Option Addr} {n c : Nat} {q : Nat} {i : Int} {y : Nat} {t : ByteArray} (h : PR w g A n c (backList q i y t)) (hq : q ≤ 4611686018427387904) (hi1 : -9223372036854775808 ≤ i) (hi2 : i ≤ 9223372036854775807) (hy : y < 2 ^ 64) (ht : t.size ≤ 200)
    {pb pn pi px ps pf : Nat} {A0 : Option Addr} {c0 : Nat} (bb : Box w pb (.slice A0 n c0)) (bn : Box w pn (.int .i64 q)) (bi : Box w pi (.int .i64 i)) (bx : Box w px (.float .f64 y)) (bs : Box w ps (.string t)) (bf : Box w pf (.bool false))
    (hg : ¬ pb = g ∧ ¬ pn = g ∧ ¬ pi = g ∧ ¬ px = g ∧ ¬ ps = g ∧ ¬ pf = g) :
    Calls Try.prog 42 #[.pointer (some ⟨g, 0, none⟩), .pointer (some ⟨pb, 0, none⟩), .pointer (some ⟨pn, 0, none⟩), .pointer (some ⟨pi, 0, none⟩), .pointer (some ⟨px, 0, none⟩), .pointer (some ⟨ps, 0, none⟩), .pointer (some ⟨pf, 0, none⟩)] w fun e w5 =>
      ((0 : Int) = 0 ∧ (∃ v, e = .returned v) ∧ LeftIs w5 g [] ∨ ¬ (0 : Int) = 0 ∧ e = stopped 0) ∧ Kept (fun k => k = g ∨ k = pf) w w5 ∧ Box w5 pf (.bool true) := by
  have hby := backList_bytey q i y t
  have hlen := h.rd.1
  have HL := Lib.hid (pleft_any h)
  have HN := Lib.hid (pnatr_any h)
  have E1 : backList q i y t = natb q ++ (eightb (wordOf i) ++ (eightb (Fl.bits y) ++ (natb t.size ++ bytesOf t ++ []))) := by unfold backList; simp only [List.append_assoc, List.append_nil]
  have HBoxes := Lib.hid (And.intro bb (And.intro bn (And.intro bi (And.intro bx (And.intro bs bf)))))
  have HBY := Lib.hid hby
  rw [hlen] at HL
  clear bb bn bi bx bs bf h hby hlen
  rw [E1] at HN HBY
  clear E1
  obtain ⟨n1, n2, -⟩ := nat_back hq (eightb (wordOf i) ++ (eightb (Fl.bits y) ++ (natb t.size ++ bytesOf t ++ [])))
  rw [n1, n2] at HN
  unfold PTook at HN
  rw [nat_full hq] at HN
  have HBY2 := Lib.hid (HBY.out.drop (natb q).length)
  rw [List.drop_left] at HBY2
  clear n1 n2 HBY
  go_enter Try.func42, Try.ntmps42
  go_wp2_with fail
  refine HL.out.mono ?_
  rintro e w1 ⟨rfl, rfl⟩
  clear HL
  go_wp2_with fail
  refine HN.out.mono ?_
  rintro e w1 (⟨-, rfl, ⟨A1, n1, c1, h1⟩, hk1⟩ | ⟨he, -⟩)
  case inr => exact absurd trivial he
  have HI := Lib.hid (pintr_any h1 HBY2.out)
  have HK1 := Lib.hid hk1
  clear h1 hk1 HN
  rw [(eight_full _ _).1, wordn_eight (wordOf_lt i), wrap_word hi1 hi2] at HI
  unfold PTook at HI
  rw [(eight_full _ _).2] at HI
  have HBY3 := Lib.hid (HBY2.out.drop (eightb (wordOf i)).length)
  rw [List.drop_left] at HBY3
  clear HBY2
  go_wp2_with fail
  refine HI.out.mono ?_
  rintro e w2 (⟨-, rfl, ⟨A2, n2, c2, h2⟩, hk2⟩ | ⟨he, -⟩)
  case inr => exact absurd trivial he
  have HF := Lib.hid (pfltr_any h2 HBY3.out)
  have HK2 := Lib.hid (HK1.out.then hk2)
  clear h2 hk2 HI HK1 HBY3
  rw [flt_full (flbits_lt hy) (told_bits y), wordn_eight (flbits_lt hy)] at HF
  unfold PTook at HF
  rw [(eight_full _ _).2] at HF
  go_wp2_with fail
  refine HF.out.mono ?_
  rintro e w3 (⟨-, rfl, ⟨A3, n3, c3, h3⟩, hk3⟩ | ⟨he, -⟩)
  case inr => exact absurd trivial he
  have HT := Lib.hid (ptextr_any 200 h3)
  have HK3 := Lib.hid (HK2.out.then hk3)
  clear h3 hk3 HF HK2
  obtain ⟨t1, t2, t3⟩ := text_back (s := t) (by omega) [] (most := 200) (by omega)
  rw [t1, t2, t3] at HT
  unfold PTook at HT
  clear t1 t2 t3
  go_wp2_with fail
  refine HT.out.mono ?_
  rintro e w4 (⟨-, rfl, ⟨A4, n4, c4, h4⟩, hk4⟩ | ⟨he, -⟩)
  case inr => exact absurd trivial he
  have HK4 := Lib.hid (HK3.out.then hk4)
  have e4 : (natb t.size ++ bytesOf t ++ []).drop ((natb t.size).length + t.size) = [] := by
    rw [List.append_nil, List.drop_eq_nil_of_le]
    rw [List.length_append, bytesOf_len]; omega
  rw [e4] at h4
  have H4 := Lib.hid h4
  clear h4 hk4 HT HK3 e4
  obtain ⟨g1, g2, g3, g4, g5, g6⟩ := hg
  have BB := HBoxes.out
  have hbb := (BB.1.kept HK4.out g1).1
  have hbn := (BB.2.1.kept HK4.out g2).1
  have hbi := (BB.2.2.1.kept HK4.out g3).1
  have hbx := (BB.2.2.2.1.kept HK4.out g4).1
  have hbs := (BB.2.2.2.2.1.kept HK4.out g5).1
  have BF := Lib.hid (BB.2.2.2.2.2.kept HK4.out g6)
  obtain ⟨hbf, hff⟩ := BF.out
  have hfl := back_float y
  generalize Fl.bits y = z at *
  clear BB HBoxes
  have hsl : Calls Try.prog 15 #[.pointer (some ⟨g, 0, none⟩)] w4 fun e w' => e = .returned (.int .i64 0) ∧ w4 = w' := (pleft_any H4.out).mono fun e w' h => ⟨h.1, h.2⟩
  have HSL := Lib.hid hsl
  clear hsl
  have HKf : Hid (Kept (fun k => k = g ∨ k = pf) w (w4.setCell ⟨pf, 0, none⟩ (.bool true)) ∧ LeftIs (w4.setCell ⟨pf, 0, none⟩ (.bool true)) g [] ∧ Box (w4.setCell ⟨pf, 0, none⟩ (.bool true)) pf (.bool true)) := by
    have hk2 : Kept (fun k => k = pf) w4 (w4.setCell ⟨pf, 0, none⟩ (.bool true)) := Kept.setCell (S := (· = pf)) _ ⟨pf, 0, none⟩ rfl _
    exact ⟨(HK4.out.mono (fun i _ e => .inl e)).then (hk2.mono (fun i _ e => .inr e)), H4.out.left.kept hk2 (fun e => g6 e.symm), BF.out.set _⟩
  clear HK4 H4 BF
  rcases hfl with ⟨f1, f2, f3, f4⟩ | ⟨f1, rfl⟩ | ⟨f1, f2⟩
  · go_wp2_with (first | (go_at_call 15; refine HSL.out.mono ?_; rintro e wz ⟨rfl, rfl⟩))
    go_end0
    exact ⟨.inl ⟨trivial, ⟨_, rfl⟩, HKf.out.2.1⟩, HKf.out.1, HKf.out.2.2⟩
  · go_wp2_with (first | (go_at_call 15; refine HSL.out.mono ?_; rintro e wz ⟨rfl, rfl⟩) | (go_at_call 43; refine (signbit_zero _).mono ?_; rintro e wz ⟨rfl, rfl⟩))
    go_end0
    exact ⟨.inl ⟨trivial, ⟨_, rfl⟩, HKf.out.2.1⟩, HKf.out.1, HKf.out.2.2⟩
  · go_wp2_with (first | (go_at_call 15; refine HSL.out.mono ?_; rintro e wz ⟨rfl, rfl⟩))
    go_end0
    exact ⟨.inl ⟨trivial, ⟨_, rfl⟩, HKf.out.2.1⟩, HKf.out.1, HKf.out.2.2⟩
end Go.Proofs.Ytkapdefghigdoaa
