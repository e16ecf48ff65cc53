/- FloatBits: the walk. -/
import Derived.Test.YtkmehllidbicoaaKnown
import Derived.Test.YtkmehllidbicoaaNear
import Derived.Deep.DeepCutAuto
namespace Go.Proofs.Ytkmehllidbicoaa
open Go.RowKit

namespace Fl
open Ieee
theorem nan_bits (x : Nat) : nan (bits x) = nan x := by
  unfold bits
  cases h : nan x
  · simp only [Bool.false_eq_true, if_false]
    split
    · decide
    · exact h
  · simp only [if_true]; decide
theorem bits_bits (x : Nat) : bits (bits x) = bits x := by
  cases h : nan x
  · cases h0 : isZero x
    · rw [bits_else h h0, bits_else h h0]
    · rw [bits_zero h h0]; decide
  · rw [bits_nan h]; decide
theorem told_bits (x : Nat) : told (bits x) = true := by unfold told; rw [bits_bits]; exact beq_self_eq_true _
theorem Z_bits {x : Nat} (h : nan x = false) : Z (bits x) = Z x := by
  cases h0 : isZero x
  · rw [bits_else h h0]
  · rw [bits_zero h h0, Z_zero, (Z_zero_iff x).2 (of_decide_eq_true h0)]
theorem Z_inj {a b : Nat} (ha : a < 2 ^ 64) (hb : b < 2 ^ 64) (h0 : isZero a = false) (h : Z a = Z b) : a = b := by
  have hz : Z a ≠ 0 := fun e => by have := (Z_zero_iff a).1 e; unfold isZero at h0; exact absurd this (of_decide_eq_false h0)
  have key : neg a = neg b ∧ rung a = rung b := by
    rcases Int.lt_trichotomy (Z a) 0 with g | g | g
    · have ga := (Z_neg g).1
      have gb := (Z_neg (h ▸ g)).1
      refine ⟨ga.trans gb.symm, K_inj ?_⟩
      unfold Z at h
      rw [ga, gb] at h
      simp only [if_true] at h
      omega
    · exact absurd g hz
    · have ga := (Z_pos g).1
      have gb := (Z_pos (h ▸ g)).1
      refine ⟨ga.trans gb.symm, K_inj ?_⟩
      unfold Z at h
      rw [ga, gb] at h
      simp only [Bool.false_eq_true, if_false] at h
      omega
  rw [word_of ha, word_of hb, key.1, key.2]
theorem isZero_of {a b : Nat} (h : Z a = Z b) : isZero a = isZero b := by
  unfold isZero
  have h1 := Z_zero_iff a
  have h2 := Z_zero_iff b
  rw [h] at h1
  rw [decide_eq_decide]
  exact h1.symm.trans h2
/-- Same bits are the same number, or NaN. -/
theorem same_num {a b : Nat} (ha : a < 2 ^ 64) (hb : b < 2 ^ 64) (na : nan a = false) (nb : nan b = false) : same a b = decide (Z a = Z b) := by
  unfold same
  by_cases h : Z a = Z b
  · rw [decide_eq_true h]
    have e := isZero_of h
    cases h0 : isZero a
    · rw [Z_inj ha hb h0 h]; exact beq_self_eq_true _
    · rw [bits_zero na h0, bits_zero nb (e ▸ h0)]; rfl
  · rw [decide_eq_false h]
    rw [beq_eq_false_iff_ne]
    intro e
    exact h (by rw [← Z_bits na, ← Z_bits nb, e])
theorem same_nan {a b : Nat} (na : nan a = true) (nb : nan b = true) : same a b = true := by
  unfold same; rw [bits_nan na, bits_nan nb]; rfl
theorem same_not {a b : Nat} (h : nan a ≠ nan b) : same a b = false := by
  unfold same
  rw [beq_eq_false_iff_ne]
  intro e
  exact h (by rw [← nan_bits a, ← nan_bits b, e])
theorem same_self (a : Nat) : same a a = true := by unfold same; exact beq_self_eq_true _
end Fl

/-- Of what is told as 0 the sign is none. -/
theorem signbit_zero (w : World) : Calls Try.prog 27 #[.float .f64 0] w fun e w' => e = .returned (.bool false) ∧ w = w' := by
  have ht := tobits_run 0
  have b1 : bits BinOp.and IntKind.u64 0 9223372036854775808 = 0 := by decide
  go_enter Try.func27, Try.ntmps27
  go_wp2
  go_ret
  exact ⟨rfl, rfl⟩

/-- What the walk is told of two floats. -/
structure Twos (a b : Nat) (na nb z s : Bool) : Prop where
  oa : (FloatKind.f64.format.order a a == some .eq) = !na
  oa' : (FloatKind.f64.format.order a a != some .eq) = na
  ob' : (FloatKind.f64.format.order b b != some .eq) = nb
  ox : (FloatKind.f64.format.order (Fl.bits a) (Fl.bits a) == some .eq) = !na
  tb : Fl.told (Fl.bits a) = true
  bb : Fl.bits (Fl.bits a) = Fl.bits a
  xa : na = false → (FloatKind.f64.format.order (Fl.bits a) a != some .eq) = false
  x0 : (FloatKind.f64.format.order (Fl.bits a) 0 == some .eq) = z
  xz : z = true → Fl.bits a = 0
  zn : z = true → na = false
  kk : Fl.cmpOk a b = (!na && !nb)
  cc : (!na && !nb) = true → (Fl.cmp a b == 0) = s
  s1 : Fl.same a b = s
  s2 : Fl.same b a = s
  s3 : Fl.same a a = true
  ss : (na && nb) = true → s = true
  sn : (na != nb) = true → s = false

theorem twos {a b : Nat} (ha : a < 2 ^ 64) (hb : b < 2 ^ 64) : ∃ z s, Twos a b (Fl.nan a) (Fl.nan b) z s := by
  refine ⟨_, Fl.same a b, Fl.ord_self' a, Fl.ord_self a, Fl.ord_self b, by rw [Fl.ord_self', Fl.nan_bits], Fl.told_bits a, Fl.bits_bits a, ?_, rfl, ?_, ?_, rfl, ?_, rfl, ?_, Fl.same_self a, ?_, ?_⟩
  · intro h
    rw [Fl.ord_eq (by rw [Fl.nan_bits, h]; rfl) (Fl.Z_bits h)]; rfl
  · intro h
    cases n : Fl.nan a
    · rw [Fl.ord_zero (by rw [Fl.nan_bits, n])] at h
      have h' : Fl.isZero a = true := by rw [← Fl.isZero_of (Fl.Z_bits n)]; exact h
      exact Fl.bits_zero n h'
    · rw [Fl.ord_nan (by rw [Fl.nan_bits, n]; rfl)] at h
      cases h
  · intro h
    cases n : Fl.nan a
    · rfl
    · rw [Fl.ord_nan (by rw [Fl.nan_bits, n]; rfl)] at h
      cases h
  · intro h
    rw [Bool.and_eq_true, Bool.not_eq_true', Bool.not_eq_true'] at h
    rw [Fl.same_num ha hb h.1 h.2, (Fl.cmp_num (by rw [h.1, h.2]; rfl)).1]
    rcases Int.lt_trichotomy (Fl.Z a) (Fl.Z b) with g | g | g
    · rw [Fl.sgn_lt g, decide_eq_false (by omega)]; rfl
    · rw [Fl.sgn_eq g, decide_eq_true g]; rfl
    · rw [Fl.sgn_gt g, decide_eq_false (by omega)]; rfl
  · unfold Fl.same; rw [Bool.eq_iff_iff]; simp only [beq_iff_eq]; exact eq_comm
  · intro h
    rw [Bool.and_eq_true] at h
    exact Fl.same_nan h.1 h.2
  · intro h
    exact Fl.same_not (by simpa using h)

set_option maxRecDepth 100000 in
set_option maxHeartbeats 8000000 in
theorem bits_walk (a b : Nat) (A : Option Addr) (len cap : Nat) (ha : a < 2 ^ 64) (hb : b < 2 ^ 64) (w : World) (hd : Draws w.heap.size w A len) :
    Calls Try.prog 7 #[.float .f64 a, .float .f64 b, .slice A len cap] w fun e w' => e = .returned (.bool true) ∧ Below w.heap.size w w' := by
  have hF0 := Lib.hid (feed_new (cap := cap) hd 38)
  have HAB := Lib.hid (And.intro ha hb)
  clear hd ha hb
  go_enter Try.func7, Try.ntmps7
  go_upto_region 2 with fail
  go_wp2_with fail
  refine (next_any 2 (by omega) (by omega) _ (by omega) hF0.out).mono ?_
  rintro e w1 ⟨k, hk, rfl, hF1, hK1, hs1⟩
  have HF1 := Lib.hid hF1
  have HK1 := Lib.hid hK1
  clear hF1 hK1 hF0 hs1
  have hk2 : k = 0 ∨ k = 1 := by omega
  clear hk
  go_upto_if 18 with fail
  go_cut [0, 1] (fun s0 s1 wx => ∃ a b : Nat, a < 2 ^ 64 ∧ b < 2 ^ 64 ∧ s0 = .float .f64 a ∧ s1 = .float .f64 b ∧ Below w.heap.size w wx)
  case first =>
    rcases hk2 with rfl | rfl
    · go_wp2_with fail
      go_meet
      refine ⟨a, b, HAB.out.1, HAB.out.2, rfl, rfl, ?_⟩
      exact ((Kept.alloc (· = w.heap.size) w _).then HK1.out).below (Nat.le_refl _) (fun i hi e => by omega)
    · go_wp2_with fail
      refine (feedfloat_any _ (by omega) HF1.out).mono ?_
      rintro e w2 ⟨x, hx, rfl, hF2, hK2⟩
      have HF2 := Lib.hid hF2
      have HK2 := Lib.hid hK2
      clear hF2 hK2
      go_wp2_with fail
      refine (feedfloat_any _ (by omega) HF2.out).mono ?_
      rintro e w3 ⟨y, hy, rfl, hF3, hK3⟩
      have HK3 := Lib.hid hK3
      have HXY := Lib.hid (And.intro hx hy)
      clear hF3 hK3 hx hy
      go_wp2_with fail
      go_meet
      refine ⟨x, y, HXY.out.1, HXY.out.2, rfl, rfl, ?_⟩
      exact ((((Kept.alloc (· = w.heap.size) w _).then HK1.out).then HK2.out).then HK3.out).below (Nat.le_refl _) (fun i hi e => by omega)
  case rest =>
    obtain ⟨x, y, hx, hy, rfl, rfl, hB⟩ := hcut
    have HB := Lib.hid hB
    clear hB HAB
    obtain ⟨z, s, t⟩ := twos hx hy
    clear hx hy
    obtain ⟨oa, oa', ob', ox, tb, bb, xa, x0, xz, zn, kk, cc, s1, s2, s3, ss, sn⟩ := t
    generalize Fl.nan x = na at oa oa' ox xa zn kk cc ss sn
    generalize Fl.nan y = nb at ob' kk cc ss sn
    cases z
    case' true =>
      have e0 := xz rfl
      rw [e0] at ox tb bb xa x0
      have hna := zn rfl
      subst hna
    all_goals
      clear xz zn
      try cases na
      all_goals cases nb
      all_goals first | (have hs := ss rfl; subst hs) | (have hs := sn rfl; subst hs) | cases s
    all_goals
      try have xa := xa rfl
      try have cc := cc rfl
      clear ss sn
      simp only [Bool.not_true, Bool.not_false, Bool.and_true, Bool.and_false] at oa ox kk
      go_wp2_with (first | (go_at_call 12; refine (cmp_any _ _ _).mono ?_; rintro e w' ⟨rfl, rfl⟩) | (go_at_call 15; refine (bits_any _ _).mono ?_; rintro e w' ⟨rfl, rfl⟩) | (go_at_call 13; refine (of_any _ _).mono ?_; rintro e w' ⟨rfl, rfl⟩) | (go_at_call 14; refine (same_any _ _ _).mono ?_; rintro e w' ⟨rfl, rfl⟩) | (go_at_call 27; refine (signbit_zero _).mono ?_; rintro e w' ⟨rfl, rfl⟩) | (go_at_call 22; refine (known_any _).mono ?_; rintro e w' ⟨rfl, rfl⟩))
      go_ret
      exact ⟨rfl, HB.out⟩

theorem bits_below (w : World) (a : Nat) (wa : (Lit.float .f64 a).wf = true) (b : Nat) (wb : (Lit.float .f64 b).wf = true) (A : Option Addr) (len cap : Nat) (zs : List Int) (hr : IsRow .i64 w A len cap zs) :
    Calls Try.prog 7 #[.float .f64 a, .float .f64 b, .slice A len cap] w fun e w' => e = .returned (.bool true) ∧ Below w.heap.size w w' :=
  bits_walk a b A len cap (by simpa [Lit.wf] using wa) (by simpa [Lit.wf] using wb) w hr.draws

end Go.Proofs.Ytkmehllidbicoaa
