/- FloatOrder: the walk. -/
import Derived.Test.YtkmehllidbicoaaKnown
namespace Go.Proofs.Ytkmehllidbicoaa
open Go.RowKit

namespace Fl
theorem sgn_turn (a b : Int) : sgn b a = -sgn a b := by unfold sgn; split <;> split <;> (try split) <;> omega
theorem sgn_range (a b : Int) : -1 ≤ sgn a b ∧ sgn a b ≤ 1 := by unfold sgn; split <;> (try split) <;> omega
theorem sgn_mono {n a b : Int} (h : a ≤ b) : sgn n b ≤ sgn n a := by unfold sgn; split <;> split <;> (try split) <;> (try split) <;> omega
end Fl

/-- What the walk is told of three floats. -/
structure Told (a b c : Nat) (n p : Int) (x y z : Bool) : Prop where
  na : Fl.nan a = x
  nb : Fl.nan b = y
  kab : Fl.cmpOk a b = (!x && !y)
  kba : Fl.cmpOk b a = (!x && !y)
  kbc : Fl.cmpOk b c = (!y && !z)
  kac : Fl.cmpOk a c = (!x && !z)
  oa : (FloatKind.f64.format.order a a == some .eq) = !x
  ob : (FloatKind.f64.format.order b b == some .eq) = !y
  oc : (FloatKind.f64.format.order c c == some .eq) = !z
  pab : Fl.cmp a b = p
  pba : Fl.cmp b a = -p

theorem told {a b c : Nat} {n p : Int} {x y z : Bool} (na : Fl.nan a = x) (nb : Fl.nan b = y) (nc : Fl.nan c = z) (h : Fl.cmp a b = p) : Told a b c n p x y z := by
  subst na; subst nb; subst nc; subst h
  refine ⟨rfl, rfl, rfl, ?_, rfl, rfl, Fl.ord_self' a, Fl.ord_self' b, Fl.ord_self' c, rfl, ?_⟩
  · simp only [Fl.cmpOk]; exact Bool.and_comm _ _
  · unfold Fl.cmp
    rw [Bool.or_comm (Fl.nan b)]
    split
    · rfl
    · exact Fl.sgn_turn _ _

/-- The ways of three floats and a whole number. -/
inductive Three (a b c : Nat) (n : Int) : Prop where
  | nana (y z : Bool) (t : Told a b c n 0 true y z)
  | nanb (z : Bool) (t : Told a b c n 0 false true z)
  | nanc (t : Told a b c n (-1) false false true) (hu : Fl.cmpInt n b ≤ Fl.cmpInt n a)
  | nanc0 (t : Told a b c n 0 false false true) (hu : Fl.cmpInt n a = Fl.cmpInt n b)
  | gt (z : Bool) (t : Told a b c n 1 false false z)
  | bgt (t : Told a b c n (-1) false false false) (hr : Fl.cmp b c = 1) (hu : Fl.cmpInt n b ≤ Fl.cmpInt n a)
  | bgt0 (t : Told a b c n 0 false false false) (hr : Fl.cmp b c = 1) (hu : Fl.cmpInt n a = Fl.cmpInt n b)
  | all (t : Told a b c n (-1) false false false) (hr : Fl.cmp b c = -1 ∨ Fl.cmp b c = 0) (hs : Fl.cmp a c = -1) (hu : Fl.cmpInt n b ≤ Fl.cmpInt n a)
  | all0 (t : Told a b c n 0 false false false) (hr : (Fl.cmp b c = -1 ∧ Fl.cmp a c = -1) ∨ (Fl.cmp b c = 0 ∧ Fl.cmp a c = 0)) (hu : Fl.cmpInt n a = Fl.cmpInt n b)

theorem three (a b c : Nat) (n : Int) : Three a b c n := by
  cases na : Fl.nan a
  · cases nb : Fl.nan b
    · have hab := (Fl.cmp_num (a := a) (b := b) (by rw [na, nb]; rfl)).1
      have hua := Fl.cmpInt_num (n := n) na
      have hub := Fl.cmpInt_num (n := n) nb
      rcases Int.lt_trichotomy (Fl.Z a) (Fl.Z b) with h | h | h
      · rw [Fl.sgn_lt h] at hab
        have hu : Fl.cmpInt n b ≤ Fl.cmpInt n a := by rw [hua, hub]; exact Fl.sgn_mono (Int.le_of_lt h)
        cases nc : Fl.nan c
        · have hbc := (Fl.cmp_num (a := b) (b := c) (by rw [nc, nb]; rfl)).1
          have hac := (Fl.cmp_num (a := a) (b := c) (by rw [nc, na]; rfl)).1
          rcases Int.lt_trichotomy (Fl.Z b) (Fl.Z c) with g | g | g
          · exact .all (told na nb nc hab) (.inl (hbc.trans (Fl.sgn_lt g))) (hac.trans (Fl.sgn_lt (by omega))) hu
          · exact .all (told na nb nc hab) (.inr (hbc.trans (Fl.sgn_eq g))) (hac.trans (Fl.sgn_lt (by omega))) hu
          · exact .bgt (told na nb nc hab) (hbc.trans (Fl.sgn_gt g)) hu
        · exact .nanc (told na nb nc hab) hu
      · rw [Fl.sgn_eq h] at hab
        have hu : Fl.cmpInt n a = Fl.cmpInt n b := by rw [hua, hub, h]
        cases nc : Fl.nan c
        · have hbc := (Fl.cmp_num (a := b) (b := c) (by rw [nc, nb]; rfl)).1
          have hac := (Fl.cmp_num (a := a) (b := c) (by rw [nc, na]; rfl)).1
          rcases Int.lt_trichotomy (Fl.Z b) (Fl.Z c) with g | g | g
          · exact .all0 (told na nb nc hab) (.inl ⟨hbc.trans (Fl.sgn_lt g), hac.trans (Fl.sgn_lt (by omega))⟩) hu
          · exact .all0 (told na nb nc hab) (.inr ⟨hbc.trans (Fl.sgn_eq g), hac.trans (Fl.sgn_eq (by omega))⟩) hu
          · exact .bgt0 (told na nb nc hab) (hbc.trans (Fl.sgn_gt g)) hu
        · exact .nanc0 (told na nb nc hab) hu
      · rw [Fl.sgn_gt h] at hab
        exact .gt _ (told na nb rfl hab)
    · exact .nanb _ (told na nb rfl (Fl.cmp_nan (by rw [na, nb]; rfl)).1)
  · exact .nana _ _ (told na rfl rfl (Fl.cmp_nan (by rw [na]; rfl)).1)

set_option maxRecDepth 100000 in
set_option maxHeartbeats 8000000 in
theorem order_walk (A : Option Addr) (len cap : Nat) (n : Int) (h1 : -9223372036854775808 ≤ n) (h2 : n ≤ 9223372036854775807) (w : World) (hd : Draws w.heap.size w A len) :
    Calls Try.prog 6 #[.slice A len cap, .int .i64 n] w fun e w' => e = .returned (.bool true) ∧ Below w.heap.size w w' := by
  have hF0 := Lib.hid (feed_new (cap := cap) hd 38)
  clear hd
  go_enter Try.func6, Try.ntmps6
  go_wp2_with fail
  refine (feedfloat_any _ (by omega) hF0.out).mono ?_
  rintro e w1 ⟨a, ha, rfl, hF1, hK1⟩
  have HF1 := Lib.hid hF1
  have HK1 := Lib.hid hK1
  clear hF1 hK1 hF0
  go_wp2_with fail
  refine (feedfloat_any _ (by omega) HF1.out).mono ?_
  rintro e w2 ⟨b, hb, rfl, hF2, hK2⟩
  have HF2 := Lib.hid hF2
  have HK2 := Lib.hid hK2
  clear hF2 hK2 HF1
  go_wp2_with fail
  refine (feedfloat_any _ (by omega) HF2.out).mono ?_
  rintro e w3 ⟨c, hc, rfl, hF3, hK3⟩
  have HB : Hid (Below w.heap.size w w3) := by
    have k := (((Kept.alloc (· = w.heap.size) w _).then HK1.out).then HK2.out).then hK3
    exact k.below (Nat.le_refl _) (fun i hi e => by omega)
  clear hF3 hK3 HF2 HK1 HK2 ha hb hc
  have T := three a b c n
  rcases T with ⟨y, z, t⟩ | ⟨z, t⟩ | ⟨t, hu⟩ | ⟨t, hu⟩ | ⟨z, t⟩ | ⟨t, hr, hu⟩ | ⟨t, hr, hu⟩ | ⟨t, hr, hs, hu⟩ | ⟨t, hr, hu⟩
  case' nana => (cases y <;> cases z)
  case' nanb => cases z
  case' gt => cases z
  case' all => rcases hr with hr | hr
  case' all0 => rcases hr with ⟨hr, hs⟩ | ⟨hr, hs⟩
  all_goals
    obtain ⟨na, nb, kab, kba, kbc, kac, oa, ob, oc, pab, pba⟩ := t
    simp only [Bool.not_true, Bool.not_false, Bool.and_true, Bool.and_false] at kab kba kbc kac oa ob oc pba
    go_wp2_with (first | (go_at_call 12; refine (cmp_any _ _ _).mono ?_; rintro e w' ⟨rfl, rfl⟩) | (go_at_call 11; refine (cmpint_any _ _ h1 h2 _).mono ?_; rintro e w' ⟨rfl, rfl⟩) | (go_at_call 22; refine (known_any _).mono ?_; rintro e w' ⟨rfl, rfl⟩))
    go_ret
    exact ⟨rfl, HB.out⟩

theorem order_below (w : World) (A : Option Addr) (len cap : Nat) (zs : List Int) (hr : IsRow .i64 w A len cap zs) (n : Int) (wn : (Lit.int .i64 n).wf = true) :
    Calls Try.prog 6 #[.slice A len cap, .int .i64 n] w fun e w' => e = .returned (.bool true) ∧ Below w.heap.size w w' := by
  have hn : -9223372036854775808 ≤ n ∧ n ≤ 9223372036854775807 := by
    simp only [Lit.wf, decide_eq_true_eq, Bool.and_eq_true] at wn
    exact wn
  exact order_walk A len cap n hn.1 hn.2 w hr.draws

end Go.Proofs.Ytkmehllidbicoaa
