
/- The landed pack's Nat, Int, Float, Text: the contracts; in the words of the document's answers. -/
import Derived.Test.YtgenmebmdpnjhaaRefPack
import Derived.Laws.MakeOwn
import Derived.Laws.Bits128
namespace Go.Proofs.Ytgenmebmdpnjhaa
open Go.RowKit

/-- 'make([]byte, 0, c)': an own row, empty. -/
theorem make_laid (w : World) (c : Nat) (z : Int) (hz0 : z = (c : Int)) (hc : c ≤ 281474976710656) : ∃ w', (Instr.makeSlice 37 (.int .i64 0) (.int .i64 z)).run Try.prog w = .ok (.slice (some ⟨w.heap.size, 0, none⟩) 0 c) w' ∧ Laid w w' (.slice (some ⟨w.heap.size, 0, none⟩) 0 c) [] ∧ Below w.heap.size w w' := by
  subst hz0
  obtain ⟨i, hi, hz, h1, h2⟩ := byte_info
  obtain ⟨w', hr, ho, hg⟩ := run_make_own (P := Try.prog) w w.heap.size 37 5 i (.int .u8 0) 1 Try.underlying37 hi hz h1 .i64 .i64 c (by rw [h2]; omega) (by unfold maxLen; omega) (Nat.le_refl _)
  have hb : Below w.heap.size w w' := (Below.refl _ _).grown hg (Nat.le_refl _) (fun k hk => by cases hk)
  exact ⟨w', hr, ⟨World.ownsRowF_of ho, hb, hb.size⟩, hb⟩

set_option maxRecDepth 100000 in
set_option maxHeartbeats 2000000 in
theorem pfresh_any {A : Option Addr} {n c : Nat} {l : List Nat} {w : World} (room : Nat) (hr : Rd w A n c l) (hn : n ≤ 100000) (hroom : room ≤ 100000000) :
    Calls Try.prog 58 #[.slice A n c, .int .i64 (room : Int)] w fun e w' => ∃ v, e = .returned v ∧ Laid w w' v l := by
  obtain ⟨w1, hmk, hl1, hb1⟩ := make_laid w (n + room) ((n : Int) + (room : Int)) (by omega) (by omega)
  have HR := Lib.hid (hr.later hb1)
  have HL := Lib.hid hl1
  have hl := hr.1
  clear hr hl1 hb1
  go_enter Try.func58, Try.ntmps58
  go_wp2_with (first | (at_builtin; refine wpList_lay rfl _ _ rfl _ [] rfl HL.out A n c l rfl HR.out (by simp; omega) ?_; intro v1 w1 hl1; have HL1 := Lib.hid hl1; clear hl1))
  go_ret
  exact ⟨v1, rfl, by simpa using HL1.out⟩

set_option maxRecDepth 100000 in
set_option maxHeartbeats 2000000 in
theorem paddnat_any {v : Value} {W0 w : World} {l : List Nat} (q : Nat) (hq : q ≤ 4611686018427387904) (hL : Laid W0 w v l) (hn : l.length ≤ 200000) :
    Calls Try.prog 59 #[v, .int .i64 (q : Int)] w fun e w' => ∃ v', e = .returned v' ∧ Laid W0 w' v' (l ++ natb q) := by
  have hlen : (natb q).length ≤ 9 := natb_len 8 q (by have : (128 : Nat) ^ 9 = 9223372036854775808 := by decide
                                                      omega)
  have HLen := Lib.hid hlen
  have HL := Lib.hid hL
  clear hlen hL
  go_enter Try.func59, Try.ntmps59
  go_wp2_with fail
  go_loopw [0, 1] (fun out nn wr => ∃ (k : Nat) (done : List Nat), nn = .int .i64 (k : Int) ∧ k ≤ 4611686018427387904 ∧ done ++ natb k = natb q ∧ Laid W0 wr out (l ++ done)) (fun _ nn _ => (intOf nn).toNat)
  case atStart => exact ⟨q, [], rfl, by omega, rfl, by simpa using HL.out⟩
  case round =>
    obtain ⟨k, done, rfl, hk, hd, hL⟩ := hrel
    have HL2 := Lib.hid hL
    have hdl : done.length + (natb k).length ≤ 9 := by
      have := HLen.out
      rw [← hd, List.length_append] at this
      exact this
    clear hL HL
    by_cases hlt : k < 128
    · have HD : Hid (natb q = done ++ [k]) := by rw [← hd, natb_small hlt]; rfl
      clear hd
      have u1 : IntKind.u8.wrap (k : Int) = (k : Int) := IntWalk.u8_in _ (by omega)
      go_wp2_with (first | (at_builtin; refine wpList_lay1 rfl _ _ rfl _ _ rfl HL2.out _ k rfl rfl (by rw [List.length_append]; omega) ?_; intro v2 w2 hl2; have HL3 := Lib.hid hl2; clear hl2))
      go_ret
      exact ⟨v2, rfl, by rw [HD.out, ← List.append_assoc]; exact HL3.out⟩
    · have HD : Hid ((done ++ [k % 128 + 128]) ++ natb (k / 128) = natb q) := by
        have e := natb_big (n := k) (by omega)
        have : (done ++ [k % 128 + 128]) ++ natb (k / 128) = natb q := by rw [← hd, e]; simp
        exact this
      clear hd
      have e1 : ((k : Int)).tmod 128 = ((k % 128 : Nat) : Int) := by rw [Int.tmod_eq_emod_of_nonneg (by omega)]; rfl
      have e2 : ((k : Int)).tdiv 128 = ((k / 128 : Nat) : Int) := by rw [Int.tdiv_eq_ediv_of_nonneg (by omega)]; rfl
      have hm := Nat.mod_lt k (show 0 < 128 by omega)
      have hq : k / 128 < k := Nat.div_lt_self (by omega) (by omega)
      generalize k % 128 = r at e1 hm HD
      generalize k / 128 = q2 at e2 hq HD
      have u1 : IntKind.u8.wrap (r : Int) = (r : Int) := IntWalk.u8_in _ (by omega)
      have u2 : bits BinOp.or IntKind.u8 (r : Int) 128 = (r : Int) + 128 := u8_or128_right _ (by omega) (by omega)
      go_wp2_with (first | (at_builtin; refine wpList_lay1 rfl _ _ rfl _ _ rfl HL2.out _ (r + 128) (by omega) rfl (by rw [List.length_append]; omega) ?_; intro v2 w2 hl2; have HL3 := Lib.hid hl2; clear hl2))
      exact ⟨⟨q2, done ++ [r + 128], rfl, by omega, HD.out, by rw [← List.append_assoc]; exact HL3.out⟩, by simp [intOf]; omega⟩

set_option maxRecDepth 100000 in
set_option maxHeartbeats 2000000 in
theorem paddeight_any {v : Value} {W0 w : World} {l : List Nat} (m : Nat) (_ : m < 18446744073709551616) (hL : Laid W0 w v l) (hn : l.length ≤ 200000) :
    Calls Try.prog 76 #[v, .int .u64 (m : Int)] w fun e w' => ∃ v', e = .returned v' ∧ Laid W0 w' v' (l ++ eightb m) := by
  have HL := Lib.hid hL
  clear hL
  go_enter Try.func76, Try.ntmps76
  go_wp2_with fail
  go_loopw [0, 6] (fun out i wr => ∃ k : Nat, k ≤ 8 ∧ i = .int .i64 (k : Int) ∧ Laid W0 wr out (l ++ (eightb m).take k)) (fun _ i _ => 8 - (intOf i).toNat)
  case atStart => exact ⟨0, by omega, rfl, by simpa using HL.out⟩
  case round =>
    obtain ⟨k, hk, rfl, hL⟩ := hrel
    have HL2 := Lib.hid hL
    clear hL HL
    by_cases hlt : k < 8
    · have HE : Hid ((eightb m).take (k + 1) = (eightb m).take k ++ [m / 2 ^ (56 - 8 * k) % 256]) := eight_step m hlt
      have hs1 : IntKind.i64.wrap (7 - (k : Int)) = 7 - (k : Int) := IntWalk.i64_in _ (by omega)
      have hs2 : IntKind.i64.wrap (8 * (7 - (k : Int))) = ((56 - 8 * k : Nat) : Int) := by rw [IntWalk.i64_in _ (by omega)]; omega
      go_wp2_with (first | (at_builtin; refine wpList_lay1 rfl _ _ rfl _ _ rfl HL2.out _ (m / 2 ^ (56 - 8 * k) % 256) (by push_cast; rfl) rfl (by rw [List.length_append, List.length_take]; omega) ?_; intro v2 w2 hl2; have HL3 := Lib.hid hl2; clear hl2))
      exact ⟨⟨k + 1, by omega, rfl, by rw [HE.out, ← List.append_assoc]; exact HL3.out⟩, by simp [intOf]; omega⟩
    · have e8 : k = 8 := by omega
      subst e8
      have HE : Hid ((eightb m).take 8 = eightb m) := rfl
      go_wp2_with fail
      go_ret
      exact ⟨_, rfl, by rw [← HE.out]; exact HL2.out⟩

set_option maxRecDepth 100000 in
set_option maxHeartbeats 2000000 in
theorem pnat_any {A : Option Addr} {n c : Nat} {l : List Nat} {w : World} (m : Int) (hr : Rd w A n c l) (hn : n ≤ 100000) :
    Calls Try.prog 36 #[.slice A n c, .int .i64 m] w fun e w' => ∃ v, e = .returned v ∧ Laid w w' v (l ++ natw m) := by
  have hl := hr.1
  have HC := Lib.hid (pfresh_any 9 hr hn (by omega))
  clear hr
  by_cases h1 : m < 0
  · have HW : Hid (natw m = []) := by unfold natw; rw [if_neg (by omega)]; exact rfl
    go_enter Try.func36, Try.ntmps36
    go_wp2_with fail
    refine HC.out.mono ?_
    rintro e w1 ⟨v1, rfl, hl1⟩
    have HL := Lib.hid hl1
    clear hl1 HC
    go_wp2_with fail
    go_ret
    exact ⟨v1, rfl, by rw [HW.out, List.append_nil]; exact HL.out⟩
  · by_cases h2 : 4611686018427387904 < m
    · have HW : Hid (natw m = []) := by unfold natw; rw [if_neg (by omega)]; exact rfl
      go_enter Try.func36, Try.ntmps36
      go_wp2_with fail
      refine HC.out.mono ?_
      rintro e w1 ⟨v1, rfl, hl1⟩
      have HL := Lib.hid hl1
      clear hl1 HC
      go_wp2_with fail
      go_ret
      exact ⟨v1, rfl, by rw [HW.out, List.append_nil]; exact HL.out⟩
    · have HW : Hid (natw m = natb m.toNat) := by unfold natw; rw [if_pos (by omega)]; exact rfl
      obtain ⟨q, rfl⟩ : ∃ q : Nat, m = (q : Int) := ⟨m.toNat, by omega⟩
      rw [Int.toNat_natCast] at HW
      go_enter Try.func36, Try.ntmps36
      go_wp2_with fail
      refine HC.out.mono ?_
      rintro e w1 ⟨v1, rfl, hl1⟩
      have HL := Lib.hid hl1
      clear hl1 HC
      go_wp2_with fail
      refine (paddnat_any q (by omega) HL.out (by omega)).mono ?_
      rintro e w2 ⟨v2, rfl, hl2⟩
      have HL2 := Lib.hid hl2
      clear hl2 HL
      go_wp2_with fail
      go_ret
      exact ⟨v2, rfl, by rw [HW.out]; exact HL2.out⟩

set_option maxRecDepth 100000 in
theorem pint_any {A : Option Addr} {n c : Nat} {l : List Nat} {w : World} (m : Int) (hr : Rd w A n c l) (hn : n ≤ 100000) :
    Calls Try.prog 62 #[.slice A n c, .int .i64 m] w fun e w' => ∃ v, e = .returned v ∧ Laid w w' v (l ++ eightb (wordOf m)) := by
  obtain ⟨hw, hw2⟩ := word_wrap m
  have hl := hr.1
  have HC := Lib.hid (pfresh_any 8 hr hn (by omega))
  generalize wordOf m = z at hw hw2 ⊢
  clear hr
  go_enter Try.func62, Try.ntmps62
  go_wp2_with fail
  refine HC.out.mono ?_
  rintro e w1 ⟨v1, rfl, hl1⟩
  have HL := Lib.hid hl1
  clear hl1 HC
  go_wp2_with fail
  refine (paddeight_any z hw2 HL.out (by omega)).mono ?_
  rintro e w2 ⟨v2, rfl, hl2⟩
  have HL2 := Lib.hid hl2
  clear hl2 HL
  go_wp2_with fail
  go_ret
  exact ⟨v2, rfl, HL2.out⟩

set_option maxRecDepth 100000 in
theorem pfloat_any {A : Option Addr} {n c : Nat} {l : List Nat} {w : World} (x : Nat) (hx : x < 2 ^ 64) (hr : Rd w A n c l) (hn : n ≤ 100000) :
    Calls Try.prog 63 #[.slice A n c, .float .f64 x] w fun e w' => ∃ v, e = .returned v ∧ Laid w w' v (l ++ eightb (Fl.bits x)) := by
  have hl := hr.1
  have HC := Lib.hid (pfresh_any 8 hr hn (by omega))
  have HB := Lib.hid (bits_any x)
  have hb := bits_lt hx
  generalize Fl.bits x = z at HB hb ⊢
  clear hr
  go_enter Try.func63, Try.ntmps63
  go_wp2_with fail
  refine HC.out.mono ?_
  rintro e w1 ⟨v1, rfl, hl1⟩
  have HL := Lib.hid hl1
  clear hl1 HC
  go_wp2_with fail
  refine (HB.out _).mono ?_
  rintro e w2 ⟨rfl, rfl⟩
  go_wp2_with fail
  refine (paddeight_any z hb HL.out (by omega)).mono ?_
  rintro e w2 ⟨v2, rfl, hl2⟩
  have HL2 := Lib.hid hl2
  clear hl2 HL
  go_wp2_with fail
  go_ret
  exact ⟨v2, rfl, HL2.out⟩

set_option maxRecDepth 100000 in
theorem ptext_any {A : Option Addr} {n c : Nat} {l : List Nat} {w : World} (s : ByteArray) (hs : s.size ≤ 1000000) (hr : Rd w A n c l) (hn : n ≤ 100000) :
    Calls Try.prog 61 #[.slice A n c, .string s] w fun e w' => ∃ v, e = .returned v ∧ Laid w w' v (l ++ natb s.size ++ bytesOf s) := by
  have hl := hr.1
  have HC := Lib.hid (pfresh_any (9 + s.size) hr hn (by omega))
  have hlen : (natb s.size).length ≤ 9 := natb_len 8 _ (by have : (128 : Nat) ^ 9 = 9223372036854775808 := by decide
                                                           omega)
  have hw : IntKind.i64.wrap (9 + (s.size : Int)) = ((9 + s.size : Nat) : Int) := by rw [IntWalk.i64_in _ (by omega)]; omega
  clear hr
  go_enter Try.func61, Try.ntmps61
  go_wp2_with fail
  refine HC.out.mono ?_
  rintro e w1 ⟨v1, rfl, hl1⟩
  have HL := Lib.hid hl1
  clear hl1 HC
  go_wp2_with fail
  refine (paddnat_any s.size (by omega) HL.out (by omega)).mono ?_
  rintro e w2 ⟨v2, rfl, hl2⟩
  have HL2 := Lib.hid hl2
  clear hl2 HL
  go_wp2_with (first | (at_builtin; refine wpList_lays rfl _ _ rfl _ _ rfl HL2.out s rfl (by rw [List.length_append]; omega) ?_; intro v3 w3 hl3; have HL3 := Lib.hid hl3; clear hl3))
  go_ret
  exact ⟨v3, rfl, HL3.out⟩

end Go.Proofs.Ytgenmebmdpnjhaa
