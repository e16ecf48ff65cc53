
/- The document's answers on bytes: Nat, eight, Int, Float, Text. -/
import Derived.Test.YtkapdefghigdoaaBytes
import Derived.Handy
namespace Go.Proofs.Ytkapdefghigdoaa
open Go.RowKit

theorem one_more (w : World) (A : Obj) : Below w.heap.size w (w.alloc A) := (Below.refl _ _).alloc (Nat.le_refl _) _

set_option maxRecDepth 100000 in
set_option maxHeartbeats 2000000 in
theorem rnat_any {A : Option Addr} {n c : Nat} {l : List Nat} {w : World} (m : Int) (hr : Rd w A n c l) (hn : n ≤ 100000) :
    Calls Try.prog 25 #[.slice A n c, .int .i64 m] w fun e w' => ∃ v, e = .returned v ∧ Laid w w' v (l ++ natw m) := by
  have HR := Lib.hid hr
  have hl := hr.1
  clear hr
  by_cases h1 : m < 0
  · have hw : natw m = [] := by unfold natw; rw [if_neg (by omega)]
    rw [hw]
    clear hw
    go_enter Try.func25, Try.ntmps25
    go_wp2_with (first | (at_builtin; refine wpList_lay rfl _ _ rfl _ [] rfl (laid_empty w) A n c l rfl (HR.out.later (one_more w _)) (by simp; omega) ?_; intro v1 w1 hl1; have HL := Lib.hid hl1; clear hl1))
    go_ret
    exact ⟨v1, rfl, by simpa using HL.out⟩
  · by_cases h2 : 4611686018427387904 < m
    · have hw : natw m = [] := by unfold natw; rw [if_neg (by omega)]
      rw [hw]
      clear hw
      go_enter Try.func25, Try.ntmps25
      go_wp2_with (first | (at_builtin; refine wpList_lay rfl _ _ rfl _ [] rfl (laid_empty w) A n c l rfl (HR.out.later (one_more w _)) (by simp; omega) ?_; intro v1 w1 hl1; have HL := Lib.hid hl1; clear hl1))
      go_ret
      exact ⟨v1, rfl, by simpa using HL.out⟩
    · have hw : natw m = natb m.toNat := by unfold natw; rw [if_pos (by omega)]
      obtain ⟨q, rfl⟩ : ∃ q : Nat, m = (q : Int) := ⟨m.toNat, by omega⟩
      rw [hw, Int.toNat_natCast]
      have hlen : (natb q).length ≤ 9 := natb_len 8 q (by have : (128 : Nat) ^ 9 = 9223372036854775808 := by decide
                                                          omega)
      have HLen := Lib.hid hlen
      clear hw hlen
      go_enter Try.func25, Try.ntmps25
      go_wp2_with (first | (at_builtin; refine wpList_lay rfl _ _ rfl _ [] rfl (laid_empty w) A n c l rfl (HR.out.later (one_more w _)) (by simp; omega) ?_; intro v1 w1 hl1; have HL := Lib.hid hl1; clear hl1))
      go_loopw [1, 5] (fun nn out wr => ∃ (k : Nat) (done : List Nat), nn = .int .i64 (k : Int) ∧ k ≤ 4611686018427387904 ∧ done ++ natb k = natb q ∧ Laid w wr out (l ++ done)) (fun nn _ _ => (intOf nn).toNat)
      case atStart => exact ⟨q, [], rfl, by omega, rfl, by simpa using HL.out⟩
      case round =>
        obtain ⟨k, done, rfl, hk, hd, hL⟩ := hrel
        have HL2 := Lib.hid hL
        have hdl : done.length + (natb k).length ≤ 9 := by
          have := HLen.out
          rw [← hd, List.length_append] at this
          exact this
        clear hL HL
        by_cases hlt : k < 128
        · have HD : Hid (natb q = done ++ [k]) := by rw [← hd, natb_small hlt]; rfl
          clear hd
          have u1 : IntKind.u8.wrap (k : Int) = (k : Int) := IntWalk.u8_in _ (by omega)
          go_wp2_with (first | (at_builtin; refine wpList_lay1 rfl _ _ rfl _ _ rfl HL2.out _ k rfl rfl (by rw [List.length_append]; omega) ?_; intro v2 w2 hl2; have HL3 := Lib.hid hl2; clear hl2))
          go_ret
          exact ⟨v2, rfl, by rw [HD.out, ← List.append_assoc]; exact HL3.out⟩
        · have HD : Hid ((done ++ [k % 128 + 128]) ++ natb (k / 128) = natb q) := by
            have e := natb_big (n := k) (by omega)
            have : (done ++ [k % 128 + 128]) ++ natb (k / 128) = natb q := by rw [← hd, e]; simp
            exact this
          clear hd
          have e1 : ((k : Int)).tmod 128 = ((k % 128 : Nat) : Int) := by rw [Int.tmod_eq_emod_of_nonneg (by omega)]; rfl
          have e2 : ((k : Int)).tdiv 128 = ((k / 128 : Nat) : Int) := by rw [Int.tdiv_eq_ediv_of_nonneg (by omega)]; rfl
          have hm := Nat.mod_lt k (show 0 < 128 by omega)
          have hq : k / 128 < k := Nat.div_lt_self (by omega) (by omega)
          generalize k % 128 = r at e1 hm HD
          generalize k / 128 = q2 at e2 hq HD
          have u1 : IntKind.u8.wrap (r : Int) = (r : Int) := IntWalk.u8_in _ (by omega)
          have u2 : IntKind.u8.wrap ((r : Int) + 128) = (r : Int) + 128 := IntWalk.u8_in _ (by omega)
          go_wp2_with (first | (at_builtin; refine wpList_lay1 rfl _ _ rfl _ _ rfl HL2.out _ (r + 128) (by omega) rfl (by rw [List.length_append]; omega) ?_; intro v2 w2 hl2; have HL3 := Lib.hid hl2; clear hl2))
          exact ⟨⟨q2, done ++ [r + 128], rfl, by omega, HD.out, by rw [← List.append_assoc]; exact HL3.out⟩, by simp [intOf]; omega⟩

set_option maxRecDepth 100000 in
set_option maxHeartbeats 2000000 in
theorem reight_any {A : Option Addr} {n c : Nat} {l : List Nat} {w : World} (m : Nat) (_ : m < 18446744073709551616) (hr : Rd w A n c l) (hn : n ≤ 100000) :
    Calls Try.prog 57 #[.slice A n c, .int .u64 (m : Int)] w fun e w' => ∃ v, e = .returned v ∧ Laid w w' v (l ++ eightb m) := by
  have HR := Lib.hid hr
  have hl := hr.1
  clear hr
  go_enter Try.func57, Try.ntmps57
  go_wp2_with (first | (at_builtin; refine wpList_lay rfl _ _ rfl _ [] rfl (laid_empty w) A n c l rfl (HR.out.later (one_more w _)) (by simp; omega) ?_; intro v1 w1 hl1; have HL := Lib.hid hl1; clear hl1))
  go_loopw [5, 6] (fun out i wr => ∃ k : Nat, k ≤ 8 ∧ i = .int .i64 (k : Int) ∧ Laid w wr out (l ++ (eightb m).take k)) (fun _ i _ => 8 - (intOf i).toNat)
  case atStart => exact ⟨0, by omega, rfl, by simpa using HL.out⟩
  case round =>
    obtain ⟨k, hk, rfl, hL⟩ := hrel
    have HL2 := Lib.hid hL
    clear hL HL
    by_cases hlt : k < 8
    · have HE : Hid ((eightb m).take (k + 1) = (eightb m).take k ++ [m / 2 ^ (56 - 8 * k) % 256]) := eight_step m hlt
      go_wp2_with (first | (at_builtin; refine wpList_lay1 rfl _ _ rfl _ _ rfl HL2.out _ (m / 2 ^ (56 - 8 * k) % 256) (by push_cast; rfl) rfl (by rw [List.length_append, List.length_take]; omega) ?_; intro v2 w2 hl2; have HL3 := Lib.hid hl2; clear hl2))
      exact ⟨⟨k + 1, by omega, rfl, by rw [HE.out, ← List.append_assoc]; exact HL3.out⟩, by simp [intOf]; omega⟩
    · have e8 : k = 8 := by omega
      subst e8
      have HE : Hid ((eightb m).take 8 = eightb m) := rfl
      go_wp2_with fail
      go_ret
      exact ⟨_, rfl, by rw [← HE.out]; exact HL2.out⟩
/-- A whole number's word. -/
def wordOf (n : Int) : Nat := (n % 18446744073709551616).toNat
theorem word_wrap (n : Int) : IntKind.u64.wrap n = ((wordOf n : Nat) : Int) ∧ wordOf n < 18446744073709551616 := by
  have h1 := Int.emod_nonneg n (show (18446744073709551616 : Int) ≠ 0 by omega)
  have h2 := Int.emod_lt_of_pos n (show (0 : Int) < 18446744073709551616 by omega)
  unfold wordOf
  refine ⟨?_, by omega⟩
  rw [IntKind.wrap_u64, Int.toNat_of_nonneg h1]

set_option maxRecDepth 100000 in
theorem rint_any {A : Option Addr} {n c : Nat} {l : List Nat} {w : World} (m : Int) (hr : Rd w A n c l) (hn : n ≤ 100000) :
    Calls Try.prog 27 #[.slice A n c, .int .i64 m] w fun e w' => ∃ v, e = .returned v ∧ Laid w w' v (l ++ eightb (wordOf m)) := by
  obtain ⟨hw, hw2⟩ := word_wrap m
  have HC := Lib.hid (reight_any (wordOf m) hw2 hr hn)
  generalize wordOf m = z at hw HC ⊢
  clear hw2 hr
  go_enter Try.func27, Try.ntmps27
  go_wp2_with fail
  refine HC.out.mono ?_
  rintro e w1 ⟨v, rfl, hl⟩
  have HL := Lib.hid hl
  clear hl HC
  go_wp2_with fail
  go_ret
  exact ⟨v, rfl, HL.out⟩

theorem bits_lt {x : Nat} (h : x < 2 ^ 64) : Fl.bits x < 18446744073709551616 := by
  unfold Fl.bits
  split
  · omega
  · split <;> omega

set_option maxRecDepth 100000 in
theorem rfloat_any {A : Option Addr} {n c : Nat} {l : List Nat} {w : World} (x : Nat) (hx : x < 2 ^ 64) (hr : Rd w A n c l) (hn : n ≤ 100000) :
    Calls Try.prog 29 #[.slice A n c, .float .f64 x] w fun e w' => ∃ v, e = .returned v ∧ Laid w w' v (l ++ eightb (Fl.bits x)) := by
  have HC := Lib.hid (reight_any (Fl.bits x) (bits_lt hx) hr hn)
  have HB := Lib.hid (rbits_any x)
  generalize Fl.bits x = z at HB HC ⊢
  clear hr
  go_enter Try.func29, Try.ntmps29
  go_wp2_with fail
  refine (HB.out _).mono ?_
  rintro e w1 ⟨rfl, rfl⟩
  go_wp2_with fail
  refine HC.out.mono ?_
  rintro e w1 ⟨v, rfl, hl⟩
  have HL := Lib.hid hl
  clear hl HC HB
  go_wp2_with fail
  go_ret
  exact ⟨v, rfl, HL.out⟩

/-- A text's bytes. -/
def bytesOf (s : ByteArray) : List Nat := s.data.toList.map (·.toNat)
theorem bytesOf_len (s : ByteArray) : (bytesOf s).length = s.size := by simp [bytesOf]
theorem bytesOf_cells (s : ByteArray) : (bytesOf s).map bcell = Lib.strCells s := by simp [bytesOf, Lib.strCells, List.map_map]

/-- 'append(buf, s...)'. -/
theorem wpList_lays {w W0 : World} {ops : Array Oper} {rest : List Oper} {o : Oper} {a : Act} {Q : Exit → Act → World → Prop} (hgd : o.guard = none) (s x : Operand)
    (ho : o.op = .call { callee := .builtin .append, args := #[s, x], argTypes := #[24, 9] })
    (v : Value) (l : List Nat) (hs : a.eval s = v) (hb : Laid W0 w v l) (t : ByteArray) (hx : a.eval x = .string t) (hlen : l.length + t.size ≤ 100000000)
    (h : ∀ v' w', Laid W0 w' v' (l ++ bytesOf t) → wpList Try.prog ops Q rest (a.put o.dst v') w') : wpList Try.prog ops Q (o :: rest) a w := by
  obtain ⟨i, hi, hz', h1, h2⟩ := byte_info
  refine Lib.wpList_append_text hgd s x 24 9 ho W0.heap.size 5 i Try.underlying24 Try.underlying9 hi hz' h1 h2 v l.length (l.map bcell) hs W0 hb t hx (by omega) ?_
  intro v' w' hb'
  refine h v' w' ?_
  unfold Laid
  rw [List.length_append, List.map_append, bytesOf_len, bytesOf_cells]
  exact hb'

set_option maxRecDepth 100000 in
theorem rtext_any {A : Option Addr} {n c : Nat} {l : List Nat} {w : World} (s : ByteArray) (hs : s.size ≤ 1000000) (hr : Rd w A n c l) (hn : n ≤ 100000) :
    Calls Try.prog 31 #[.slice A n c, .string s] w fun e w' => ∃ v, e = .returned v ∧ Laid w w' v (l ++ natb s.size ++ bytesOf s) := by
  have hl := hr.1
  have hw : natw (s.size : Int) = natb s.size := by unfold natw; rw [if_pos (by omega)]; rfl
  have HC := Lib.hid (rnat_any (s.size : Int) hr hn)
  rw [hw] at HC
  have hlen : (natb s.size).length ≤ 9 := natb_len 8 _ (by have : (128 : Nat) ^ 9 = 9223372036854775808 := by decide
                                                           omega)
  clear hw hr
  go_enter Try.func31, Try.ntmps31
  go_wp2_with fail
  refine HC.out.mono ?_
  rintro e w1 ⟨v, rfl, hl1⟩
  have HL := Lib.hid hl1
  clear hl1 HC
  go_wp2_with (first | (at_builtin; refine wpList_lays rfl _ _ rfl _ _ rfl HL.out s rfl (by rw [List.length_append]; omega) ?_; intro v2 w2 hl2; have HL3 := Lib.hid hl2; clear hl2))
  go_ret
  exact ⟨v2, rfl, HL3.out⟩
end Go.Proofs.Ytkapdefghigdoaa
