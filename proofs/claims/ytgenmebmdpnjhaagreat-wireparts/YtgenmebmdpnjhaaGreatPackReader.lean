
/- The landed pack's Reader: natOf, eightOf, Left, Nat, Int, Float, Text: the contracts; in the words of the document's Reader. -/
import Derived.Test.YtgenmebmdpnjhaaGreatG11
import Derived.Test.YtgenmebmdpnjhaaGreatTrap2
import Derived.Laws.BitsAllLaws
namespace Go.Proofs.YtgenmebmdpnjhaaGreat
open Go.RowKit

/-- A Stop. -/
abbrev stopped (n : Int) : Ending := .panicked [{ v := .iface 48 (.int .i64 n), recovered := false }]

theorem i64_or_nat (a b : Nat) (ha : a < 9223372036854775808) (hb : b < 9223372036854775808) : bits BinOp.or IntKind.i64 (a : Int) (b : Int) = ((a ||| b : Nat) : Int) := by
  have h1 : (BitVec.ofInt 64 (a : Int)).toNat = a := by rw [BitVec.toNat_ofInt]; omega
  have h2 : (BitVec.ofInt 64 (b : Int)).toNat = b := by rw [BitVec.toNat_ofInt]; omega
  have h3 : a ||| b < 2 ^ 63 := Nat.or_lt_two_pow (by omega) (by omega)
  show IntKind.i64.wrap ((BitVec.ofInt 64 (a : Int) ||| BitVec.ofInt 64 (b : Int)).toNat : Int) = _
  rw [BitVec.toNat_or, h1, h2, IntWalk.i64_in _ (by omega)]

theorem valb_take (r : List Nat) {k : Nat} (hk : k < r.length) : valb (r.take (k + 1)) = valb (r.take k) + r.getD k 0 % 128 * 128 ^ k := by
  induction k generalizing r with
  | zero =>
    cases r with
    | nil => simp at hk
    | cons b r => simp [valb]
  | succ k ih =>
    cases r with
    | nil => simp at hk
    | cons b r =>
      have := ih r (by simpa using hk)
      rw [List.take_succ_cons, List.take_succ_cons, valb, valb, this]
      rw [show (b :: r).getD (k + 1) 0 = r.getD k 0 by simp, Nat.pow_succ, Nat.mul_add]
      rw [Nat.add_assoc, Nat.mul_comm (128 ^ k), Nat.mul_left_comm]

set_option maxRecDepth 100000 in
set_option maxHeartbeats 4000000 in
theorem pnatof_any {w : World} {A : Option Addr} {n c : Nat} {r : List Nat} (hr : Rd w A n c r) (hc : n ≤ c) (hn : n ≤ 4611686018427387904) :
    Calls Tryz.prog 120 #[.slice A n c] w fun e w' => (natErr r = 0 ∧ e = .returned (.tuple #[.int .i64 (natVal r : Int), .int .i64 (natTaken r : Int)]) ∧ w = w') ∨ (¬ natErr r = 0 ∧ e = stopped (natErr r) ∧ w = w') := by
  have HR := Lib.hid hr
  have hl := hr.1
  clear hr
  obtain ⟨k9, hk1, hk2, hk3, hk9c, hmin⟩ : ∃ k9 : Nat, k9 ≤ n ∧ k9 ≤ 9 ∧ (k9 = n ∨ k9 = 9) ∧ k9 ≤ c ∧ (if (9 : Int) < (n : Int) then 9 else (n : Int)) = (k9 : Int) := ⟨min n 9, by omega, by omega, by omega, by omega, by split <;> omega⟩
  go_enter Tryz.func120, Tryz.ntmps120
  go_wp2_with fail
  go_loopw [2, 12] (fun vv ii wr => ∃ k : Nat, k ≤ k9 ∧ ii = .int .i64 (k : Int) ∧ vv = .int .i64 (valb (r.take k) : Int) ∧ Led r k ∧ w = wr) (fun _ ii _ => 9 - (intOf ii).toNat)
  case atStart => exact ⟨0, by omega, rfl, rfl, ⟨by omega, by omega, fun j hj => by omega⟩, rfl⟩
  case round =>
    obtain ⟨k, hk, rfl, rfl, hL, rfl⟩ := hrel
    have HL := Lib.hid hL
    clear hL
    by_cases hlt : k < k9
    · obtain ⟨rb, ro, rfl, hcell⟩ := HR.out.at_ (j := k) (by omega)
      have hvt := valb_take r (k := k) (by omega)
      have hv := valb_lt (r.take k)
      rw [List.length_take, Nat.min_eq_left (by omega)] at hv
      have hp : 128 ^ k ≤ 72057594037927936 := by
        have : (128 : Nat) ^ 8 = 72057594037927936 := by decide
        rw [← this]
        exact Nat.pow_le_pow_right (by omega) (by omega)
      have hm := Nat.mod_lt (r.getD k 0) (show 0 < 128 by omega)
      generalize hbb : r.getD k 0 = b at hcell hvt hm
      have hmm : ((b : Int)).tmod 128 = ((b % 128 : Nat) : Int) := by rw [Int.tmod_eq_emod_of_nonneg (by omega)]; rfl
      have hbx : b % 128 * 128 ^ k ≤ 127 * 128 ^ k := Nat.mul_le_mul_right _ (by omega)
      have hsh : ((b % 128 : Nat) : Int) * 2 ^ (7 * (k : Int)).toNat = ((b % 128 * 128 ^ k : Nat) : Int) := by
        rw [show (7 * (k : Int)).toNat = 7 * k by omega, Int.natCast_mul, Int.natCast_pow, show ((128 : Nat) : Int) = 2 ^ 7 by rfl, ← Int.pow_mul]
      have hor : bits BinOp.or IntKind.i64 (valb (r.take k) : Int) ((b % 128 * 128 ^ k : Nat) : Int) = ((valb (r.take k) + b % 128 * 128 ^ k : Nat) : Int) := by
        rw [i64_or_nat _ _ (by omega) (by omega), Nat.or_comm]
        rw [nat_join (7 * k) _ _ (by rw [Nat.pow_mul]; exact Nat.mul_mod_left _ _) (by rw [Nat.pow_mul]; exact hv), Nat.add_comm]
      have u0 : IntKind.u8.wrap ((b % 128 : Nat) : Int) = ((b % 128 : Nat) : Int) := IntWalk.u8_in _ (by omega)
      have u1 : IntKind.i64.wrap ((b % 128 : Nat) : Int) = ((b % 128 : Nat) : Int) := IntWalk.i64_in _ (by omega)
      have u2 : IntKind.i64.wrap (7 * (k : Int)) = 7 * (k : Int) := IntWalk.i64_in _ (by omega)
      have u3 : IntKind.i64.wrap ((b % 128 * 128 ^ k : Nat) : Int) = ((b % 128 * 128 ^ k : Nat) : Int) := IntWalk.i64_in _ (by omega)
      have u4 : valb (r.take k) + b % 128 * 128 ^ k < 9223372036854775808 := by omega
      have HV : Hid (valb (r.take (k + 1)) = valb (r.take k) + b % 128 * 128 ^ k) := hvt
      have hV0 : Hid (k = 0 → b = 0 → valb (r.take k) = 0 ∧ b % 128 * 128 ^ k = 0 ∧ b % 128 = 0) := fun h1 h2 => by subst h1 h2; exact ⟨rfl, rfl, rfl⟩
      clear hvt hbx hp hv
      generalize valb (r.take k) = V at *
      generalize b % 128 * 128 ^ k = X at *
      generalize b % 128 = mm at *
      by_cases hb : b < 128
      · have he : lead r = k := led_end HL.out (.inr (.inr (by omega)))
        have HT : Hid (natTaken r = k + 1) := by unfold natTaken; rw [he]; exact rfl
        have HN : Hid (natVal r = V + X) := by unfold natVal; rw [he]; exact HV.out
        by_cases hz : b = 0 ∧ 0 < k
        · have HE : Hid (natErr r = 3) := by
            unfold natErr
            rw [he, if_neg (by omega), if_neg (by omega), if_pos (.inl ⟨hz.2, by rw [hbb]; exact hz.1⟩)]
            exact rfl
          obtain ⟨rfl, hk0⟩ := hz
          have hk0' : ((k : Int) == 0) = false := by rw [beq_eq_false_iff_ne]; omega
          go_wp2_with (go_at_call 123; refine (need_err 3 rfl _).mono ?_; rintro e w' ⟨rfl, rfl⟩)
          exact ⟨rfl, .inr ⟨by rw [HE.out]; decide, by rw [HE.out], rfl⟩⟩
        · by_cases hm2 : 4611686018427387904 < V + X
          · have HE : Hid (natErr r = 3) := by
              unfold natErr
              rw [he, if_neg (by omega), if_neg (by omega), if_pos (.inr (by rw [HV.out]; exact hm2))]
              exact rfl
            have hm2' : decide ((V : Int) + (X : Int) ≤ 4611686018427387904) = false := by rw [decide_eq_false_iff_not]; omega
            by_cases hb0 : 0 < b
            · have hb0' : (0 : Int) < (b : Int) := by omega
              go_wp2_with (go_at_call 123; first | (refine (need_err 3 rfl _).mono ?_; rintro e w' ⟨rfl, rfl⟩) | (refine (need_ok 3 _).mono ?_; rintro e w' ⟨rfl, rfl⟩))
              exact ⟨rfl, .inr ⟨by rw [HE.out]; decide, by rw [HE.out], rfl⟩⟩
            · obtain rfl : b = 0 := by omega
              obtain rfl : k = 0 := by omega
              obtain ⟨rfl, rfl, rfl⟩ := hV0.out rfl rfl
              omega
          · have HE : Hid (natErr r = 0) := by
              unfold natErr
              rw [he, if_neg (by omega), if_neg (by omega), if_neg (by rw [HV.out, hbb]; omega)]
              exact rfl
            have hm2' : decide ((V : Int) + (X : Int) ≤ 4611686018427387904) = true := by rw [decide_eq_true_iff]; omega
            by_cases hb0 : 0 < b
            · have hb0' : (0 : Int) < (b : Int) := by omega
              go_wp2_with (go_at_call 123; refine (need_ok 3 _).mono ?_; rintro e w' ⟨rfl, rfl⟩)
              go_ret2
              exact .inl ⟨HE.out, by rw [HN.out, HT.out]; rfl, rfl⟩
            · obtain rfl : b = 0 := by omega
              obtain rfl : k = 0 := by omega
              obtain ⟨rfl, rfl, rfl⟩ := hV0.out rfl rfl
              rw [Nat.add_zero] at hcell
              have hor0 : bits BinOp.or IntKind.i64 0 0 = 0 := by decide
              clear hor hsh hmm
              go_wp2_with (go_at_call 123; refine (need_ok 3 _).mono ?_; rintro e w' ⟨rfl, rfl⟩)
              go_ret2
              exact .inl ⟨HE.out, by rw [HN.out, HT.out]; rfl, rfl⟩
      · go_wp2_with fail
        exact ⟨⟨k + 1, by omega, rfl, by rw [HV.out]; rfl, led_step HL.out (by omega) (by omega) (by omega), trivial⟩, by simp [intOf]; omega⟩
    · obtain rfl : k = k9 := by omega
      by_cases h9 : n < 9
      · obtain rfl : k = n := by omega
        have he : lead r = k := led_end HL.out (.inr (.inl hl.symm))
        have HE : Hid (natErr r = 2) := by unfold natErr; rw [he, if_neg (by omega), if_pos hl.symm]; exact rfl
        have h9' : decide ((k : Int) < 9) = true := by rw [decide_eq_true_iff]; omega
        go_wp2_with (first | (go_at_call 123; refine (need_ok 3 _).mono ?_; rintro e w' ⟨rfl, rfl⟩) | (go_at_call 94; refine (stop_err 2 rfl _).mono ?_; rintro e w' ⟨rfl, rfl⟩))
        exact ⟨rfl, .inr ⟨by rw [HE.out]; decide, by rw [HE.out], rfl⟩⟩
      · obtain rfl : k = 9 := by omega
        have he : lead r = 9 := led_end HL.out (.inl rfl)
        have HE : Hid (natErr r = 3) := by unfold natErr; rw [he, if_pos rfl]; exact rfl
        have h9' : decide ((n : Int) < 9) = false := by rw [decide_eq_false_iff_not]; omega
        go_wp2_with (go_at_call 123; refine (need_err 3 rfl _).mono ?_; rintro e w' ⟨rfl, rfl⟩)
        exact ⟨rfl, .inr ⟨by rw [HE.out]; decide, by rw [HE.out], rfl⟩⟩

set_option maxRecDepth 100000 in
set_option maxHeartbeats 4000000 in
theorem peightof_any {w : World} {A : Option Addr} {n c : Nat} {r : List Nat} (hr : Rd w A n c r) (hc : n ≤ c) (hn : n ≤ 4611686018427387904) (hby : Bytey r) :
    Calls Tryz.prog 166 #[.slice A n c] w fun e w' => (wordErr r = 0 ∧ e = .returned (.int .u64 (wordn r 8 : Int)) ∧ w = w') ∨ (¬ wordErr r = 0 ∧ e = stopped (wordErr r) ∧ w = w') := by
  have HR := Lib.hid hr
  have hl := hr.1
  clear hr
  by_cases h8 : n < 8
  · have HE : Hid (wordErr r = 2) := by unfold wordErr; rw [if_pos (by omega)]; exact rfl
    have h8' : decide (8 ≤ (n : Int)) = false := by rw [decide_eq_false_iff_not]; omega
    go_enter Tryz.func166, Tryz.ntmps166
    go_wp2_with (go_at_call 123; refine (need_err 2 rfl _).mono ?_; rintro e w' ⟨rfl, rfl⟩)
    exact ⟨rfl, .inr ⟨by rw [HE.out]; decide, by rw [HE.out], rfl⟩⟩
  · have HE : Hid (wordErr r = 0) := by unfold wordErr; rw [if_neg (by omega)]; exact rfl
    have h8c : 8 ≤ c := by omega
    have h8' : decide (8 ≤ (n : Int)) = true := by rw [decide_eq_true_iff]; omega
    go_enter Tryz.func166, Tryz.ntmps166
    go_wp2_with (go_at_call 123; refine (need_ok 2 _).mono ?_; rintro e w' ⟨rfl, rfl⟩)
    go_loopw [3, 13] (fun vv ii wr => ∃ i : Nat, i ≤ 8 ∧ ii = .int .i64 (i : Int) ∧ vv = .int .u64 (wordn r i : Int) ∧ w = wr) (fun _ ii _ => 8 - (intOf ii).toNat)
    case atStart => exact ⟨0, by omega, rfl, rfl, rfl⟩
    case round =>
      obtain ⟨i, hi, rfl, rfl, rfl⟩ := hrel
      by_cases hi8 : i < 8
      · obtain ⟨rb, ro, rfl, hcell⟩ := HR.out.at_ (j := i) (by omega)
        have HW : Hid (wordn r (i + 1) = wordn r i * 256 + r.getD i 0) := wordn_step (by omega)
        have hv : wordn r i < 72057594037927936 := by
          have h1 := wordn_lt hby i (by omega)
          have h2 : 256 ^ i ≤ 256 ^ 7 := Nat.pow_le_pow_right (by omega) (by omega)
          have h3 : (256 : Nat) ^ 7 = 72057594037927936 := by decide
          omega
        have hb := hby.getD i
        generalize r.getD i 0 = b at hcell HW hb
        generalize hvv : wordn r i = v at HW hv ⊢
        clear hvv
        have hor := or_byte v b hv hb
        go_wp2_with fail
        exact ⟨⟨i + 1, by omega, rfl, by rw [HW.out]; rfl, trivial⟩, by simp [intOf]; omega⟩
      · obtain rfl : i = 8 := by omega
        go_wp2_with fail
        go_ret
        exact .inl ⟨HE.out, rfl, rfl⟩

/-- A Reader of the landed pack's in block g: what is left of its bytes. -/
structure PR (w : World) (g : Nat) (A : Option Addr) (n c : Nat) (r : List Nat) : Prop where
  c0 : w.cell? ⟨g, 0, none⟩ = some (.slice A n c)
  f0 : w.frozen? ⟨g, 0, none⟩ = false
  rd : Rd w A n c r
  cap : n ≤ c
  apart : ∀ ad, A = some ad → ¬ ad.block = g
  small : n ≤ 4611686018427387904

theorem PR.drewN {w : World} {g : Nat} {A : Option Addr} {n c : Nat} {r : List Nat} (h : PR w g A n c r) (m : Nat) : PR (w.drewN m) g A n c r := ⟨h.c0, h.f0, h.rd, h.cap, h.apart, h.small⟩
theorem PR.kept {S : Nat → Prop} {w w' : World} {g : Nat} {A : Option Addr} {n c : Nat} {r : List Nat} (h : PR w g A n c r) (k : Kept S w w') (hg : ¬ S g) (hs : ∀ ad, A = some ad → ¬ S ad.block) : PR w' g A n c r := by
  have hlt : g < w.heap.size := cell_lt h.c0
  refine ⟨?_, ?_, h.rd.kept k hs, h.cap, h.apart, h.small⟩
  · rw [k.cell (p := ⟨g, 0, none⟩) hlt hg]; exact h.c0
  · rw [k.frozen (p := ⟨g, 0, none⟩) hlt hg]; exact h.f0
/-- Of a slice that is cut in front. -/
theorem Rd.cut {w : World} {rb ro n c : Nat} {r : List Nat} (h : Rd w (some ⟨rb, ro, none⟩) n c r) {s : Nat} (hs : s ≤ n) (hc : n ≤ c) :
    Rd w (if c = s then some ⟨rb, ro, none⟩ else some ⟨rb, ro + s, none⟩) (n - s) (c - s) (r.drop s) := by
  refine ⟨by rw [List.length_drop, h.1], .inr ?_⟩
  by_cases e : c = s
  · rw [if_pos e]
    refine ⟨rb, ro, rfl, fun j u hj => ?_⟩
    have hl := (List.getElem?_eq_some_iff.1 hj).1
    rw [List.length_drop, h.1] at hl
    omega
  · rw [if_neg e]
    refine ⟨rb, ro + s, rfl, fun j u hj => ?_⟩
    rcases h.2 with h0 | ⟨rb', ro', e', hcell⟩
    · cases h0.1
    · cases e'
      rw [Nat.add_assoc]
      exact hcell (s + j) u (by rw [← List.getElem?_drop]; exact hj)
theorem PR.cut {w : World} {g rb ro n c : Nat} {r : List Nat} (h : PR w g (some ⟨rb, ro, none⟩) n c r) {s : Nat} (hs : s ≤ n) {A' : Option Addr} {c' : Nat} (hA : (c = s ∧ A' = some ⟨rb, ro, none⟩ ∧ c' = 0) ∨ (¬ c = s ∧ A' = some ⟨rb, ro + s, none⟩ ∧ c' = c - s)) :
    PR (w.setCell ⟨g, 0, none⟩ (.slice A' (n - s) c')) g A' (n - s) c' (r.drop s) := by
  have hb : ¬ rb = g := h.apart _ rfl
  have hap : ∀ ad, A' = some ad → ¬ ad.block = g := by
    intro ad e
    rcases hA with ⟨-, rfl, -⟩ | ⟨-, rfl, -⟩
    · cases e; exact hb
    · cases e; exact hb
  have hc := h.cap
  refine ⟨World.cell?_setCell_same _ _ _ h.c0, by rw [World.frozen?_setCell]; exact h.f0, ?_, by omega, hap, by have := h.small; omega⟩
  have hcut := h.rd.cut hs h.cap
  have e : (if c = s then some (⟨rb, ro, none⟩ : Addr) else some ⟨rb, ro + s, none⟩) = A' ∧ c - s = c' := by
    rcases hA with ⟨h1, rfl, rfl⟩ | ⟨h1, rfl, rfl⟩
    · exact ⟨if_pos h1, by omega⟩
    · exact ⟨if_neg h1, rfl⟩
  rw [e.1, e.2] at hcut
  exact hcut.kept (Kept.setCell (S := (· = g)) w ⟨g, 0, none⟩ rfl _) hap

/-- What a method does that takes something, t bytes: it tells it, if there is no error; else it Stops. -/
def PTook (g : Nat) (r : List Nat) (err : Int) (t : Nat) (v : Value) (w : World) (e : Ending) (w' : World) : Prop :=
  (err = 0 ∧ e = .returned v ∧ (∃ A n c, PR w' g A n c (r.drop t)) ∧ Kept (· = g) w w') ∨ (¬ err = 0 ∧ e = stopped err ∧ Kept (· = g) w w')

/-- Where the bytes that are left lie: in the block in which they lay. -/
def SameBlock (A A' : Option Addr) : Prop := ∀ ad', A' = some ad' → ∃ ad, A = some ad ∧ ad'.block = ad.block
theorem same_block {b o o' : Nat} : SameBlock (some ⟨b, o, none⟩) (some ⟨b, o', none⟩) := fun ad e => by cases e; exact ⟨_, rfl, rfl⟩
/-- The same, and that the bytes lie where they lay. -/
def PTookS (g : Nat) (A : Option Addr) (r : List Nat) (err : Int) (t : Nat) (v : Value) (w : World) (e : Ending) (w' : World) : Prop :=
  (err = 0 ∧ e = .returned v ∧ (∃ A' n c, PR w' g A' n c (r.drop t) ∧ SameBlock A A') ∧ Kept (· = g) w w') ∨ (¬ err = 0 ∧ e = stopped err ∧ Kept (· = g) w w')
theorem PTookS.plain {g : Nat} {A : Option Addr} {r : List Nat} {err : Int} {t : Nat} {v : Value} {w : World} {e : Ending} {w' : World} (h : PTookS g A r err t v w e w') : PTook g r err t v w e w' := by
  rcases h with ⟨h1, h2, ⟨A', n, c, h3, -⟩, h4⟩ | h
  · exact .inl ⟨h1, h2, ⟨A', n, c, h3⟩, h4⟩
  · exact .inr h

theorem pleft_any {w : World} {g : Nat} {A : Option Addr} {n c : Nat} {r : List Nat} (h : PR w g A n c r) :
    Calls Tryz.prog 88 #[.pointer (some ⟨g, 0, none⟩)] w fun e w' => e = .returned (.int .i64 (r.length : Int)) ∧ w = w' := by
  obtain ⟨c0, -, rd, -, -, -⟩ := h
  have hl := rd.1
  subst hl
  clear rd
  go_enter Tryz.func88, Tryz.ntmps88
  go_wp2_with fail
  go_ret
  exact ⟨rfl, rfl⟩

theorem nat_fits {r : List Nat} (h : natErr r = 0) : natTaken r ≤ r.length := by
  unfold natErr at h
  split at h
  · cases h
  · split at h
    · cases h
    · have : lead r ≤ r.length := by
        unfold lead
        refine Nat.le_trans (List.takeWhile_prefix _).length_le ?_
        rw [List.length_take]; omega
      unfold natTaken
      omega

set_option maxRecDepth 100000 in
set_option maxHeartbeats 4000000 in
theorem pnatr_at {w : World} {g : Nat} {A : Option Addr} {n c : Nat} {r : List Nat} (h : PR w g A n c r) :
    Calls Tryz.prog 89 #[.pointer (some ⟨g, 0, none⟩)] w (PTookS g A r (natErr r) (natTaken r) (.int .i64 (natVal r : Int)) w) := by
  have HC := Lib.hid (pnatof_any h.rd h.cap h.small)
  have HF := Lib.hid (nat_fits (r := r))
  have ht1 : 1 ≤ natTaken r := by unfold natTaken; omega
  have hl := h.rd.1
  have hcap := h.cap
  have HP := Lib.hid h
  have c0 := h.c0
  have f0 := h.f0
  clear h
  generalize natErr r = err at HC HF ⊢
  generalize natVal r = v at HC HF ⊢
  generalize natTaken r = t at HC HF ht1 ⊢
  go_enter Tryz.func89, Tryz.ntmps89
  go_wp2_with fail
  refine HC.out.mono ?_
  rintro e w1 (⟨he, rfl, rfl⟩ | ⟨he, rfl, rfl⟩)
  · have ht := HF.out he
    have HE := Lib.hid he
    obtain ⟨rb, ro, rfl, -⟩ := HP.out.rd.at_ (j := 0) (by omega)
    clear HC HF he
    by_cases hct : c = t
    · go_wp2_with fail
      go_ret
      exact .inl ⟨HE.out, rfl, ⟨_, _, _, HP.out.cut (by omega) (.inl ⟨hct, rfl, rfl⟩), same_block⟩, Kept.setCell (S := (· = g)) _ ⟨g, 0, none⟩ rfl _⟩
    · go_wp2_with fail
      go_ret
      exact .inl ⟨HE.out, rfl, ⟨_, _, _, HP.out.cut (by omega) (.inr ⟨hct, rfl, rfl⟩), same_block⟩, Kept.setCell (S := (· = g)) _ ⟨g, 0, none⟩ rfl _⟩
  · exact ⟨rfl, .inr ⟨he, rfl, Kept.refl _ _⟩⟩

set_option maxRecDepth 100000 in
set_option maxHeartbeats 4000000 in
theorem pintr_at {w : World} {g : Nat} {A : Option Addr} {n c : Nat} {r : List Nat} (h : PR w g A n c r) (hby : Bytey r) :
    Calls Tryz.prog 160 #[.pointer (some ⟨g, 0, none⟩)] w (PTookS g A r (wordErr r) 8 (.int .i64 (wrap64 (wordn r 8 : Int))) w) := by
  have HC := Lib.hid (peightof_any h.rd h.cap h.small hby)
  have HF : Hid (wordErr r = 0 → 8 ≤ r.length) := fun e => by
    unfold wordErr at e
    split at e
    · cases e
    · omega
  have hl := h.rd.1
  have hcap := h.cap
  have HP := Lib.hid h
  have c0 := h.c0
  have f0 := h.f0
  clear h
  generalize wordErr r = err at HC HF ⊢
  generalize wordn r 8 = v at HC HF ⊢
  go_enter Tryz.func160, Tryz.ntmps160
  go_wp2_with fail
  refine HC.out.mono ?_
  rintro e w1 (⟨he, rfl, rfl⟩ | ⟨he, rfl, rfl⟩)
  · have ht := HF.out he
    have HE := Lib.hid he
    obtain ⟨rb, ro, rfl, -⟩ := HP.out.rd.at_ (j := 0) (by omega)
    clear HC HF he
    by_cases hct : c = 8
    · go_wp2_with fail
      go_ret
      exact .inl ⟨HE.out, rfl, ⟨_, _, _, HP.out.cut (by omega) (.inl ⟨hct, rfl, rfl⟩), same_block⟩, Kept.setCell (S := (· = g)) _ ⟨g, 0, none⟩ rfl _⟩
    · go_wp2_with fail
      go_ret
      exact .inl ⟨HE.out, rfl, ⟨_, _, _, HP.out.cut (by omega) (.inr ⟨hct, rfl, rfl⟩), same_block⟩, Kept.setCell (S := (· = g)) _ ⟨g, 0, none⟩ rfl _⟩
  · exact ⟨rfl, .inr ⟨he, rfl, Kept.refl _ _⟩⟩

set_option maxRecDepth 100000 in
set_option maxHeartbeats 4000000 in
theorem pfltr_at {w : World} {g : Nat} {A : Option Addr} {n c : Nat} {r : List Nat} (h : PR w g A n c r) (hby : Bytey r) :
    Calls Tryz.prog 162 #[.pointer (some ⟨g, 0, none⟩)] w (PTookS g A r (fltErr r) 8 (.float .f64 (wordn r 8)) w) := by
  have HC := Lib.hid (peightof_any h.rd h.cap h.small hby)
  have HF : Hid (wordErr r = 0 → 8 ≤ r.length) := fun e => by
    unfold wordErr at e
    split at e
    · cases e
    · omega
  have HQ : Hid (fltErr r = if wordErr r = 0 then (if Fl.told (wordn r 8) then 0 else 3) else wordErr r) := by
    unfold fltErr wordErr
    by_cases h8 : r.length < 8
    · rw [if_pos h8, if_pos h8, if_neg (by decide)]; exact rfl
    · rw [if_neg h8, if_neg h8, if_pos rfl]; exact rfl
  rw [HQ.out]
  have hl := h.rd.1
  have hcap := h.cap
  have HP := Lib.hid h
  have c0 := h.c0
  have f0 := h.f0
  clear h HQ
  generalize wordErr r = err at HC HF ⊢
  generalize wordn r 8 = v at HC HF ⊢
  have HO := Lib.hid (of_any v)
  by_cases he0 : err = 0
  · rw [if_pos he0]
    have ht := HF.out he0
    obtain ⟨rb, ro, rfl, -⟩ := HP.out.rd.at_ (j := 0) (by omega)
    clear HF
    cases hto : Fl.told v
    · rw [hto] at HO
      simp only [Bool.false_eq_true, if_false] at HO ⊢
      go_enter Tryz.func162, Tryz.ntmps162
      go_wp2_with fail
      refine HC.out.mono ?_
      rintro e w1 (⟨he, rfl, rfl⟩ | ⟨he, rfl, rfl⟩)
      rotate_left
      · exact absurd he0 he
      clear HC he he0
      go_wp2_with fail
      refine (HO.out _).mono ?_
      rintro e w2 ⟨rfl, rfl⟩
      go_wp2_with (go_at_call 123; refine (need_err 3 rfl _).mono ?_; rintro e w' ⟨rfl, rfl⟩)
      exact ⟨rfl, .inr ⟨by decide, rfl, Kept.refl _ _⟩⟩
    · rw [hto] at HO
      simp only [if_true] at HO ⊢
      go_enter Tryz.func162, Tryz.ntmps162
      go_wp2_with fail
      refine HC.out.mono ?_
      rintro e w1 (⟨he, rfl, rfl⟩ | ⟨he, rfl, rfl⟩)
      rotate_left
      · exact absurd he0 he
      clear HC he he0
      go_wp2_with fail
      refine (HO.out _).mono ?_
      rintro e w2 ⟨rfl, rfl⟩
      by_cases hct : c = 8
      · go_wp2_with (go_at_call 123; refine (need_ok 3 _).mono ?_; rintro e w' ⟨rfl, rfl⟩)
        go_ret
        exact .inl ⟨rfl, rfl, ⟨_, _, _, HP.out.cut (by omega) (.inl ⟨hct, rfl, rfl⟩), same_block⟩, Kept.setCell (S := (· = g)) _ ⟨g, 0, none⟩ rfl _⟩
      · go_wp2_with (go_at_call 123; refine (need_ok 3 _).mono ?_; rintro e w' ⟨rfl, rfl⟩)
        go_ret
        exact .inl ⟨rfl, rfl, ⟨_, _, _, HP.out.cut (by omega) (.inr ⟨hct, rfl, rfl⟩), same_block⟩, Kept.setCell (S := (· = g)) _ ⟨g, 0, none⟩ rfl _⟩
  · rw [if_neg he0]
    go_enter Tryz.func162, Tryz.ntmps162
    go_wp2_with fail
    refine HC.out.mono ?_
    rintro e w1 (⟨he, rfl, rfl⟩ | ⟨he, rfl, rfl⟩)
    · exact absurd he he0
    · exact ⟨rfl, .inr ⟨he, rfl, Kept.refl _ _⟩⟩

set_option maxRecDepth 100000 in
set_option maxHeartbeats 4000000 in
theorem ptextr_at {w : World} {g : Nat} {A : Option Addr} {n c : Nat} {r : List Nat} (most : Int) (h : PR w g A n c r) :
    Calls Tryz.prog 158 #[.pointer (some ⟨g, 0, none⟩), .int .i64 most] w (PTookS g A r (textErr r most) (textTaken r) (.string (textVal r)) w) := by
  have HC := Lib.hid (pnatof_any h.rd h.cap h.small)
  have HF := Lib.hid (nat_fits (r := r))
  have ht1 : 1 ≤ natTaken r := by unfold natTaken; omega
  have hl := h.rd.1
  have hcap := h.cap
  have hsm := h.small
  have HP := Lib.hid h
  have c0 := h.c0
  have f0 := h.f0
  have hq : textErr r most = if natErr r = 0 then (if max most 0 < (natVal r : Int) then 3 else if n - natTaken r < natVal r then 2 else 0) else natErr r := by unfold textErr; rw [hl]
  have ht : textTaken r = natTaken r + natVal r := rfl
  have hx : textVal r = tstr ((r.drop (natTaken r)).take (natVal r)) := rfl
  rw [hq, ht, hx]
  clear hq ht hx h
  generalize natErr r = err at HC HF ⊢
  generalize natVal r = v at HC HF ⊢
  generalize natTaken r = t at HC HF ht1 ⊢
  obtain ⟨M, hM, hmx⟩ : ∃ M : Int, max most 0 = M ∧ (if most < 0 then 0 else most) = M := ⟨_, rfl, by split <;> omega⟩
  rw [hM]
  clear hM
  by_cases he0 : err = 0
  · rw [if_pos he0]
    have ht := HF.out he0
    obtain ⟨rb, ro, rfl, -⟩ := HP.out.rd.at_ (j := 0) (by omega)
    clear HF
    by_cases hm : M < (v : Int)
    · rw [if_pos hm]
      have hm' : decide ((v : Int) ≤ M) = false := by rw [decide_eq_false_iff_not]; omega
      go_enter Tryz.func158, Tryz.ntmps158
      go_wp2_with fail
      refine HC.out.mono ?_
      rintro e w1 (⟨he, rfl, rfl⟩ | ⟨he, rfl, rfl⟩)
      rotate_left
      · exact absurd he0 he
      clear HC he he0
      go_wp2_with (go_at_call 123; refine (need_err 3 rfl _).mono ?_; rintro e w' ⟨rfl, rfl⟩)
      exact ⟨rfl, .inr ⟨by decide, rfl, Kept.refl _ _⟩⟩
    · rw [if_neg hm]
      have hm' : decide ((v : Int) ≤ M) = true := by rw [decide_eq_true_iff]; omega
      by_cases hlk : n - t < v
      · rw [if_pos hlk]
        have hl' : decide ((v : Int) ≤ (n : Int) - (t : Int)) = false := by rw [decide_eq_false_iff_not]; omega
        obtain rfl : most = M := by
          split at hmx <;> omega
        clear hmx
        have hmx : (if most < 0 then 0 else most) = most := if_neg (by omega)
        go_enter Tryz.func158, Tryz.ntmps158
        go_wp2_with fail
        refine HC.out.mono ?_
        rintro e w1 (⟨he, rfl, rfl⟩ | ⟨he, rfl, rfl⟩)
        rotate_left
        · exact absurd he0 he
        clear HC he he0
        go_wp2_with fail
        refine (need_ok 3 _).mono ?_
        rintro e w1 ⟨rfl, rfl⟩
        go_wp2_with fail
        refine (need_err 2 rfl _).mono ?_
        rintro e w1 ⟨rfl, rfl⟩
        exact ⟨rfl, .inr ⟨by decide, rfl, Kept.refl _ _⟩⟩
      · rw [if_neg hlk]
        have hl' : decide ((v : Int) ≤ (n : Int) - (t : Int)) = true := by rw [decide_eq_true_iff]; omega
        have hconv := conv_rd HP.out.rd (s := t) (v := v) (by omega) hcap
        rw [show t + v - t = v by omega] at hconv
        have w5 : IntKind.i64.wrap ((t : Int) + (v : Int)) = ((t + v : Nat) : Int) := by rw [IntWalk.i64_in _ (by omega)]; omega
        have ht2 : t + v ≤ c := by omega
        by_cases hct : c = t
        · rw [if_pos hct, show c - t = 0 by omega] at hconv
          obtain rfl : v = 0 := by omega
          obtain rfl : t = n := by omega
          obtain rfl : c = t := by omega
          have hm0 : decide ((0 : Int) ≤ M) = true := hm'
          have hl0 : decide ((0 : Int) ≤ (c : Int) - (c : Int)) = true := hl'
          have h00 : c + 0 - c = 0 := by omega
          go_enter Tryz.func158, Tryz.ntmps158
          go_wp2_with fail
          refine HC.out.mono ?_
          rintro e w1 (⟨he, rfl, rfl⟩ | ⟨he, rfl, rfl⟩)
          rotate_left
          · exact absurd he0 he
          clear HC he he0
          go_wp2_with fail
          refine (need_ok 3 _).mono ?_
          rintro e w1 ⟨rfl, rfl⟩
          go_wp2_with fail
          refine (need_ok 2 _).mono ?_
          rintro e w1 ⟨rfl, rfl⟩
          go_wp2_with fail
          go_ret
          have hcut := HP.out.cut (s := c + 0) (by omega) (.inl ⟨rfl, rfl, rfl⟩)
          rw [show c - (c + 0) = 0 by omega] at hcut
          exact .inl ⟨rfl, rfl, ⟨_, _, _, hcut, same_block⟩, Kept.setCell (S := (· = g)) _ ⟨g, 0, none⟩ rfl _⟩
        · rw [if_neg hct] at hconv
          by_cases hc2 : c = t + v
          · subst hc2
            rw [Nat.add_sub_cancel_left] at hconv
            obtain rfl : most = M := by
              split at hmx <;> omega
            clear hmx
            have hmx : (if most < 0 then 0 else most) = most := if_neg (by omega)
            go_enter Tryz.func158, Tryz.ntmps158
            go_wp2_with fail
            refine HC.out.mono ?_
            rintro e w1 (⟨he, rfl, rfl⟩ | ⟨he, rfl, rfl⟩)
            rotate_left
            · exact absurd he0 he
            clear HC he he0
            go_wp2_with fail
            refine (need_ok 3 _).mono ?_
            rintro e w1 ⟨rfl, rfl⟩
            go_wp2_with fail
            refine (need_ok 2 _).mono ?_
            rintro e w1 ⟨rfl, rfl⟩
            go_wp2_with fail
            go_ret
            have hcut := HP.out.cut (s := t + v) (by omega) (.inl ⟨rfl, rfl, rfl⟩)
            rw [show n - (t + v) = 0 by omega] at hcut
            exact .inl ⟨rfl, rfl, ⟨_, _, _, hcut, same_block⟩, Kept.setCell (S := (· = g)) _ ⟨g, 0, none⟩ rfl _⟩
          · skip
            go_enter Tryz.func158, Tryz.ntmps158
            go_wp2_with fail
            refine HC.out.mono ?_
            rintro e w1 (⟨he, rfl, rfl⟩ | ⟨he, rfl, rfl⟩)
            rotate_left
            · exact absurd he0 he
            clear HC he he0
            go_wp2_with fail
            refine (need_ok 3 _).mono ?_
            rintro e w1 ⟨rfl, rfl⟩
            go_wp2_with fail
            refine (need_ok 2 _).mono ?_
            rintro e w1 ⟨rfl, rfl⟩
            go_wp2_with fail
            go_ret
            exact .inl ⟨rfl, rfl, ⟨_, _, _, HP.out.cut (by omega) (.inr ⟨hc2, rfl, rfl⟩), same_block⟩, Kept.setCell (S := (· = g)) _ ⟨g, 0, none⟩ rfl _⟩
  · rw [if_neg he0]
    go_enter Tryz.func158, Tryz.ntmps158
    go_wp2_with fail
    refine HC.out.mono ?_
    rintro e w1 (⟨he, rfl, rfl⟩ | ⟨he, rfl, rfl⟩)
    · exact absurd he he0
    · exact ⟨rfl, .inr ⟨he, rfl, Kept.refl _ _⟩⟩
theorem pnatr_any {w : World} {g : Nat} {A : Option Addr} {n c : Nat} {r : List Nat} (h : PR w g A n c r) :
    Calls Tryz.prog 89 #[.pointer (some ⟨g, 0, none⟩)] w (PTook g r (natErr r) (natTaken r) (.int .i64 (natVal r : Int)) w) := (pnatr_at h).mono fun _ _ h => h.plain
theorem pintr_any {w : World} {g : Nat} {A : Option Addr} {n c : Nat} {r : List Nat} (h : PR w g A n c r) (hby : Bytey r) :
    Calls Tryz.prog 160 #[.pointer (some ⟨g, 0, none⟩)] w (PTook g r (wordErr r) 8 (.int .i64 (wrap64 (wordn r 8 : Int))) w) := (pintr_at h hby).mono fun _ _ h => h.plain
theorem pfltr_any {w : World} {g : Nat} {A : Option Addr} {n c : Nat} {r : List Nat} (h : PR w g A n c r) (hby : Bytey r) :
    Calls Tryz.prog 162 #[.pointer (some ⟨g, 0, none⟩)] w (PTook g r (fltErr r) 8 (.float .f64 (wordn r 8)) w) := (pfltr_at h hby).mono fun _ _ h => h.plain
theorem ptextr_any {w : World} {g : Nat} {A : Option Addr} {n c : Nat} {r : List Nat} (most : Int) (h : PR w g A n c r) :
    Calls Tryz.prog 158 #[.pointer (some ⟨g, 0, none⟩), .int .i64 most] w (PTook g r (textErr r most) (textTaken r) (.string (textVal r)) w) := (ptextr_at most h).mono fun _ _ h => h.plain
end Go.Proofs.YtgenmebmdpnjhaaGreat
