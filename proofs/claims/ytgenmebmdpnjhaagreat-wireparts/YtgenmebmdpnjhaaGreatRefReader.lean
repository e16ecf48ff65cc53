
/- The document's Reader: Left, Nat, word, Int, Float, Text. -/
import Derived.Test.YtgenmebmdpnjhaaGreatG9
import Derived.Laws.Bits64b
import Derived.Deep.DeepCutAuto
namespace Go.Proofs.YtgenmebmdpnjhaaGreat
open Go.RowKit

/-- A Reader of the document's in block g: its bytes, how many are taken, its error. -/
structure RS (w : World) (g : Nat) (A : Option Addr) (n c : Nat) (l : List Nat) (a : Nat) (bad : Int) : Prop where
  c0 : w.cell? ⟨g, 0, none⟩ = some (.slice A n c)
  c1 : w.cell? ⟨g, 1, none⟩ = some (.int .i64 (a : Int))
  c2 : w.cell? ⟨g, 2, none⟩ = some (.int .i64 bad)
  f1 : w.frozen? ⟨g, 1, none⟩ = false
  f2 : w.frozen? ⟨g, 2, none⟩ = false
  rd : Rd w A n c l
  le : a ≤ n
  apart : ∀ ad, A = some ad → ¬ ad.block = g
  small : n ≤ 4611686018427387904
  cap : n ≤ c

theorem RS.drewN {w : World} {g : Nat} {A : Option Addr} {n c : Nat} {l : List Nat} {a : Nat} {bad : Int} (h : RS w g A n c l a bad) (m : Nat) : RS (w.drewN m) g A n c l a bad :=
  ⟨h.c0, h.c1, h.c2, h.f1, h.f2, h.rd, h.le, h.apart, h.small, h.cap⟩
theorem RS.seta {w : World} {g : Nat} {A : Option Addr} {n c : Nat} {l : List Nat} {a : Nat} {bad : Int} (h : RS w g A n c l a bad) {a' : Nat} (ha : a' ≤ n) : RS (w.setCell ⟨g, 1, none⟩ (.int .i64 (a' : Int))) g A n c l a' bad := by
  refine ⟨?_, ?_, ?_, ?_, ?_, ?_, ha, h.apart, h.small, h.cap⟩
  · rw [World.cell?_setCell_other _ _ _ _ (by simp)]; exact h.c0
  · exact World.cell?_setCell_same _ _ _ h.c1
  · rw [World.cell?_setCell_other _ _ _ _ (by simp)]; exact h.c2
  · rw [World.frozen?_setCell]; exact h.f1
  · rw [World.frozen?_setCell]; exact h.f2
  · exact h.rd.kept (Kept.setCell (S := (· = g)) w ⟨g, 1, none⟩ rfl _) h.apart
theorem RS.setb {w : World} {g : Nat} {A : Option Addr} {n c : Nat} {l : List Nat} {a : Nat} {bad : Int} (h : RS w g A n c l a bad) (b' : Int) : RS (w.setCell ⟨g, 2, none⟩ (.int .i64 b')) g A n c l a b' := by
  refine ⟨?_, ?_, ?_, ?_, ?_, ?_, h.le, h.apart, h.small, h.cap⟩
  · rw [World.cell?_setCell_other _ _ _ _ (by simp)]; exact h.c0
  · rw [World.cell?_setCell_other _ _ _ _ (by simp)]; exact h.c1
  · exact World.cell?_setCell_same _ _ _ h.c2
  · rw [World.frozen?_setCell]; exact h.f1
  · rw [World.frozen?_setCell]; exact h.f2
  · exact h.rd.kept (Kept.setCell (S := (· = g)) w ⟨g, 2, none⟩ rfl _) h.apart

theorem rleft_any {w : World} {g : Nat} {A : Option Addr} {n c : Nat} {l : List Nat} {a : Nat} {bad : Int} (h : RS w g A n c l a bad) :
    Calls Tryz.prog 57 #[.pointer (some ⟨g, 0, none⟩)] w fun e w' => e = .returned (.int .i64 ((n : Int) - (a : Int))) ∧ ∃ m, w' = w.drewN m := by
  obtain ⟨c0, c1, -, -, -, -, le, -, small, -⟩ := h
  have hw : IntKind.i64.wrap ((n : Int) - (a : Int)) = (n : Int) - (a : Int) := IntWalk.i64_in _ (by omega)
  go_enter Tryz.func57, Tryz.ntmps57
  go_wp2_with fail
  go_quiet (fail)
  go_wp2_with fail
  go_ret
  exact ⟨rfl, nq, rfl⟩

/-- How the bytes ahead are counted: k of them have their highest bit set, so far. -/
def Led (r : List Nat) (k : Nat) : Prop := k ≤ 9 ∧ k ≤ r.length ∧ ∀ j, j < k → 128 ≤ r.getD j 0
theorem takeWhile_len (p : Nat → Bool) : ∀ (r : List Nat) (k : Nat), k ≤ r.length → (∀ j, j < k → p (r.getD j 0) = true) → (k = r.length ∨ p (r.getD k 0) = false) → (r.takeWhile p).length = k
  | [], k, hk, _, _ => by simp at hk; subst hk; rfl
  | b :: r, 0, _, _, he => by
    rcases he with he | he
    · simp at he
    · have hb : p b = false := by simpa using he
      simp [List.takeWhile, hb]
  | b :: r, k + 1, hk, ha, he => by
    have hb : p b = true := by simpa using ha 0 (by omega)
    have ih := takeWhile_len p r k (by simpa using hk) (fun j hj => by simpa using ha (j + 1) (by omega)) (by simpa using he)
    simp [List.takeWhile, hb, ih]
theorem led_end {r : List Nat} {k : Nat} (h : Led r k) (he : k = 9 ∨ k = r.length ∨ r.getD k 0 < 128) : lead r = k := by
  obtain ⟨h9, hl, ha⟩ := h
  unfold lead
  refine takeWhile_len _ _ _ (by rw [List.length_take]; omega) (fun j hj => ?_) ?_
  · have := ha j hj
    rw [show (r.take 9).getD j 0 = r.getD j 0 by simp [show j < 9 by omega]]
    simpa using this
  · rcases he with he | he | he
    · left; rw [List.length_take]; omega
    · left; rw [List.length_take]; omega
    · by_cases h99 : k = 9
      · left; rw [List.length_take]; omega
      · right
        rw [show (r.take 9).getD k 0 = r.getD k 0 by simp [show k < 9 by omega]]
        simpa using he
theorem led_step {r : List Nat} {k : Nat} (h : Led r k) (h9 : ¬ k = 9) (hl : k < r.length) (hb : 128 ≤ r.getD k 0) : Led r (k + 1) :=
  ⟨by have := h.1; omega, hl, fun j hj => by
    by_cases e : j = k
    · subst e; exact hb
    · exact h.2.2 j (by omega)⟩
theorem valb_lt : ∀ r : List Nat, valb r < 128 ^ r.length
  | [] => by simp [valb]
  | b :: r => by
    have ih := valb_lt r
    have hb := Nat.mod_lt b (show 0 < 128 by omega)
    rw [valb, List.length_cons, Nat.pow_succ]
    omega
theorem valb_drop (r : List Nat) {i : Nat} (hi : i < r.length) : valb (r.drop i) = valb (r.drop (i + 1)) * 128 + r.getD i 0 % 128 := by
  rw [List.drop_eq_getElem_cons hi, valb]
  simp [hi]
  omega

/-- What a method tells that takes something, t bytes: it, if there is no error; else nothing is taken. -/
def Took (g : Nat) (A : Option Addr) (n c : Nat) (l : List Nat) (a : Nat) (err : Int) (t : Nat) (z v : Value) (w : World) (e : Ending) (w' : World) : Prop :=
  (err = 0 ∧ e = .returned v ∧ RS w' g A n c l (a + t) 0 ∧ Kept (· = g) w w') ∨ (¬ err = 0 ∧ e = .returned z ∧ RS w' g A n c l a err ∧ Kept (· = g) w w')

set_option maxRecDepth 100000 in
set_option maxHeartbeats 4000000 in
theorem rnatr_any {w : World} {g : Nat} {A : Option Addr} {n c : Nat} {l : List Nat} {a : Nat} (h : RS w g A n c l a 0) :
    Calls Tryz.prog 55 #[.pointer (some ⟨g, 0, none⟩)] w (Took g A n c l a (natErr (l.drop a)) (natTaken (l.drop a)) (.int .i64 0) (.int .i64 (natVal (l.drop a) : Int)) w) := by
  have HS := Lib.hid h
  have c2 := h.c2
  have hle := h.le
  have hsm := h.small
  have hln := h.rd.1
  clear h
  go_enter Tryz.func55, Tryz.ntmps55
  go_wp2_with fail
  go_loopw [3] (fun kk wr => ∃ k : Nat, kk = .int .i64 (k : Int) ∧ Led (l.drop a) k ∧ RS wr g A n c l a 0 ∧ Kept (· = g) w wr) (fun kk _ => 9 - (intOf kk).toNat)
  case atStart => exact ⟨0, rfl, ⟨by omega, by omega, fun j hj => by omega⟩, HS.out, Kept.refl _ _⟩
  case round =>
    obtain ⟨k, rfl, hL, hS, hK⟩ := hrel
    obtain ⟨k9, kl, -⟩ := id hL
    have hlen : (l.drop a).length = n - a := by rw [List.length_drop, hln]
    rw [hlen] at kl
    have HL := Lib.hid hL
    have HS2 := Lib.hid hS
    have HK := Lib.hid hK
    have d0 := hS.c0
    have d1 := hS.c1
    have hwl : IntKind.i64.wrap ((n : Int) - (a : Int)) = (n : Int) - (a : Int) := IntWalk.i64_in _ (by omega)
    have hwa : IntKind.i64.wrap ((a : Int) + (k : Int)) = (a : Int) + (k : Int) := IntWalk.i64_in _ (by omega)
    clear hL hS hK HS c2
    by_cases h9 : k = 9
    · subst h9
      have he : lead (l.drop a) = 9 := led_end HL.out (.inl rfl)
      have HE : Hid (natErr (l.drop a) = 3) := by unfold natErr; rw [if_pos he]; exact rfl
      clear he
      obtain ⟨-, -, d2, -, ff, -⟩ := HS2.out
      go_wp2_with fail
      go_quiet (first | (go_at_call 57; exact Calls.quiet_of (rleft_any (HS2.out.drewN _))))
      go_wp2_with fail
      go_ret
      rw [HE.out]
      exact .inr ⟨by decide, rfl, (HS2.out.drewN nq).setb 3, (HK.out.then (Kept.drewN _ _ nq)).then (Kept.setCell (S := (· = g)) _ ⟨g, 2, none⟩ rfl _)⟩
    · have h9' : (k : Int) < 9 := by omega
      by_cases hkl : k < n - a
      · obtain ⟨rb, ro, rfl, hcell⟩ := HS2.out.rd.at_ (j := a + k) (by omega)
        have hg : (l.drop a).getD k 0 = l.getD (a + k) 0 := by simp [List.getElem?_drop]
        generalize l.getD (a + k) 0 = b at hcell hg
        have hkl' : (k : Int) < (n : Int) - (a : Int) := by omega
        by_cases hb : 128 ≤ b
        · have hb' : (128 : Int) ≤ (b : Int) := by omega
          go_wp2_with fail
          go_quiet (first | (go_at_call 57; exact Calls.quiet_of (rleft_any (HS2.out.drewN _))))
          go_wp2_with fail
          exact ⟨⟨k + 1, rfl, led_step HL.out h9 (by omega) (by omega), HS2.out.drewN nq, HK.out.then (Kept.drewN _ _ nq)⟩, by simp [intOf]; omega⟩
        · have hb' : ¬ (128 : Int) ≤ (b : Int) := by omega
          have he : lead (l.drop a) = k := led_end HL.out (.inr (.inr (by omega)))
          go_wp2_with fail
          go_quiet (first | (go_at_call 57; exact Calls.quiet_of (rleft_any (HS2.out.drewN _))))
          go_wp2_with fail
          refine (rleft_any (HS2.out.drewN nq)).mono ?_
          rintro e w2 ⟨rfl, m2, rfl⟩
          have S3 := Lib.hid ((HS2.out.drewN nq).drewN m2)
          have K3 : Hid (Kept (· = g) w ((wr.drewN nq).drewN m2)) := (HK.out.then (Kept.drewN _ _ nq)).then (Kept.drewN _ _ m2)
          generalize (wr.drewN nq).drewN m2 = w3 at S3 K3 ⊢
          have hkn : ((k : Int) == (n : Int) - (a : Int)) = false := by rw [beq_eq_false_iff_ne]; omega
          clear hcell d0 d1 HS2 HK HL
          go_wp2_with fail
          have HR : Hid ((l.drop a).getD k 0 = b) := hg
          have HE : Hid (lead (l.drop a) = k) := he
          clear he hg hkn hwl hwa
          go_loopw [4, 5] (fun vv ii wq => ∃ i : Nat, i ≤ k + 1 ∧ ii = .int .i64 ((i : Int) - 1) ∧ vv = .int .i64 (valb (((l.drop a).take (k + 1)).drop i) : Int) ∧ RS wq g (some ⟨rb, ro, none⟩) n c l a 0 ∧ Kept (· = g) w wq) (fun _ ii _ => (intOf ii + 1).toNat)
          case atStart => exact ⟨k + 1, Nat.le_refl _, by simp, by rw [List.drop_eq_nil_of_le (by rw [List.length_take]; omega)]; rfl, S3.out, K3.out⟩
          case round =>
            obtain ⟨i, hik, rfl, rfl, hS4, hK4⟩ := hrel
            have S4 := Lib.hid hS4
            have K4 := Lib.hid hK4
            have d0 := hS4.c0
            have d1 := hS4.c1
            clear hS4 hK4 S3 K3
            by_cases hi : i = 0
            · subst hi
              rw [List.drop_zero]
              obtain ⟨rb', ro', e', hcell⟩ := S4.out.rd.at_ (j := a + k) (by omega)
              cases e'
              rw [show l.getD (a + k) 0 = b by rw [← HR.out]; simp [List.getElem?_drop]] at hcell
              have hEq : natErr (l.drop a) = if (0 < k ∧ b = 0) ∨ 4611686018427387904 < valb ((l.drop a).take (k + 1)) then 3 else 0 := by
                unfold natErr
                rw [HE.out, HR.out, if_neg (by omega), if_neg (by omega)]
              have hVal : natVal (l.drop a) = valb ((l.drop a).take (k + 1)) := by unfold natVal; rw [HE.out]
              have hTak : natTaken (l.drop a) = k + 1 := by unfold natTaken; rw [HE.out]
              have HEq := Lib.hid hEq
              have HVal := Lib.hid hVal
              have HTak := Lib.hid hTak
              clear hEq hVal hTak
              generalize valb ((l.drop a).take (k + 1)) = v at HEq HVal ⊢
              have w5 : IntKind.i64.wrap ((a : Int) + (k : Int)) = (a : Int) + (k : Int) := IntWalk.i64_in _ (by omega)
              have w6 : IntKind.i64.wrap ((a : Int) + (k : Int) + 1) = (a : Int) + (k : Int) + 1 := IntWalk.i64_in _ (by omega)
              obtain ⟨-, -, d2, ff1, ff2, -⟩ := S4.out
              by_cases hv : 4611686018427387904 < v
              · have hv' : (4611686018427387904 : Int) < (v : Int) := by omega
                have HZ : Hid (natErr (l.drop a) = 3) := by rw [HEq.out, if_pos (.inr hv)]; exact rfl
                by_cases hk0 : 0 < k
                · have hk0' : (0 : Int) < (k : Int) := by omega
                  by_cases hb0 : b = 0
                  · subst hb0
                    go_wp2_with fail
                    go_quiet (fail)
                    go_wp2_with fail
                    go_ret
                    rw [HZ.out]
                    exact .inr ⟨by decide, rfl, (S4.out.drewN nq).setb 3, (K4.out.then (Kept.drewN _ _ nq)).then (Kept.setCell (S := (· = g)) _ ⟨g, 2, none⟩ rfl _)⟩
                  · have hb0' : ((b : Int) == 0) = false := by rw [beq_eq_false_iff_ne]; omega
                    go_wp2_with fail
                    go_quiet (fail)
                    go_wp2_with fail
                    go_ret
                    rw [HZ.out]
                    exact .inr ⟨by decide, rfl, (S4.out.drewN nq).setb 3, (K4.out.then (Kept.drewN _ _ nq)).then (Kept.setCell (S := (· = g)) _ ⟨g, 2, none⟩ rfl _)⟩
                · obtain rfl : k = 0 := by omega
                  go_wp2_with fail
                  go_quiet (fail)
                  go_wp2_with fail
                  go_ret
                  rw [HZ.out]
                  exact .inr ⟨by decide, rfl, (S4.out.drewN nq).setb 3, (K4.out.then (Kept.drewN _ _ nq)).then (Kept.setCell (S := (· = g)) _ ⟨g, 2, none⟩ rfl _)⟩
              · have hv' : decide ((4611686018427387904 : Int) < (v : Int)) = false := by rw [decide_eq_false_iff_not]; omega
                by_cases hk0 : 0 < k
                · have hk0' : (0 : Int) < (k : Int) := by omega
                  by_cases hb0 : b = 0
                  · have HZ : Hid (natErr (l.drop a) = 3) := by rw [HEq.out, if_pos (.inl ⟨hk0, hb0⟩)]; exact rfl
                    subst hb0
                    go_wp2_with fail
                    go_quiet (fail)
                    go_wp2_with fail
                    go_ret
                    rw [HZ.out]
                    exact .inr ⟨by decide, rfl, (S4.out.drewN nq).setb 3, (K4.out.then (Kept.drewN _ _ nq)).then (Kept.setCell (S := (· = g)) _ ⟨g, 2, none⟩ rfl _)⟩
                  · have hb0' : ((b : Int) == 0) = false := by rw [beq_eq_false_iff_ne]; omega
                    have HZ : Hid (natErr (l.drop a) = 0) := by rw [HEq.out, if_neg (by omega)]; exact rfl
                    go_wp2_with fail
                    go_quiet (fail)
                    go_wp2_with fail
                    go_ret
                    rw [HZ.out, HVal.out, HTak.out]
                    have hset := (S4.out.drewN nq).seta (a' := a + (k + 1)) (by omega)
                    rw [show ((a + (k + 1) : Nat) : Int) = (a : Int) + (k : Int) + 1 by omega] at hset
                    exact .inl ⟨rfl, rfl, hset, (K4.out.then (Kept.drewN _ _ nq)).then (Kept.setCell (S := (· = g)) _ ⟨g, 1, none⟩ rfl _)⟩
                · obtain rfl : k = 0 := by omega
                  have HZ : Hid (natErr (l.drop a) = 0) := by rw [HEq.out, if_neg (by omega)]; exact rfl
                  go_wp2_with fail
                  go_quiet (fail)
                  go_wp2_with fail
                  go_ret
                  rw [HZ.out, HVal.out, HTak.out]
                  have hset := (S4.out.drewN nq).seta (a' := a + (0 + 1)) (by omega)
                  rw [show ((a + (0 + 1) : Nat) : Int) = (a : Int) + 1 by omega] at hset
                  exact .inl ⟨rfl, rfl, hset, (K4.out.then (Kept.drewN _ _ nq)).then (Kept.setCell (S := (· = g)) _ ⟨g, 1, none⟩ rfl _)⟩
            · obtain ⟨j, rfl⟩ : ∃ j, i = j + 1 := ⟨i - 1, by omega⟩
              have hcell := (S4.out.rd.at_ (j := a + j) (by omega))
              obtain ⟨rb', ro', e', hcell⟩ := hcell
              cases e'
              have hd := valb_drop ((l.drop a).take (k + 1)) (i := j) (by rw [List.length_take]; omega)
              rw [show ((l.drop a).take (k + 1)).getD j 0 = l.getD (a + j) 0 by simp [List.getElem?_drop, show j < k + 1 by omega]] at hd
              have hv := valb_lt (((l.drop a).take (k + 1)).drop j)
              have hv9 : 128 ^ (((l.drop a).take (k + 1)).drop j).length ≤ 9223372036854775808 := by
                have : (128 : Nat) ^ 9 = 9223372036854775808 := by decide
                rw [← this]
                exact Nat.pow_le_pow_right (by omega) (by rw [List.length_drop, List.length_take]; omega)
              have HD := Lib.hid hd
              generalize l.getD (a + j) 0 = b2 at hcell hd
              generalize valb (((l.drop a).take (k + 1)).drop (j + 1)) = v at hd ⊢
              have e1 : ((b2 : Int)).tmod 128 = ((b2 % 128 : Nat) : Int) := by rw [Int.tmod_eq_emod_of_nonneg (by omega)]; rfl
              have hm := Nat.mod_lt b2 (show 0 < 128 by omega)
              have ei : ((j + 1 : Nat) : Int) - 1 = (j : Int) := by omega
              rw [ei]
              clear ei
              have w1 : IntKind.i64.wrap ((v : Int) * 128) = (v : Int) * 128 := IntWalk.i64_in _ (by omega)
              have w2 : IntKind.i64.wrap ((v : Int) * 128 + ((b2 % 128 : Nat) : Int)) = (v : Int) * 128 + ((b2 % 128 : Nat) : Int) := IntWalk.i64_in _ (by omega)
              have w3' : IntKind.u8.wrap ((b2 % 128 : Nat) : Int) = ((b2 % 128 : Nat) : Int) := IntWalk.u8_in _ (by omega)
              have w4 : IntKind.i64.wrap ((b2 % 128 : Nat) : Int) = ((b2 % 128 : Nat) : Int) := IntWalk.i64_in _ (by omega)
              have w5 : IntKind.i64.wrap ((a : Int) + (j : Int)) = (a : Int) + (j : Int) := IntWalk.i64_in _ (by omega)
              have HV : Hid (valb (((l.drop a).take (k + 1)).drop j) = v * 128 + b2 % 128) := hd
              clear hd HD hv hv9
              generalize b2 % 128 = r2 at *
              go_wp2_with fail
              go_quiet (fail)
              go_wp2_with fail
              refine ⟨⟨j, by omega, rfl, ?_, S4.out.drewN nq, K4.out.then (Kept.drewN _ _ nq)⟩, by simp [intOf]⟩
              rw [HV.out]
              rfl
      · have hkl' : decide ((k : Int) < (n : Int) - (a : Int)) = false := by rw [decide_eq_false_iff_not]; omega
        have he : lead (l.drop a) = k := led_end HL.out (.inr (.inl (by omega)))
        have HE : Hid (natErr (l.drop a) = 2) := by unfold natErr; rw [if_neg (by omega), if_pos (by omega)]; exact rfl
        clear he
        obtain ⟨-, -, d2, -, ff, -⟩ := HS2.out
        have hkn : ((k : Int) == (n : Int) - (a : Int)) = true := by rw [beq_iff_eq]; omega
        go_wp2_with fail
        go_quiet (first | (go_at_call 57; exact Calls.quiet_of (rleft_any (HS2.out.drewN _))))
        go_wp2_with fail
        refine (rleft_any (HS2.out.drewN nq)).mono ?_
        rintro e w2 ⟨rfl, m2, rfl⟩
        go_wp2_with fail
        go_ret
        rw [HE.out]
        exact .inr ⟨by decide, rfl, (HS2.out.drewN (nq + m2)).setb 2, (HK.out.then (Kept.drewN _ _ (nq + m2))).then (Kept.setCell (S := (· = g)) _ ⟨g, 2, none⟩ rfl _)⟩

/-- The bytes of a row that reads. -/
def Bytey (l : List Nat) : Prop := ∀ b ∈ l, b < 256
theorem Bytey.getD {l : List Nat} (h : Bytey l) (j : Nat) : l.getD j 0 < 256 := by
  by_cases hj : j < l.length
  · have e : l.getD j 0 = l[j] := by simp [hj]
    rw [e]
    exact h _ (List.getElem_mem hj)
  · have e : l.getD j 0 = 0 := by simp [Nat.le_of_not_lt hj]
    rw [e]; omega
/-- The word of the first i bytes. -/
def wordn (r : List Nat) (i : Nat) : Nat := (r.take i).foldl (fun w b => w * 256 + b) 0
theorem wordn_step {r : List Nat} {i : Nat} (h : i < r.length) : wordn r (i + 1) = wordn r i * 256 + r.getD i 0 := by
  unfold wordn
  rw [List.take_add_one, List.foldl_append]
  simp [h]
theorem wordn_lt {r : List Nat} (hb : Bytey r) (i : Nat) (h : i ≤ r.length) : wordn r i < 256 ^ i := by
  induction i with
  | zero => simp [wordn]
  | succ i ih =>
    rw [wordn_step (by omega), Nat.pow_succ]
    have := ih (by omega)
    have := hb.getD i
    omega
theorem or_byte (v b : Nat) (hv : v < 72057594037927936) (hb : b < 256) : bits BinOp.or IntKind.u64 ((v : Int) * 256) (b : Int) = ((v * 256 + b : Nat) : Int) := by
  rw [show (v : Int) * 256 = ((v * 256 : Nat) : Int) by omega]
  rw [bits_or_u64_nat _ _ (by omega) (by omega)]
  congr 1
  rw [Nat.mul_comm]
  exact (Nat.two_pow_add_eq_or_of_lt (i := 8) hb v).symm

set_option maxRecDepth 100000 in
set_option maxHeartbeats 4000000 in
theorem rrword_any {w : World} {g : Nat} {A : Option Addr} {n c : Nat} {l : List Nat} {a : Nat} (h : RS w g A n c l a 0) (hby : Bytey l) :
    Calls Tryz.prog 146 #[.pointer (some ⟨g, 0, none⟩)] w (Took g A n c l a (if n - a < 8 then 2 else 0) 8 (.int .u64 0) (.int .u64 (wordn (l.drop a) 8 : Int)) w) := by
  have HS2 := Lib.hid h
  obtain ⟨c0, c1, d2, ff1, ff2, hrd, hle, -, hsm, -⟩ := h
  have hln := hrd.1
  clear hrd
  by_cases h8 : n - a < 8
  · rw [if_pos h8]
    have h8' : (n : Int) - (a : Int) < 8 := by omega
    go_enter Tryz.func146, Tryz.ntmps146
    go_wp2_with fail
    refine (rleft_any HS2.out).mono ?_
    rintro e w2 ⟨rfl, m2, rfl⟩
    go_wp2_with fail
    go_ret
    exact .inr ⟨by decide, rfl, (HS2.out.drewN m2).setb 2, (Kept.drewN _ _ m2).then (Kept.setCell (S := (· = g)) _ ⟨g, 2, none⟩ rfl _)⟩
  · rw [if_neg h8]
    have h8' : ¬ (n : Int) - (a : Int) < 8 := by omega
    have hlen : (l.drop a).length = n - a := by rw [List.length_drop, hln]
    have hbd : Bytey (l.drop a) := fun b hb => hby b (List.mem_of_mem_drop hb)
    go_enter Tryz.func146, Tryz.ntmps146
    go_wp2_with fail
    refine (rleft_any HS2.out).mono ?_
    rintro e w2 ⟨rfl, m2, rfl⟩
    go_wp2_with fail
    go_loopw [3, 4] (fun vv ii wr => ∃ i : Nat, i ≤ 8 ∧ ii = .int .i64 (i : Int) ∧ vv = .int .u64 (wordn (l.drop a) i : Int) ∧ RS wr g A n c l a 0 ∧ Kept (· = g) w wr) (fun _ ii _ => 8 - (intOf ii).toNat)
    case atStart => exact ⟨0, by omega, rfl, rfl, HS2.out.drewN m2, Kept.drewN _ _ m2⟩
    case round =>
      obtain ⟨i, hi, rfl, rfl, hS3, hK3⟩ := hrel
      have S3 := Lib.hid hS3
      have K3 := Lib.hid hK3
      have e0 := hS3.c0
      have e1 := hS3.c1
      have eff := hS3.f1
      clear hS3 hK3 c0 c1 d2 ff1 ff2 HS2
      by_cases hi8 : i < 8
      · have hi8' : (i : Int) < 8 := by omega
        obtain ⟨rb, ro, rfl, hcell⟩ := S3.out.rd.at_ (j := a + i) (by omega)
        have HW : Hid (wordn (l.drop a) (i + 1) = wordn (l.drop a) i * 256 + l.getD (a + i) 0) := by
          have e := wordn_step (r := l.drop a) (i := i) (by omega)
          rw [show (l.drop a).getD i 0 = l.getD (a + i) 0 by simp [List.getElem?_drop]] at e
          exact e
        have hv : wordn (l.drop a) i < 72057594037927936 := by
          have h1 := wordn_lt hbd i (by omega)
          have h2 : 256 ^ i ≤ 256 ^ 7 := Nat.pow_le_pow_right (by omega) (by omega)
          have h3 : (256 : Nat) ^ 7 = 72057594037927936 := by decide
          omega
        have hb := hby.getD (a + i)
        generalize l.getD (a + i) 0 = b at hcell HW hb
        generalize hvv : wordn (l.drop a) i = v at HW hv ⊢
        clear hvv
        have hor := or_byte v b hv hb
        have w5 : IntKind.i64.wrap ((a : Int) + (i : Int)) = (a : Int) + (i : Int) := IntWalk.i64_in _ (by omega)
        go_wp2_with fail
        go_quiet (fail)
        go_wp2_with fail
        refine ⟨⟨i + 1, by omega, rfl, ?_, S3.out.drewN nq, K3.out.then (Kept.drewN _ _ nq)⟩, by simp [intOf]; omega⟩
        rw [HW.out]
        rfl
      · obtain rfl : i = 8 := by omega
        have w5 : IntKind.i64.wrap ((a : Int) + 8) = (a : Int) + 8 := IntWalk.i64_in _ (by omega)
        go_wp2_with fail
        go_ret
        have hset := S3.out.seta (a' := a + 8) (by omega)
        exact .inl ⟨rfl, rfl, hset, K3.out.then (Kept.setCell (S := (· = g)) _ ⟨g, 1, none⟩ rfl _)⟩

/-- One method behind another: what came of the first. -/
theorem took_cases {g : Nat} {A : Option Addr} {n c : Nat} {l : List Nat} {a : Nat} {err : Int} {t : Nat} {z v : Value} {w : World} {e : Ending} {w' : World} (h : Took g A n c l a err t z v w e w') :
    (err = 0 ∧ e = .returned v ∧ RS w' g A n c l (a + t) 0 ∧ Kept (· = g) w w') ∨ (¬ err = 0 ∧ e = .returned z ∧ RS w' g A n c l a err ∧ Kept (· = g) w w') := h

def wordErr (r : List Nat) : Int := if r.length < 8 then 2 else 0
set_option maxRecDepth 100000 in
theorem rintr_any {w : World} {g : Nat} {A : Option Addr} {n c : Nat} {l : List Nat} {a : Nat} (h : RS w g A n c l a 0) (hby : Bytey l) :
    Calls Tryz.prog 128 #[.pointer (some ⟨g, 0, none⟩)] w (Took g A n c l a (wordErr (l.drop a)) 8 (.int .i64 0) (.int .i64 (wrap64 (wordn (l.drop a) 8 : Int))) w) := by
  have hq : wordErr (l.drop a) = if n - a < 8 then 2 else 0 := by unfold wordErr; rw [List.length_drop, h.rd.1]
  rw [hq]
  have HC := Lib.hid (rrword_any h hby)
  generalize (if n - a < 8 then (2 : Int) else 0) = err at HC ⊢
  generalize wordn (l.drop a) 8 = v at HC ⊢
  clear hq h
  go_enter Tryz.func128, Tryz.ntmps128
  go_wp2_with fail
  refine HC.out.mono ?_
  intro e w1 hT
  rcases took_cases hT with ⟨h0, rfl, hS, hK⟩ | ⟨h0, rfl, hS, hK⟩
  · have H := Lib.hid (And.intro h0 (And.intro hS hK))
    clear h0 hS hK hT HC
    go_wp2_with fail
    go_ret
    exact .inl ⟨H.out.1, rfl, H.out.2.1, H.out.2.2⟩
  · have H := Lib.hid (And.intro h0 (And.intro hS hK))
    clear h0 hS hK hT HC
    go_wp2_with fail
    go_ret
    exact .inr ⟨H.out.1, rfl, H.out.2.1, H.out.2.2⟩

def fltErr (r : List Nat) : Int := if r.length < 8 then 2 else if Fl.told (wordn r 8) then 0 else 3
set_option maxRecDepth 100000 in
theorem rfltr_any {w : World} {g : Nat} {A : Option Addr} {n c : Nat} {l : List Nat} {a : Nat} (h : RS w g A n c l a 0) (hby : Bytey l) :
    Calls Tryz.prog 129 #[.pointer (some ⟨g, 0, none⟩)] w (Took g A n c l a (fltErr (l.drop a)) 8 (.float .f64 0) (.float .f64 (wordn (l.drop a) 8)) w) := by
  have hq : fltErr (l.drop a) = if n - a < 8 then 2 else if Fl.told (wordn (l.drop a) 8) then 0 else 3 := by unfold fltErr; rw [List.length_drop, h.rd.1]
  rw [hq]
  have HC := Lib.hid (rrword_any h hby)
  have hsm := h.small
  have hle := h.le
  generalize wordn (l.drop a) 8 = v at HC ⊢
  clear hq h
  by_cases h8 : n - a < 8
  · rw [if_pos h8] at HC ⊢
    go_enter Tryz.func129, Tryz.ntmps129
    go_wp2_with fail
    refine HC.out.mono ?_
    intro e w1 hT
    rcases took_cases hT with ⟨h0, rfl, hS, hK⟩ | ⟨h0, rfl, hS, hK⟩
    · cases h0
    · have H := Lib.hid (And.intro h0 (And.intro hS hK))
      have d2 := hS.c2
      clear h0 hS hK hT HC
      go_wp2_with fail
      go_ret
      exact .inr ⟨H.out.1, rfl, H.out.2.1, H.out.2.2⟩
  · rw [if_neg h8] at HC ⊢
    have HO := Lib.hid (rof_any v)
    cases ht : Fl.told v
    · rw [ht] at HO
      simp only [Bool.false_eq_true, if_false] at HO ⊢
      go_enter Tryz.func129, Tryz.ntmps129
      go_wp2_with fail
      refine HC.out.mono ?_
      intro e w1 hT
      rcases took_cases hT with ⟨h0, rfl, hS, hK⟩ | ⟨h0, rfl, hS, hK⟩
      · have H := Lib.hid (And.intro hS hK)
        obtain ⟨-, d1, d2, f1, f2, -⟩ := hS
        clear h0 hK hT HC
        have w5 : IntKind.i64.wrap (((a + 8 : Nat) : Int) - 8) = (a : Int) := by rw [IntWalk.i64_in _ (by omega)]; omega
        go_wp2_with fail
        refine (HO.out _).mono ?_
        rintro e w2 ⟨rfl, rfl⟩
        go_wp2_with fail
        go_ret
        exact .inr ⟨by decide, rfl, (H.out.1.seta (a' := a) hle).setb 3, (H.out.2.then (Kept.setCell (S := (· = g)) _ ⟨g, 1, none⟩ rfl _)).then (Kept.setCell (S := (· = g)) _ ⟨g, 2, none⟩ rfl _)⟩
      · exact absurd rfl h0
    · rw [ht] at HO
      simp only [if_true] at HO ⊢
      go_enter Tryz.func129, Tryz.ntmps129
      go_wp2_with fail
      refine HC.out.mono ?_
      intro e w1 hT
      rcases took_cases hT with ⟨h0, rfl, hS, hK⟩ | ⟨h0, rfl, hS, hK⟩
      · have H := Lib.hid (And.intro hS hK)
        obtain ⟨-, d1, d2, f1, f2, -⟩ := hS
        clear h0 hK hT HC
        go_wp2_with fail
        refine (HO.out _).mono ?_
        rintro e w2 ⟨rfl, rfl⟩
        go_wp2_with fail
        go_ret
        exact .inl ⟨rfl, rfl, H.out.1, H.out.2⟩
      · exact absurd rfl h0

def textErr (r : List Nat) (most : Int) : Int :=
  if natErr r = 0 then (if max most 0 < (natVal r : Int) then 3 else if r.length - natTaken r < natVal r then 2 else 0) else natErr r
def textTaken (r : List Nat) : Nat := natTaken r + natVal r
/-- A text of such bytes. -/
def tstr (l : List Nat) : ByteArray := strOfNums (l.map (fun b : Nat => (b : Int)))
def textVal (r : List Nat) : ByteArray := tstr ((r.drop (natTaken r)).take (natVal r))

/-- 'string(b[s:s+v])'. -/
theorem conv_rd {W : World} {rb ro n c : Nat} {l : List Nat} (h : Rd W (some ⟨rb, ro, none⟩) n c l) {s v : Nat} (hs : s + v ≤ n) (hc : n ≤ c) :
    (convert 23 9 (.slice (if c = s then some ⟨rb, ro, none⟩ else some ⟨rb, ro + s, none⟩) (s + v - s) (c - s))).run Tryz.prog W = .ok (.string (tstr ((l.drop s).take v))) W := by
  rw [show s + v - s = v by omega]
  have hl := h.1
  by_cases e : c = s
  · have hv : v = 0 := by omega
    subst hv
    rw [if_pos e]
    exact run_convert_bytes_arg W 23 5 Tryz.underlying23 Tryz.underlying5 rb ro 0 _ [] rfl (fun i hi => by omega) 9 Tryz.underlying9
  · rw [if_neg e]
    refine run_convert_bytes_arg W 23 5 Tryz.underlying23 Tryz.underlying5 rb (ro + s) v _ (((l.drop s).take v).map (fun b : Nat => (b : Int))) ?_ (fun i hi => ?_) 9 Tryz.underlying9
    · rw [List.length_map, List.length_take, List.length_drop]; omega
    · obtain ⟨rb', ro', e', hcell⟩ := h.at_ (j := s + i) (by omega)
      cases e'
      rw [Nat.add_assoc, hcell]
      have hi2 : s + i < l.length := by omega
      simp [List.getElem?_drop, hi, hi2]

set_option maxRecDepth 100000 in
set_option maxHeartbeats 4000000 in
theorem rtextr_any {w : World} {g : Nat} {A : Option Addr} {n c : Nat} {l : List Nat} {a : Nat} (most : Int) (h : RS w g A n c l a 0) :
    Calls Tryz.prog 127 #[.pointer (some ⟨g, 0, none⟩), .int .i64 most] w (Took g A n c l a (textErr (l.drop a) most) (textTaken (l.drop a)) (.string ⟨#[]⟩) (.string (textVal (l.drop a))) w) := by
  have HC := Lib.hid (rnatr_any h)
  have hle := h.le
  have hsm := h.small
  have hln := h.rd.1
  have c1 := h.c1
  have hlen : (l.drop a).length = n - a := by rw [List.length_drop, hln]
  have hq : textErr (l.drop a) most = if natErr (l.drop a) = 0 then (if max most 0 < (natVal (l.drop a) : Int) then 3 else if n - a - natTaken (l.drop a) < natVal (l.drop a) then 2 else 0) else natErr (l.drop a) := by unfold textErr; rw [hlen]
  have ht : textTaken (l.drop a) = natTaken (l.drop a) + natVal (l.drop a) := rfl
  have hx : textVal (l.drop a) = tstr ((l.drop (a + natTaken (l.drop a))).take (natVal (l.drop a))) := by unfold textVal; rw [List.drop_drop]
  rw [hq, ht, hx]
  clear hq ht hx h hlen
  generalize natErr (l.drop a) = err at HC ⊢
  generalize natVal (l.drop a) = v at HC ⊢
  have htk : 1 ≤ natTaken (l.drop a) := by unfold natTaken; omega
  generalize natTaken (l.drop a) = tk at HC htk ⊢
  obtain ⟨M, hM, hmx⟩ : ∃ M : Int, max most 0 = M ∧ (if most < 0 then 0 else most) = M := ⟨_, rfl, by split <;> omega⟩
  rw [hM]
  clear hM
  by_cases he : err = 0
  · subst he
    rw [if_pos rfl]
    by_cases hm : M < (v : Int)
    · rw [if_pos hm]
      go_enter Tryz.func127, Tryz.ntmps127
      go_wp2_with fail
      refine HC.out.mono ?_
      intro e w1 hT
      rcases took_cases hT with ⟨h0, rfl, hS, hK⟩ | ⟨h0, rfl, hS, hK⟩
      · have H := Lib.hid (And.intro hS hK)
        obtain ⟨-, d1, d2, f1, f2, -⟩ := hS
        clear h0 hK hT HC
        go_wp2_with fail
        go_ret
        exact .inr ⟨by decide, rfl, (H.out.1.setb 3).seta (a' := a) hle, (H.out.2.then (Kept.setCell (S := (· = g)) _ ⟨g, 2, none⟩ rfl _)).then (Kept.setCell (S := (· = g)) _ ⟨g, 1, none⟩ rfl _)⟩
      · exact absurd rfl h0
    · rw [if_neg hm]
      by_cases hl : n - a - tk < v
      · rw [if_pos hl]
        go_enter Tryz.func127, Tryz.ntmps127
        go_wp2_with fail
        refine HC.out.mono ?_
        intro e w1 hT
        rcases took_cases hT with ⟨h0, rfl, hS, hK⟩ | ⟨h0, rfl, hS, hK⟩
        · have H := Lib.hid (And.intro hS hK)
          obtain ⟨-, d1, d2, f1, f2, -, le2, -⟩ := hS
          clear h0 hK hT HC
          have hl' : (n : Int) - ((a + tk : Nat) : Int) < (v : Int) := by omega
          go_wp2_with fail
          refine (rleft_any H.out.1).mono ?_
          rintro e w2 ⟨rfl, m2, rfl⟩
          go_wp2_with fail
          go_ret
          exact .inr ⟨by decide, rfl, ((H.out.1.drewN m2).setb 2).seta (a' := a) hle, ((H.out.2.then (Kept.drewN _ _ m2)).then (Kept.setCell (S := (· = g)) _ ⟨g, 2, none⟩ rfl _)).then (Kept.setCell (S := (· = g)) _ ⟨g, 1, none⟩ rfl _)⟩
        · exact absurd rfl h0
      · rw [if_neg hl]
        go_enter Tryz.func127, Tryz.ntmps127
        go_wp2_with fail
        refine HC.out.mono ?_
        intro e w1 hT
        rcases took_cases hT with ⟨h0, rfl, hS, hK⟩ | ⟨h0, rfl, hS, hK⟩
        · have H := Lib.hid (And.intro hS hK)
          have hcap := hS.cap
          obtain ⟨d0, d1, d2, f1, f2, -, le2, -⟩ := hS
          clear h0 hK hT HC
          have hl' : ¬ (n : Int) - ((a + tk : Nat) : Int) < (v : Int) := by omega
          go_wp2_with fail
          refine (rleft_any H.out.1).mono ?_
          rintro e w2 ⟨rfl, m2, rfl⟩
          go_upto_region 12 with fail
          have S3 := Lib.hid (H.out.1.drewN m2)
          have K3 := Lib.hid (H.out.2.then (Kept.drewN _ _ m2))
          generalize w1.drewN m2 = W at S3 K3 ⊢
          clear H d0 d1 d2 f1 f2
          obtain ⟨rb, ro, rfl, -⟩ := S3.out.rd.at_ (j := 0) (by omega)
          obtain ⟨d0, d1, d2, f1, f2, -, -⟩ := S3.out
          have w5 : IntKind.i64.wrap (((a + tk : Nat) : Int) + (v : Int)) = ((a + tk : Nat) : Int) + (v : Int) := IntWalk.i64_in _ (by omega)
          refine wp_region_quiet_lit (by kernel_rfl) (by kernel_rfl) ?_
          repeat (go_big_quiet_step (fail))
          have hconv := fun q => conv_rd (W := W.drewN q) S3.out.rd (s := a + tk) (v := v) (by omega) hcap
          generalize Value.slice (if c = a + tk then some ⟨rb, ro, none⟩ else some ⟨rb, ro + (a + tk), none⟩) (a + tk + v - (a + tk)) (c - (a + tk)) = sl at hconv ⊢
          repeat (go_big_quiet_step (fail))
          refine wpQuiet_nil ?_
          rintro _ ⟨nq, rfl⟩
          clear hconv
          go_wp2_with fail
          go_ret
          have hset := (S3.out.drewN nq).seta (a' := a + (tk + v)) (by omega)
          rw [show ((a + (tk + v) : Nat) : Int) = (a : Int) + (tk : Int) + (v : Int) by omega] at hset
          exact .inl ⟨rfl, rfl, hset, (K3.out.then (Kept.drewN _ _ nq)).then (Kept.setCell (S := (· = g)) _ ⟨g, 1, none⟩ rfl _)⟩
        · exact absurd rfl h0
  · rw [if_neg he]
    go_enter Tryz.func127, Tryz.ntmps127
    go_wp2_with fail
    refine HC.out.mono ?_
    intro e w1 hT
    rcases took_cases hT with ⟨h0, rfl, hS, hK⟩ | ⟨h0, rfl, hS, hK⟩
    · exact absurd h0 he
    · have H := Lib.hid (And.intro h0 (And.intro hS hK))
      have d2 := hS.c2
      have he' : (err != 0) = true := by simpa using he
      clear h0 hS hK hT HC
      go_wp2_with fail
      go_ret
      exact .inr ⟨H.out.1, rfl, H.out.2.1, H.out.2.2⟩
end Go.Proofs.YtgenmebmdpnjhaaGreat
