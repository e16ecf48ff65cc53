
/- Package tree: what it asks of a row of parents: Right, has, parent, step, links, far. -/
import Derived.Test.YtmibjmceghikdaaTreeRow
namespace Go.Proofs.Ytmibjmceghikdaa
open Go.RowKit
set_option linter.unusedVariables false

theorem ret_b {e : Ending} {a b : Bool} (h : a = b) (he : e = .returned (.bool a)) : e = .returned (.bool b) := by rw [he, h]
set_option maxRecDepth 100000 in
set_option maxHeartbeats 4000000 in
theorem right_any {A : Option Addr} {n c : Nat} {l : List Int} {w : World} (h : Ri w A n l) (hn : n ≤ 1000) :
    Calls Try.prog 14 #[.slice A n c] w fun e w' => e = .returned (.bool (Tr.right l)) ∧ w = w' := by
  obtain rfl := h.1.symm
  have HA := Lib.hid h
  clear h
  by_cases h7 : 7 < l.length
  · have h7' : (l.length : Int) > 7 := by omega
    go_enter Try.func14, Try.ntmps14
    go_wp2_with fail
    go_ret
    exact ⟨by rw [show Tr.right l = false by unfold Tr.right; simp; omega]; rfl, rfl⟩
  have h7' : ¬ (l.length : Int) > 7 := by omega
  have HT : Hid (Tr.right l = Tr.okFrom 0 l) := Lib.hid (by unfold Tr.right; rw [decide_eq_true (by omega)]; rfl)
  go_enter Try.func14, Try.ntmps14
  go_wp2_with fail
  clear h7'
  go_loopw [10] (fun ii wr => ∃ k : Nat, k ≤ l.length ∧ ii = .int .i64 (k : Int) ∧ Tr.okFrom 0 l = Tr.okFrom k (l.drop k) ∧ w = wr) (fun ii _ => l.length - (intOf ii).toNat)
  case atStart => exact ⟨0, by omega, rfl, rfl, rfl⟩
  case round =>
    obtain ⟨k, hk, rfl, hl, rfl⟩ := hrel
    have HL := Lib.hid hl
    clear hl
    by_cases hlt : k < l.length
    · obtain ⟨rb, ro, u, rfl, hu, hc⟩ := HA.out.at_ hlt
      have HU := Lib.hid (Tr.okFrom_drop hu)
      clear hu
      by_cases h0 : u < 0
      · go_wp2_with fail
        go_ret
        exact ⟨by rw [HT.out, HL.out, HU.out, decide_eq_false (by omega)]; rfl, rfl⟩
      · by_cases h1 : (k : Int) < u
        · go_wp2_with fail
          go_ret
          exact ⟨by rw [HT.out, HL.out, HU.out, decide_eq_false (p := u ≤ (k : Int)) (by omega), Bool.and_false]; rfl, rfl⟩
        · go_wp2_with fail
          exact ⟨⟨k + 1, by omega, rfl, by rw [HL.out, HU.out, decide_eq_true (by omega), decide_eq_true (by omega)]; rfl, trivial⟩, by simp [intOf]; omega⟩
    · go_wp2_with fail
      go_ret
      exact ⟨by rw [HT.out, HL.out, List.drop_eq_nil_of_le (by omega)]; rfl, rfl⟩
set_option maxRecDepth 100000 in
set_option maxHeartbeats 4000000 in
theorem has_any {A B : Option Addr} {n c m d : Nat} {l q : List Int} {w : World} (h : Ri w A n l) (hq : Ri w B m q) (hn : n ≤ 1000) (hm : m ≤ 1000) :
    Calls Try.prog 29 #[.slice A n c, .slice B m d] w fun e w' => e = .returned (.bool (Tr.has l q)) ∧ w = w' := by
  obtain rfl := h.1.symm
  obtain rfl := hq.1.symm
  have HA := Lib.hid h
  have HB := Lib.hid hq
  clear h hq
  cases hr : Tr.right l
  · have HR := Lib.hid hr
    clear hr
    go_enter Try.func29, Try.ntmps29
    go_wp2_with fail
    refine (right_any HA.out (by omega)).mono ?_
    rintro e w' ⟨rfl, rfl⟩
    rw [HR.out]
    go_wp2_with fail
    go_ret
    exact ⟨by rw [show Tr.has l q = false by unfold Tr.has; rw [HR.out]; rfl]; rfl, rfl⟩
  have HR := Lib.hid hr
  have HT : Hid (Tr.has l q = q.all (fun b => decide (0 ≤ b) && decide (b ≤ (l.length : Int)))) := Lib.hid (by unfold Tr.has; rw [hr, Bool.true_and])
  clear hr
  go_enter Try.func29, Try.ntmps29
  go_wp2_with fail
  refine (right_any HA.out (by omega)).mono ?_
  rintro e w' ⟨rfl, rfl⟩
  rw [HR.out]
  go_wp2_with fail
  go_loopw [12] (fun ii wr => ∃ k : Nat, k ≤ q.length ∧ ii = .int .i64 (k : Int) ∧ Tr.has l q = (q.drop k).all (fun b => decide (0 ≤ b) && decide (b ≤ (l.length : Int))) ∧ w = wr) (fun ii _ => q.length - (intOf ii).toNat)
  case atStart => exact ⟨0, by omega, rfl, HT.out, rfl⟩
  case round =>
    obtain ⟨k, hk, rfl, hl, rfl⟩ := hrel
    have HL := Lib.hid hl
    clear hl
    by_cases hlt : k < q.length
    · obtain ⟨rb, ro, u, rfl, hu, hc⟩ := HB.out.at_ hlt
      have HU := Lib.hid hu
      clear hu
      by_cases h0 : u < 0
      · go_wp2_with fail
        go_ret
        exact ⟨by rw [Tr.has_bad (l := l) HU.out (by omega)]; rfl, rfl⟩
      · by_cases h1 : (l.length : Int) < u
        · go_wp2_with fail
          go_ret
          exact ⟨by rw [Tr.has_bad (l := l) HU.out (by omega)]; rfl, rfl⟩
        · have HD : Hid ((q.drop k).all (fun b => decide (0 ≤ b) && decide (b ≤ (l.length : Int))) = (q.drop (k + 1)).all (fun b => decide (0 ≤ b) && decide (b ≤ (l.length : Int)))) := Lib.hid (by
            obtain ⟨hk2, he⟩ := List.getElem?_eq_some_iff.1 HU.out
            rw [List.drop_eq_getElem_cons hk2, he, List.all_cons, decide_eq_true (by omega), decide_eq_true (by omega)]; rfl)
          go_wp2_with fail
          exact ⟨⟨k + 1, by omega, rfl, by rw [HL.out, HD.out], trivial⟩, by simp [intOf]; omega⟩
    · go_wp2_with fail
      go_ret
      exact ⟨by rw [HL.out, List.drop_eq_nil_of_le (by omega)]; rfl, rfl⟩

theorem parent_any {A : Option Addr} {n c : Nat} {l : List Int} {w : World} (h : Ri w A n l) (hn : n ≤ 1000) (hr : Tr.right l = true) (b : Nat) (hb : 0 < b) (hb2 : b ≤ n) :
    Calls Try.prog 30 #[.slice A n c, .int .i64 (b : Int)] w fun e w' => e = .returned (.int .i64 (Tr.par l b : Int)) ∧ w = w' := by
  obtain rfl := h.1.symm
  obtain ⟨x, rfl⟩ : ∃ x, b = x + 1 := ⟨b - 1, by omega⟩
  obtain ⟨rb, ro, u, rfl, hu, hc⟩ := h.at_ (j := x) (by omega)
  have e : u = (Tr.par l (x + 1) : Int) := by
    have := (Tr.right_par hr hb hb2).1
    rw [show x + 1 - 1 = x by omega, hu] at this
    exact Option.some.inj this
  rw [← e]
  have hw : IntKind.i64.wrap (((x + 1 : Nat) : Int) - 1) = (x : Int) := by rw [IntWalk.i64_in _ (by omega)]; omega
  clear h hr hu e
  go_enter Try.func30, Try.ntmps30
  go_wp2_with fail
  go_ret
  exact ⟨rfl, rfl⟩

set_option maxRecDepth 100000 in
set_option maxHeartbeats 4000000 in
theorem step_any {A : Option Addr} {n c : Nat} {l : List Int} {w : World} (h : Ri w A n l) (hr : Tr.right l = true) (a b : Nat) (ha : a ≤ n) (hb : b ≤ n) (hab : a ≠ b) :
    Calls Try.prog 31 #[.slice A n c, .int .i64 (a : Int), .int .i64 (b : Int)] w fun e w' => e = .returned (.int .i64 (Tr.step l a b : Int)) ∧ w = w' := by
  obtain rfl := h.1.symm
  have h7 := Tr.right_len hr
  have HA := Lib.hid h
  have HR := Lib.hid hr
  clear h hr
  go_enter Try.func31, Try.ntmps31
  go_wp2_with fail
  go_loopw [2] (fun ii wr => ∃ k : Nat, k ≤ l.length ∧ a ≠ k ∧ ii = .int .i64 (k : Int) ∧ Tr.step l a b = Tr.step l a k ∧ w = wr) (fun ii _ => (intOf ii).toNat)
  case atStart => exact ⟨b, by omega, hab, rfl, rfl, rfl⟩
  case round =>
    obtain ⟨k, hk, hak, rfl, hl, rfl⟩ := hrel
    have HL := Lib.hid hl
    clear hl
    by_cases hlt : a < k
    · have hp := Tr.par_lt (l := l) (show 0 < k by omega)
      by_cases he : Tr.par l k = a
      · have HS := Lib.hid (HL.out.trans (Tr.step_kid hlt he))
        have he2 : (Tr.par l k : Int) = (a : Int) := by omega
        go_wp2_with fail
        refine (parent_any HA.out (by omega) HR.out k (by omega) (by omega)).mono ?_
        rintro e w' ⟨rfl, rfl⟩
        go_wp2_with fail
        go_ret
        exact ⟨by rw [HS.out]; rfl, rfl⟩
      · have HS := Lib.hid (HL.out.trans (Tr.step_up hlt he))
        have he2 : ¬ (Tr.par l k : Int) = (a : Int) := by omega
        go_wp2_with fail
        refine (parent_any HA.out (by omega) HR.out k (by omega) (by omega)).mono ?_
        rintro e w' ⟨rfl, rfl⟩
        go_wp2_with fail
        exact ⟨⟨Tr.par l k, by omega, fun e => he e.symm, rfl, HS.out, trivial⟩, by simp [intOf]; omega⟩
    · have HS := Lib.hid (HL.out.trans (Tr.step_le (by omega)))
      go_wp2_with fail
      refine (parent_any HA.out (by omega) HR.out a (by omega) (by omega)).mono ?_
      rintro e w' ⟨rfl, rfl⟩
      go_wp2_with fail
      go_ret
      exact ⟨by rw [HS.out]; rfl, rfl⟩

set_option maxRecDepth 100000 in
set_option maxHeartbeats 4000000 in
theorem links_any {A : Option Addr} {n c : Nat} {l : List Int} {w : World} (h : Ri w A n l) (hr : Tr.right l = true) (a b : Nat) (ha : a ≤ n) (hb : b ≤ n) :
    Calls Try.prog 33 #[.slice A n c, .int .i64 (a : Int), .int .i64 (b : Int)] w fun e w' => e = .returned (.int .i64 (Tr.dist l a b : Int)) ∧ w = w' := by
  obtain rfl := h.1.symm
  have h7 := Tr.right_len hr
  have hd := Tr.dist_le l _ a b (Nat.le_refl _)
  have HA := Lib.hid h
  have HR := Lib.hid hr
  clear h hr
  go_enter Try.func33, Try.ntmps33
  go_wp2_with fail
  go_loopw [1, 2, 7] (fun xa xb xn wr => ∃ x y s : Nat, x ≤ l.length ∧ y ≤ l.length ∧ xa = .int .i64 (x : Int) ∧ xb = .int .i64 (y : Int) ∧ xn = .int .i64 (s : Int) ∧ Tr.dist l a b = Tr.dist l x y + s ∧ w = wr) (fun xa xb _ _ => (intOf xa).toNat + (intOf xb).toNat)
  case atStart => exact ⟨a, b, 0, by omega, by omega, rfl, rfl, rfl, rfl, rfl⟩
  case round =>
    obtain ⟨x, y, s, hx, hy, rfl, rfl, rfl, hl, rfl⟩ := hrel
    rcases Nat.lt_trichotomy x y with h1 | h1 | h1
    · have e := Tr.dist_lt (l := l) h1
      have hp := Tr.par_lt (l := l) (show 0 < y by omega)
      have h2 : ¬ (x : Int) = (y : Int) := by omega
      have hs : s ≤ 7 := by omega
      have HL := Lib.hid hl
      have HE := Lib.hid e
      clear hl e hd
      go_wp2_with fail
      refine (parent_any HA.out (by omega) HR.out y (by omega) (by omega)).mono ?_
      rintro e w' ⟨rfl, rfl⟩
      go_wp2_with fail
      exact ⟨⟨Tr.par l y, x, s + 1, by omega, by omega, rfl, rfl, by simp, by have := HL.out; have := HE.out; omega, trivial⟩, by simp [intOf]; omega⟩
    · subst h1
      rw [Tr.dist_self] at hl
      have hs : s ≤ 7 := by omega
      have HL := Lib.hid hl
      clear hl hd
      go_wp2_with fail
      go_ret
      exact ⟨by rw [HL.out, Nat.zero_add]; rfl, rfl⟩
    · have e := Tr.dist_gt (l := l) h1
      have hp := Tr.par_lt (l := l) (show 0 < x by omega)
      have h2 : ¬ (x : Int) = (y : Int) := by omega
      have hs : s ≤ 7 := by omega
      have HL := Lib.hid hl
      have HE := Lib.hid e
      clear hl e hd
      go_wp2_with fail
      refine (parent_any HA.out (by omega) HR.out x (by omega) (by omega)).mono ?_
      rintro e w' ⟨rfl, rfl⟩
      go_wp2_with fail
      exact ⟨⟨Tr.par l x, y, s + 1, by omega, by omega, rfl, rfl, by simp, by have := HL.out; have := HE.out; omega, trivial⟩, by simp [intOf]; omega⟩

set_option maxRecDepth 100000 in
set_option maxHeartbeats 4000000 in
theorem far_any {A B : Option Addr} {n c m d : Nat} {l q : List Int} {w : World} (h : Ri w A n l) (hq : Ri w B m q) (hm : m ≤ 1000) (hh : Tr.has l q = true) (b : Nat) (hb : b ≤ n) :
    Calls Try.prog 32 #[.slice A n c, .int .i64 (b : Int), .slice B m d] w fun e w' => e = .returned (.int .i64 (Tr.far l b q : Int)) ∧ w = w' := by
  obtain rfl := h.1.symm
  obtain rfl := hq.1.symm
  have hr := Tr.has_right hh
  have h7 := Tr.right_len hr
  have HA := Lib.hid h
  have HB := Lib.hid hq
  have HR := Lib.hid hr
  have HH := Lib.hid hh
  clear h hq hr hh
  go_enter Try.func32, Try.ntmps32
  go_wp2_with fail
  go_loopw [7, 12] (fun xs ii wr => ∃ k s : Nat, k ≤ q.length ∧ ii = .int .i64 (k : Int) ∧ xs = .int .i64 (s : Int) ∧ s ≤ 7 * k ∧ Tr.far l b q = s + Tr.far l b (q.drop k) ∧ w = wr) (fun _ ii _ => q.length - (intOf ii).toNat)
  case atStart => exact ⟨0, 0, by omega, rfl, rfl, by omega, by simp, rfl⟩
  case round =>
    obtain ⟨k, s, hk, rfl, rfl, hs, hl, rfl⟩ := hrel
    have HL := Lib.hid hl
    clear hl
    by_cases hlt : k < q.length
    · obtain ⟨rb, ro, u, rfl, hu, hc⟩ := HB.out.at_ hlt
      have hu2 := Tr.has_get HH.out hu
      obtain ⟨x, rfl⟩ : ∃ x : Nat, u = (x : Int) := ⟨u.toNat, by omega⟩
      have HU := Lib.hid (Tr.far_drop (l := l) (b := b) hu)
      have hd := Tr.dist_le l _ b x (Nat.le_refl _)
      have hd7 : Tr.dist l b x ≤ 7 := by omega
      clear hu hd
      go_wp2_with fail
      refine (links_any HA.out HR.out b x (by omega) (by omega)).mono ?_
      rintro e w' ⟨rfl, rfl⟩
      go_wp2_with fail
      exact ⟨⟨k + 1, s + Tr.dist l b x, by omega, rfl, by simp, by omega, by rw [HL.out, HU.out, Int.toNat_natCast, Nat.add_assoc], trivial⟩, by simp [intOf]; omega⟩
    · go_wp2_with fail
      go_ret
      exact ⟨by rw [HL.out, List.drop_eq_nil_of_le (by omega)]; rfl, rfl⟩
end Go.Proofs.Ytmibjmceghikdaa
