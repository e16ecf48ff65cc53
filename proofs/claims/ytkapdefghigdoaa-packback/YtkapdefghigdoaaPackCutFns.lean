
/- PackCut: its closures, and what it turns on. -/
import Derived.Test.YtkapdefghigdoaaPackKnown
namespace Go.Proofs.Ytkapdefghigdoaa
open Go.RowKit

/-- What one that takes a Nat, an Int and a Text of at most 100 Stops with, and what it leaves. -/
def cutErr (r : List Nat) : Int :=
  if natErr r = 0 then (if wordErr (r.drop (natTaken r)) = 0 then textErr ((r.drop (natTaken r)).drop 8) 100 else wordErr (r.drop (natTaken r))) else natErr r
def cutRest (r : List Nat) : List Nat := ((r.drop (natTaken r)).drop 8).drop (textTaken ((r.drop (natTaken r)).drop 8))

theorem Bytey.drop {l : List Nat} (h : Bytey l) (k : Nat) : Bytey (l.drop k) := fun b hb => h b (List.mem_of_mem_drop hb)
theorem Bytey.take {l : List Nat} (h : Bytey l) (k : Nat) : Bytey (l.take k) := fun b hb => h b (List.mem_of_mem_take hb)
theorem Bytey.append {l r : List Nat} (h : Bytey l) (k : Bytey r) : Bytey (l ++ r) := fun b hb => (List.mem_append.1 hb).elim (h b) (k b)

theorem nat_full {m : Nat} (h : m ≤ 4611686018427387904) (rest : List Nat) : (natb m ++ rest).drop (natTaken (natb m ++ rest)) = rest := by
  rw [(nat_back h rest).2.2, List.drop_left]
theorem eight_full (v : Nat) (rest : List Nat) : wordErr (eightb v ++ rest) = 0 ∧ (eightb v ++ rest).drop 8 = rest := by
  refine ⟨?_, List.drop_left (l₁ := eightb v)⟩
  unfold wordErr
  rw [List.length_append, eightb_len, if_neg (by omega)]

theorem take_over {l r : List Nat} {k : Nat} (h : l.length ≤ k) : (l ++ r).take k = l ++ r.take (k - l.length) := by
  rw [List.take_append, List.take_of_length_le h]
theorem take_under {l r : List Nat} {k : Nat} (h : k < l.length) : (l ++ r).take k = l.take k := by
  rw [List.take_append, show k - l.length = 0 by omega, List.take_zero, List.append_nil]

theorem text_short {s : ByteArray} (hs : s.size ≤ 100) {k : Nat} (hk : k < (natb s.size ++ bytesOf s).length) : textErr ((natb s.size ++ bytesOf s).take k) 100 = 2 := by
  have hl := bytesOf_len s
  unfold textErr
  by_cases h : k < (natb s.size).length
  · rw [take_under h, nat_cut (by omega) h, if_neg (by decide)]
  · rw [take_over (by omega)]
    obtain ⟨h1, h2, h3⟩ := nat_back (m := s.size) (by omega) ((bytesOf s).take (k - (natb s.size).length))
    rw [List.length_append] at hk
    rw [h1, h2, h3, if_pos rfl, if_neg (by omega), if_pos]
    rw [List.length_append, List.length_take]
    omega

theorem cut_short {n v : Nat} (hn : n ≤ 4611686018427387904) {s : ByteArray} (hs : s.size ≤ 100) {k : Nat} (hk : k < (natb n ++ (eightb v ++ (natb s.size ++ bytesOf s))).length) :
    cutErr ((natb n ++ (eightb v ++ (natb s.size ++ bytesOf s))).take k) = 2 := by
  unfold cutErr
  by_cases h : k < (natb n).length
  · rw [take_under h, nat_cut hn h, if_neg (by decide)]
  · rw [take_over (by omega)]
    rw [List.length_append] at hk
    generalize hj : k - (natb n).length = j
    rw [(nat_back hn _).1, if_pos rfl, nat_full hn]
    by_cases h8 : j < 8
    · have e : wordErr ((eightb v ++ (natb s.size ++ bytesOf s)).take j) = 2 := by
        unfold wordErr
        rw [if_pos (by rw [List.length_take]; omega)]
      rw [e, if_neg (by decide)]
    · rw [take_over (by rw [eightb_len]; omega), (eight_full v _).1, (eight_full v _).2, if_pos rfl]
      rw [List.length_append, eightb_len] at hk
      refine text_short hs ?_
      rw [eightb_len]
      omega

theorem cut_more {n v : Nat} (hn : n ≤ 4611686018427387904) {s : ByteArray} (hs : s.size ≤ 100) (rest : List Nat) :
    cutErr (natb n ++ (eightb v ++ (natb s.size ++ bytesOf s)) ++ rest) = 0 ∧ cutRest (natb n ++ (eightb v ++ (natb s.size ++ bytesOf s)) ++ rest) = rest := by
  have e : natb n ++ (eightb v ++ (natb s.size ++ bytesOf s)) ++ rest = natb n ++ (eightb v ++ (natb s.size ++ bytesOf s ++ rest)) := by simp only [List.append_assoc]
  rw [e]
  obtain ⟨t1, t2, t3⟩ := text_back (s := s) (by omega) rest (most := 100) (by omega)
  refine ⟨?_, ?_⟩
  · unfold cutErr
    rw [(nat_back hn _).1, if_pos rfl, nat_full hn, (eight_full v _).1, if_pos rfl, (eight_full v _).2, t1]
  · unfold cutRest
    rw [nat_full hn, (eight_full v _).2, t3]
    have hl := bytesOf_len s
    rw [show (natb s.size).length + s.size = (natb s.size ++ bytesOf s).length by rw [List.length_append, hl], List.drop_left]

theorem text_over : textErr (natb 101) 100 = 3 ∧ textErr (natb 100) 100 = 2 := by
  rw [natb_small (by omega), natb_small (by omega)]
  decide +kernel

set_option maxRecDepth 100000 in
theorem take_fn {w : World} {g : Nat} {A : Option Addr} {n c : Nat} {r : List Nat} (h : PR w g A n c r) (hby : Bytey r) :
    Calls Try.prog 44 #[.pointer (some ⟨g, 0, none⟩)] w fun e w5 =>
      ((cutErr r = 0 ∧ (∃ v, e = .returned v) ∧ LeftIs w5 g (cutRest r)) ∨ (¬ cutErr r = 0 ∧ e = stopped (cutErr r))) ∧ Kept (fun k => k = g) w w5 := by
  have HC := Lib.hid (pnatr_any h)
  have HB := Lib.hid hby
  clear h hby
  go_enter Try.func44, Try.ntmps44
  go_wp2_with fail
  refine HC.out.mono ?_
  rintro e w1 (⟨he, rfl, ⟨A1, n1, c1, h1⟩, hk1⟩ | ⟨he, rfl, hk1⟩)
  · have HD := Lib.hid (pintr_any h1 (HB.out.drop _))
    have K1 := Lib.hid hk1
    have E1 := Lib.hid he
    clear h1 hk1 he HC
    go_wp2_with fail
    refine HD.out.mono ?_
    rintro e w2 (⟨he, rfl, ⟨A2, n2, c2, h2⟩, hk2⟩ | ⟨he, rfl, hk2⟩)
    · have HT := Lib.hid (ptextr_any 100 h2)
      have K2 := Lib.hid (K1.out.then hk2)
      have E2 := Lib.hid he
      clear h2 hk2 he HD K1
      go_wp2_with fail
      refine HT.out.mono ?_
      rintro e w3 (⟨he, rfl, ⟨A3, n3, c3, h3⟩, hk3⟩ | ⟨he, rfl, hk3⟩)
      · have K3 := Lib.hid (And.intro h3.left (K2.out.then hk3))
        have E3 := Lib.hid he
        clear h3 hk3 he HT K2
        go_wp2_with fail
        go_end0
        refine ⟨.inl ⟨?_, ⟨_, rfl⟩, K3.out.1⟩, K3.out.2⟩
        unfold cutErr
        rw [if_pos E1.out, if_pos E2.out, E3.out]
      · have e : cutErr r = textErr ((r.drop (natTaken r)).drop 8) 100 := by
          unfold cutErr
          rw [if_pos E1.out, if_pos E2.out]
        refine ⟨rfl, .inr ⟨by rw [e]; exact he, by rw [e]⟩, K2.out.then hk3⟩
    · have e : cutErr r = wordErr (r.drop (natTaken r)) := by
        unfold cutErr
        rw [if_pos E1.out, if_neg he]
      refine ⟨rfl, .inr ⟨by rw [e]; exact he, by rw [e]⟩, K1.out.then hk2⟩
  · have e : cutErr r = natErr r := by
      unfold cutErr
      rw [if_neg he]
    refine ⟨rfl, .inr ⟨by rw [e]; exact he, by rw [e]⟩, hk1⟩

theorem take_read {w : World} {A : Option Addr} {n c : Nat} {l : List Nat} (hr : Rd w A n c l) (hc : n ≤ c) (hn : n ≤ 4611686018427387904) (h0 : ∀ ad, A = some ad → ad.block < w.heap.size) (hby : Bytey l) :
    Calls Try.prog 8 #[.slice A n c, .func (.func 44) #[] #[]] w fun e w' => e = .returned (.int .i64 (readAns (cutErr l) (cutRest l))) ∧ Below w.heap.size w w' := by
  refine (read_of 44 #[] hr hc hn h0 (cutErr l) (cutRest l) (fun k => k = w.heap.size + 1) (fun _ => True) (fun w => by kernel_rfl) (fun k h1 h2 => h2) ?_).mono ?_
  · intro w4 hb hs hpr
    refine (take_fn hpr hby).mono ?_
    rintro e w5 ⟨h1, h2⟩
    exact ⟨h1, h2, trivial⟩
  · rintro e w' ⟨rfl, w5, hq, hk, hk2⟩
    exact ⟨rfl, hk2.below (Nat.le_refl _) (fun k hk e => by omega)⟩

theorem over_read {w : World} {A : Option Addr} {n c : Nat} {l : List Nat} (hr : Rd w A n c l) (hc : n ≤ c) (hn : n ≤ 4611686018427387904) (h0 : ∀ ad, A = some ad → ad.block < w.heap.size) (err : Int) (he : textErr l 100 = err) (hne : ¬ err = 0) :
    Calls Try.prog 8 #[.slice A n c, .func (.func 45) #[] #[]] w fun e w' => e = .returned (.int .i64 err) ∧ Below w.heap.size w w' := by
  refine (read_of 45 #[] hr hc hn h0 err [] (fun k => k = w.heap.size + 1) (fun _ => True) (fun w => by kernel_rfl) (fun k h1 h2 => h2) ?_).mono ?_
  · intro w4 hb hs hpr
    show Calls Try.prog 45 #[.pointer (some ⟨w.heap.size + 1, 0, none⟩)] w4 _
    have HT := Lib.hid (ptextr_any 100 hpr)
    have HE := Lib.hid he
    have HN := Lib.hid hne
    clear hpr hr he hne hs
    go_enter Try.func45, Try.ntmps45
    go_wp2_with fail
    refine HT.out.mono ?_
    rintro e w3 (⟨he, -⟩ | ⟨he, rfl, hk3⟩)
    · exact absurd (HE.out.symm.trans he) HN.out
    · exact ⟨rfl, .inr ⟨HN.out, by rw [HE.out]⟩, hk3, trivial⟩
  · rintro e w' ⟨rfl, w5, hq, hk, hk2⟩
    exact ⟨by unfold readAns; rw [if_neg hne], hk2.below (Nat.le_refl _) (fun k hk e => by omega)⟩
theorem over_read2 {w : World} {A : Option Addr} {n c : Nat} {l : List Nat} (hr : Rd w A n c l) (hc : n ≤ c) (hn : n ≤ 4611686018427387904) (h0 : ∀ ad, A = some ad → ad.block < w.heap.size) (err : Int) (he : textErr l 100 = err) (hne : ¬ err = 0) :
    Calls Try.prog 8 #[.slice A n c, .func (.func 46) #[] #[]] w fun e w' => e = .returned (.int .i64 err) ∧ Below w.heap.size w w' := by
  refine (read_of 46 #[] hr hc hn h0 err [] (fun k => k = w.heap.size + 1) (fun _ => True) (fun w => by kernel_rfl) (fun k h1 h2 => h2) ?_).mono ?_
  · intro w4 hb hs hpr
    show Calls Try.prog 46 #[.pointer (some ⟨w.heap.size + 1, 0, none⟩)] w4 _
    have HT := Lib.hid (ptextr_any 100 hpr)
    have HE := Lib.hid he
    have HN := Lib.hid hne
    clear hpr hr he hne hs
    go_enter Try.func46, Try.ntmps46
    go_wp2_with fail
    refine HT.out.mono ?_
    rintro e w3 (⟨he, -⟩ | ⟨he, rfl, hk3⟩)
    · exact absurd (HE.out.symm.trans he) HN.out
    · exact ⟨rfl, .inr ⟨HN.out, by rw [HE.out]⟩, hk3, trivial⟩
  · rintro e w' ⟨rfl, w5, hq, hk, hk2⟩
    exact ⟨by unfold readAns; rw [if_neg hne], hk2.below (Nat.le_refl _) (fun k hk e => by omega)⟩
end Go.Proofs.Ytkapdefghigdoaa
