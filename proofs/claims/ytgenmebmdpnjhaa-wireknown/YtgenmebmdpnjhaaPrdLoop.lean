
/- Tests: the loops of package pred and of what it calls: their contracts. -/
import Derived.Test.YtgenmebmdpnjhaaPrd
namespace Go.Proofs.Ytgenmebmdpnjhaa
open Go.RowKit
set_option linter.unusedVariables false

theorem drop_at {α : Type} {l : List α} {k : Nat} {a : α} (h : l[k]? = some a) : l.drop k = a :: l.drop (k + 1) := by
  obtain ⟨hk, rfl⟩ := List.getElem?_eq_some_iff.1 h
  exact List.drop_eq_getElem_cons hk
namespace Pd
theorem all_bad {l : List Val} {f : Val → Bool} {k : Nat} {a : Val} (h : l[k]? = some a) (hf : f a = false) : l.all f = false := by
  rw [List.all_eq_false]; exact ⟨a, List.mem_of_getElem? h, by simp [hf]⟩
theorem all_good {l : List Val} {f : Val → Bool} {k : Nat} {a : Val} (h : l[k]? = some a) (hp : l.all f = (l.drop k).all f) (hf : f a = true) : l.all f = (l.drop (k + 1)).all f := by
  rw [hp, drop_at h, List.all_cons, hf]; rfl
theorem all_end {l : List Val} {f : Val → Bool} {k : Nat} (h : ¬ k < l.length) (hp : l.all f = (l.drop k).all f) : l.all f = true := by
  rw [hp, List.drop_eq_nil_of_le (by omega)]; rfl
theorem any_good {l : List Val} {f : Val → Bool} {k : Nat} {a : Val} (h : l[k]? = some a) (hf : f a = true) : l.any f = true := by
  rw [List.any_eq_true]; exact ⟨a, List.mem_of_getElem? h, hf⟩
theorem any_bad {l : List Val} {f : Val → Bool} {k : Nat} {a : Val} (h : l[k]? = some a) (hp : l.any f = (l.drop k).any f) (hf : f a = false) : l.any f = (l.drop (k + 1)).any f := by
  rw [hp, drop_at h, List.any_cons, hf]; rfl
theorem any_end {l : List Val} {f : Val → Bool} {k : Nat} (h : ¬ k < l.length) (hp : l.any f = (l.drop k).any f) : l.any f = false := by
  rw [hp, List.drop_eq_nil_of_le (by omega)]; rfl
theorem same_len : ∀ {l m : List Val}, sames l m = true → l.length = m.length
  | [], [], _ => rfl
  | a :: l, b :: m, h => by simp only [sames, Bool.and_eq_true] at h; simp [same_len h.2]
  | [], _ :: _, h => by simp [sames] at h
  | _ :: _, [], h => by simp [sames] at h
theorem other_len {l m : List Val} (h : ¬ l.length = m.length) : sames l m = false := by
  cases hs : sames l m
  · rfl
  · exact absurd (same_len hs) h
theorem same_bad {l m : List Val} {k : Nat} {a b : Val} (h : l[k]? = some a) (g : m[k]? = some b) (hp : sames l m = sames (l.drop k) (m.drop k)) (hb : Vl.same a b = false) : sames l m = false := by
  rw [hp, drop_at h, drop_at g, sames, hb]; rfl
theorem same_good {l m : List Val} {k : Nat} {a b : Val} (h : l[k]? = some a) (g : m[k]? = some b) (hp : sames l m = sames (l.drop k) (m.drop k)) (hb : Vl.same a b = true) : sames l m = sames (l.drop (k + 1)) (m.drop (k + 1)) := by
  rw [hp, drop_at h, drop_at g, sames, hb]; simp
theorem same_end {l m : List Val} {k : Nat} (h : ¬ k < l.length) (he : m.length = l.length) (hp : sames l m = sames (l.drop k) (m.drop k)) : sames l m = true := by
  rw [hp, List.drop_eq_nil_of_le (by omega), List.drop_eq_nil_of_le (by omega), sames]
end Pd

set_option maxHeartbeats 2000000 in
theorem rightset_any {A : Option Addr} {n c : Nat} {l : List Val} {w : World} (h : Vs w A n l) :
    Calls Try.prog 92 #[.slice A n c] w fun e w' => e = .returned (.bool (Pd.rset l)) ∧ Below w.heap.size w w' := by
  obtain rfl := h.len.symm
  have hn := h.few
  have HA := Lib.hid h
  have hst := store_float
  clear h
  by_cases h0 : l.length < 1
  · have HR : Hid (Pd.rset l = false) := by
      have : Pd.rset l = false := by unfold Pd.rset; rw [decide_eq_false (by omega)]; rfl
      exact this
    go_enter Try.func92, Try.ntmps92
    go_wp2_with fail
    go_ret
    exact ⟨by rw [HR.out]; rfl, Below.refl _ _⟩
  by_cases h5 : 4 < l.length
  · have HR : Hid (Pd.rset l = false) := by
      have : Pd.rset l = false := by unfold Pd.rset; rw [decide_eq_false (p := l.length ≤ 4) (by omega)]; simp
      exact this
    go_enter Try.func92, Try.ntmps92
    go_wp2_with fail
    go_ret
    exact ⟨by rw [HR.out]; rfl, Below.refl _ _⟩
  have HR : Hid (Pd.rset l = l.all Vl.right) := by
    have : Pd.rset l = l.all Vl.right := by unfold Pd.rset; rw [decide_eq_true (p := l.length ≤ 4) (by omega), decide_eq_true (p := 1 ≤ l.length) (by omega)]; rfl
    exact this
  go_enter Try.func92, Try.ntmps92
  go_wp2_with fail
  go_loopw [15] (fun ii wr => ∃ k : Nat, k ≤ l.length ∧ ii = .int .i64 (k : Int) ∧ l.all Vl.right = (l.drop k).all Vl.right ∧ Below w.heap.size w wr) (fun ii _ => l.length - (intOf ii).toNat)
  case atStart => exact ⟨0, by omega, rfl, rfl, Below.refl _ _⟩
  case round =>
    obtain ⟨k, hk, rfl, hl, hB⟩ := hrel
    have HL := Lib.hid hl
    have HB := Lib.hid hB
    clear hl hB
    by_cases hlt : k < l.length
    · obtain ⟨g, o, rfl, hg⟩ := HA.out.at (by omega)
      obtain ⟨a, ha⟩ : ∃ a, l[k]? = some a := ⟨_, List.getElem?_eq_getElem hlt⟩
      have HG := Lib.hid ha
      have hs := (hg k a ha).later HB.out
      obtain ⟨c0, c1, c2, c3, c4⟩ := hs
      clear hg ha
      go_wp2_with fail
      refine (vright_v a _).mono ?_
      rintro e w2 ⟨rfl, hb⟩
      have HB2 := Lib.hid (below_then (below_then HB.out (one_new _ _)) hb)
      clear c0 c1 c2 c3 c4 hb
      cases hr : Vl.right a
      · have HM := Lib.hid (Pd.all_bad HG.out hr)
        go_wp2_with fail
        go_ret
        exact ⟨by rw [HR.out, HM.out]; rfl, HB2.out⟩
      · have HM := Lib.hid (Pd.all_good HG.out HL.out hr)
        go_wp2_with fail
        exact ⟨⟨k + 1, by omega, rfl, HM.out, HB2.out⟩, by simp [intOf]; omega⟩
    · have HM := Lib.hid (Pd.all_end hlt HL.out)
      go_wp2_with fail
      go_ret
      exact ⟨by rw [HR.out, HM.out]; rfl, HB.out⟩

set_option maxHeartbeats 4000000 in
theorem equal_any {A B : Option Addr} {n c n' c' : Nat} {l m : List Val} {w : World} (h : Vs w A n l) (h' : Vs w B n' m) :
    Calls Try.prog 93 #[.slice A n c, .slice B n' c', .func (.func 67) #[] #[]] w fun e w' => e = .returned (.bool (Pd.sames l m)) ∧ Below w.heap.size w w' := by
  obtain rfl := h.len.symm
  obtain rfl := h'.len.symm
  have hn := h.few
  have hn' := h'.few
  have HA := Lib.hid h
  have HA' := Lib.hid h'
  have hst := store_float
  clear h h'
  by_cases hlen : l.length = m.length
  case neg =>
    have HM := Lib.hid (Pd.other_len hlen)
    have hlen' : ¬ (l.length : Int) = (m.length : Int) := by omega
    go_enter Try.func93, Try.ntmps93
    go_wp2_with fail
    go_ret
    exact ⟨by rw [HM.out]; rfl, Below.refl _ _⟩
  have hme : m.length = l.length := hlen.symm
  rw [hme] at HA' hn' ⊢
  clear hlen
  go_enter Try.func93, Try.ntmps93
  go_wp2_with fail
  go_loopw [17] (fun ii wr => ∃ k : Nat, k ≤ l.length ∧ ii = .int .i64 (k : Int) ∧ Pd.sames l m = Pd.sames (l.drop k) (m.drop k) ∧ Below w.heap.size w wr) (fun ii _ => l.length - (intOf ii).toNat)
  case atStart => exact ⟨0, by omega, rfl, rfl, Below.refl _ _⟩
  case round =>
    obtain ⟨k, hk, rfl, hl, hB⟩ := hrel
    have HL := Lib.hid hl
    have HB := Lib.hid hB
    clear hl hB
    by_cases hlt : k < l.length
    · obtain ⟨g, o, rfl, hg⟩ := HA.out.at (by omega)
      obtain ⟨g', o', rfl, hg'⟩ := HA'.out.at (by omega)
      obtain ⟨a, ha⟩ : ∃ a, l[k]? = some a := ⟨_, List.getElem?_eq_getElem hlt⟩
      obtain ⟨b, hb⟩ : ∃ b, m[k]? = some b := ⟨_, List.getElem?_eq_getElem (by omega)⟩
      have HG := Lib.hid ha
      have HG' := Lib.hid hb
      obtain ⟨c0, c1, c2, c3, c4⟩ := (hg k a ha).later HB.out
      have hd1 := (hg' k b hb).later HB.out
      obtain ⟨d0, d1, d2, d3, d4⟩ := hd1
      have q0 : g' < wr.heap.size := cell_lt d0
      have q1 : g < wr.heap.size := cell_lt c0
      clear hg ha hg' hb
      go_wp2_with fail
      refine (vsame_v a b _).mono ?_
      rintro e w2 ⟨rfl, hb⟩
      have HB2 := Lib.hid (below_then (below_then HB.out (two_new _ _ _)) hb)
      clear c0 c1 c2 c3 c4 d0 d1 d2 d3 d4 hb
      cases hr : Vl.same a b
      · have HM := Lib.hid (Pd.same_bad HG.out HG'.out HL.out hr)
        go_wp2_with fail
        go_ret
        exact ⟨by rw [HM.out]; rfl, HB2.out⟩
      · have HM := Lib.hid (Pd.same_good HG.out HG'.out HL.out hr)
        go_wp2_with fail
        exact ⟨⟨k + 1, by omega, rfl, HM.out, HB2.out⟩, by simp [intOf]; omega⟩
    · have HM := Lib.hid (Pd.same_end hlt hme HL.out)
      go_wp2_with fail
      go_ret
      exact ⟨by rw [HM.out]; rfl, HB.out⟩
theorem Pd.cut_front (s : ByteArray) (n : Nat) : (s.extract 0 n).toList = s.toList.take n := by
  rw [ByteArray.toList_eq, ByteArray.toList_eq, ByteArray.data_extract]
  simp
theorem Pd.pre_of {s p : ByteArray} (h : p.size ≤ s.size) : ((s.extract 0 p.size).toList == p.toList) = Pd.pre s p := by
  rw [Pd.cut_front, Pd.pre, decide_eq_true h]; rfl
end Go.Proofs.Ytgenmebmdpnjhaa
