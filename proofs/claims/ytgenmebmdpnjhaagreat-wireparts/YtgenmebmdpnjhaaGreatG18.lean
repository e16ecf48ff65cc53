/- G18: Bent2, PartsFacts in one text. -/
import Derived.Test.YtgenmebmdpnjhaaGreatBent2A
import Derived.Test.YtgenmebmdpnjhaaGreatBent2B
import Derived.Test.YtgenmebmdpnjhaaGreatBent2C
import Derived.Test.YtgenmebmdpnjhaaGreatBent2D
import Derived.Test.YtgenmebmdpnjhaaGreatBent2E
import Derived.Test.YtgenmebmdpnjhaaGreatBent2F
import Derived.Test.YtgenmebmdpnjhaaGreatBent2G
import Derived.Test.YtgenmebmdpnjhaaGreatWireKnown2
import Derived.Test.YtgenmebmdpnjhaaGreatG16
import Derived.Test.YtgenmebmdpnjhaaGreatG13
namespace Go.Proofs.YtgenmebmdpnjhaaGreat
open Go.RowKit

theorem bent_any {x : Fr} {w : World} (h : IsFr w x) (hn : Cd.Fnok x) (hf : x.e.l.length ≤ 900 ∧ x.e.t.length ≤ 900 ∧ x.l.length ≤ 900) (how n : Int) :
    Calls Tryz.prog 8 #[frv x, .int .i64 how, .int .i64 n] w (BentPost w) := by
  rcases sixteen (j := how % 16) ⟨Int.emod_nonneg _ (by omega), Int.emod_lt_of_pos _ (by omega)⟩ with e | e | e | e | e | e | e | e | e | e | e | e | e | e | e | e
  · exact bent_A h hn hf how n (.inl e)
  · exact bent_A h hn hf how n (.inr (.inl e))
  · exact bent_A h hn hf how n (.inr (.inr e))
  · exact bent_B h hn hf how n (.inl e)
  · exact bent_B h hn hf how n (.inr (.inl e))
  · exact bent_B h hn hf how n (.inr (.inr e))
  · exact bent_C h hn hf how n (.inl e)
  · exact bent_C h hn hf how n (.inr (.inl e))
  · exact bent_C h hn hf how n (.inr (.inr e))
  · exact bent_D h hn hf how n (.inl e)
  · exact bent_E h hn hf how n e
  · exact bent_F h hn hf how n (.inl e)
  · exact bent_D h hn hf how n (.inr e)
  · exact bent_G h hn hf how n e
  · exact bent_F h hn hf how n (.inr (.inl e))
  · exact bent_F h hn hf how n (.inr (.inr e))
end Go.Proofs.YtgenmebmdpnjhaaGreat

namespace Go.Proofs.YtgenmebmdpnjhaaGreat
open Go.RowKit
set_option linter.unusedVariables false

namespace Cd
theorem bytey_app {a b : List Nat} (h : Bytey a) (k : Bytey b) : Bytey (a ++ b) := fun x hx => (List.mem_append.1 hx).elim (h x) (k x)
theorem bytey_nil : Bytey [] := fun x hx => by cases hx
theorem bytey_flat {α : Type} {f : α → List Nat} (h : ∀ a, Bytey (f a)) (l : List α) : Bytey (l.flatMap f) := fun x hx => by
  obtain ⟨a, -, hx⟩ := List.mem_flatMap.1 hx
  exact h a x hx
theorem bytey_natw (n : Int) : Bytey (natw n) := by
  unfold natw
  split
  · exact natb_small_bytes _
  · exact bytey_nil
theorem bytey_eight (n : Nat) : Bytey (eightb n) := fun x hx => by
  obtain ⟨i, -, rfl⟩ := List.mem_map.1 hx
  exact Nat.mod_lt _ (by decide)
theorem bytey_text (s : ByteArray) : Bytey (textb s) := bytey_app (natb_small_bytes _) (bytesOf_small s)
theorem bytey_value (v : Val) : Bytey (valueb v) := by
  unfold valueb vkindb boolb
  refine bytey_app (bytey_natw _) ?_
  split
  · exact bytey_eight _
  split
  · exact bytey_eight _
  split
  · exact bytey_text _
  split
  · exact bytey_natw _
  · exact bytey_nil
theorem bytey_event (e : Ev) : Bytey (eventb e) := bytey_app (bytey_flat bytey_natw _) (bytey_app (bytey_natw _) (bytey_app (bytey_flat (fun a => bytey_app (bytey_text _) (bytey_value _)) _) (bytey_app (bytey_natw _) (bytey_flat (fun s => bytey_app (bytey_natw _) (bytey_natw _)) _))))
theorem bytey_set (l : List Val) : Bytey (setb l) := bytey_app (bytey_natw _) (bytey_flat bytey_value _)
theorem bytey_needs (p : Prd) : Bytey (needsb p) := by
  unfold needsb
  split
  · exact bytey_value _
  split
  · exact bytey_app (bytey_value _) (bytey_value _)
  split
  · exact bytey_set _
  · exact bytey_nil
theorem bytey_filter (l : List Pt) : Bytey (filterb l) := bytey_app (bytey_natw _) (bytey_flat (fun x => bytey_app (bytey_text _) (bytey_app (bytey_natw _) (bytey_needs _))) _)
theorem bytey_sub (s : Sb) : Bytey (subb s) := bytey_app (bytey_flat bytey_natw _) (bytey_filter _)
theorem bytey_frame (f : Fr) : Bytey (frameb f) := by
  unfold frameb changeb boolb subsb
  refine bytey_app (bytey_natw _) ?_
  split
  · exact bytey_app (bytey_natw _) (bytey_sub _)
  split
  · exact bytey_flat bytey_natw _
  split
  · exact bytey_app (bytey_flat bytey_natw _) (bytey_app (bytey_natw _) (bytey_flat bytey_sub _))
  split
  · exact bytey_app (bytey_flat bytey_natw _) (bytey_event _)
  split
  · exact bytey_event _
  split
  · exact bytey_flat bytey_natw _
  split
  · exact bytey_flat bytey_natw _
  · exact bytey_nil
theorem tstr_inj {l m : List Nat} (hl : Bytey l) (hm : Bytey m) (h : tstr l = tstr m) : l = m := by
  have e : ∀ {l : List Nat}, Bytey l → bytesOf (tstr l) = l := by
    intro l hl
    unfold bytesOf tstr
    rw [strOfNums_data, List.map_map, List.map_map]
    conv => rhs; rw [← List.map_id l]
    refine List.map_congr_left fun a ha => ?_
    have := hl a ha
    simp [Nat.mod_eq_of_lt this]
  rw [← e hl, ← e hm, h]
end Cd
/-- Lengths of frames that are the same. -/
theorem wsame_len {f g : Fr} (h : Wr.same f g = true) : f.e.l.length = g.e.l.length ∧ f.e.t.length = g.e.t.length ∧ f.l.length = g.l.length := by
  simp only [Wr.same, Wr.evsame, Bool.and_eq_true] at h
  exact ⟨At.same_len h.2.1.2.1, Wr.stsame_len h.2.1.2.2, Wr.sbssame_len h.2.2.2.2⟩
theorem wev_len {e : Ev} (h : Wr.rightEv e = true) : e.l.length ≤ 5 ∧ e.t.length ≤ 200 := by
  simp only [Wr.rightEv, Wr.rightSts, At.right, Bool.and_eq_true, decide_eq_true_eq] at h
  exact ⟨h.2.2.2.2.2.1.1, h.2.2.2.2.2.2.1⟩
theorem wright_len {f : Fr} (h : Wr.right f = true) : f.e.l.length ≤ 900 ∧ f.e.t.length ≤ 900 ∧ f.l.length ≤ 900 := by
  unfold Wr.right at h
  split at h
  · simp only [Bool.and_eq_true] at h; have := wsame_len h.2; simp at this; simp [this]
  split at h
  · simp only [Bool.and_eq_true] at h; have := wsame_len h.2; simp at this; simp [this]
  split at h
  · simp only [Bool.and_eq_true] at h
    have h1 := wsame_len h.2.2
    have h2 := h.2.1
    simp only [Wr.rightSbs, Bool.and_eq_true, decide_eq_true_eq] at h2
    simp at h1
    exact ⟨by simp [h1], by simp [h1], by omega⟩
  split at h
  · simp only [Bool.and_eq_true] at h
    have h1 := wsame_len h.2.2
    have h2 := wev_len h.2.1
    simp at h1
    exact ⟨by omega, by omega, by simp [h1]⟩
  split at h
  · simp only [Bool.and_eq_true] at h
    have h1 := wsame_len h.2
    have h2 := wev_len h.1
    simp at h1
    exact ⟨by omega, by omega, by simp [h1]⟩
  split at h
  · simp only [Bool.and_eq_true] at h; have := wsame_len h.2.2.2; simp at this; simp [this]
  split at h
  · simp only [Bool.and_eq_true] at h; have := wsame_len h.2.2.2.2; simp at this; simp [this]
  · cases h
theorem small_nok {v : Val} (h : Pd.Small v) : Cd.Nok v := ⟨⟨h.lo, h.hi⟩, h.fl⟩
theorem fine_nok {l : List Pt} (h : Fi.Fine l) : ∀ x, x ∈ l → Cd.Nok x.p.v ∧ Cd.Nok x.p.w ∧ ∀ a, a ∈ x.p.set → Cd.Nok a := fun x hx =>
  have hf := (h.fed x hx).2
  ⟨small_nok hf.v, small_nok hf.w, fun a ha => small_nok (hf.set a ha)⟩
theorem Frd.nok {x : Fr} (h : Frd x) : Cd.Fnok x := ⟨fun a ha => ⟨⟨(h.attrs.num a ha).1, (h.attrs.num a ha).2.1⟩, (h.attrs.num a ha).2.2⟩, fine_nok h.filter, fun s hs => fine_nok (h.subs s hs)⟩
theorem fine_is {B : Nat} {w : World} {f : Ft} (h : Owned B w f) (hf : Fi.Fine f.l) : IsFt w f := h.is hf.fits
theorem nm_size : ∀ s, s ∈ At.nm → s.size ≤ 100 := by decide
theorem Fro.is {B : Nat} {w : World} {x : Fr} (h : Fro B w x) (hd : Frd x) : IsFr w x := by
  have hl := wright_len hd.right
  obtain ⟨A, c, e, -, -, hr, -, -, hn⟩ := OwnW.reads h.e
  cases e
  obtain ⟨A, c, e, -, -, hr2, -, -, hn2⟩ := OwnW.reads h.t
  cases e
  obtain ⟨A, c, e, -, -, hr3, -, -, hn3⟩ := OwnW.reads h.l
  cases e
  exact ⟨⟨⟨hr, fun a ha => by have := nm_size _ (hd.attrs.mem ha); omega, by omega⟩, fun a ha => ⟨(hd.attrs.num a ha).1, (hd.attrs.num a ha).2.1, by have := Cd.right_size (hd.attrs.right a ha); omega⟩, ⟨hr2, by omega⟩, hn, hn2⟩, fine_is h.s hd.filter, ⟨hr3, fun s hs => fine_is (h.each s hs) (hd.subs s hs), by omega⟩, hn3⟩
theorem wknown8 (w : World) : Calls Tryz.prog 9 #[] w fun e w' => e = .returned (.bool true) ∧ Below w.heap.size w w' := by
  go_enter Tryz.func9, Tryz.ntmps9
  go_wp2_with fail
  refine (wknown_walk w).mono ?_
  rintro e w' ⟨rfl, hk⟩
  go_wp2_with fail
  go_ret
  exact ⟨rfl, hk⟩
theorem wright_at {f : Fr} {w : World} {b : Bool} (h : IsFr w f) (hb : Wr.right f = b) : Calls Tryz.prog 10 #[frv f] w fun e w' => e = .returned (.bool b) ∧ Below w.heap.size w w' := hb ▸ wright_any h
theorem wsame_at {f g : Fr} {w : World} {b : Bool} (h : IsFr w f) (h' : IsFr w g) (hb : Wr.same f g = b) : Calls Tryz.prog 12 #[frv f, frv g] w fun e w' => e = .returned (.bool b) ∧ Below w.heap.size w w' := hb ▸ wsame_any h h'
/-- What Lay tells, as a text. -/
def LayTells (t : ByteArray) (w : World) (e : Ending) (w' : World) : Prop := ∃ A n c, e = .returned (.slice A n c) ∧ (∀ x : Later w', (convert 23 9 (.slice A n c)).run Tryz.prog x.at_ = .ok (.string t) x.at_) ∧ Below w.heap.size w w'
theorem lay_tells {f : Fr} {w : World} (h : IsFr w f) (hr : Wr.right f = true) (hn : Cd.Fnok f) : Calls Tryz.prog 15 #[frv f] w (LayTells (tstr (Cd.frameb f)) w) :=
  (lay_any h hr hn).mono fun e w' ⟨v, he, ho, hb⟩ => by
    obtain ⟨A, c, rfl, -, -, -, -, -, -⟩ := OwnW.reads ho
    obtain ⟨-, hrd⟩ := ownb_rd ho
    exact ⟨A, _, c, he, fun x => conv_bytes (hrd.later x.below), hb⟩
end Go.Proofs.YtgenmebmdpnjhaaGreat
