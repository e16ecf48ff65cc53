
/- PackKnown: the walk. -/
import Derived.Test.YtkapdefghigdoaaPackRead
namespace Go.Proofs.Ytkapdefghigdoaa
open Go.RowKit

/-- A cell in block p, that may be written. -/
def Box (w : World) (p : Nat) (v : Value) : Prop := w.cell? ⟨p, 0, none⟩ = some v ∧ w.frozen? ⟨p, 0, none⟩ = false
theorem Box.lt {w : World} {p : Nat} {v : Value} (h : Box w p v) : p < w.heap.size := cell_lt h.1
theorem Box.kept {S : Nat → Prop} {w w' : World} {p : Nat} {v : Value} (h : Box w p v) (k : Kept S w w') (hp : ¬ S p) : Box w' p v :=
  ⟨by rw [k.cell (p := ⟨p, 0, none⟩) h.lt hp]; exact h.1, by rw [k.frozen (p := ⟨p, 0, none⟩) h.lt hp]; exact h.2⟩
theorem Box.later {w w' : World} {p : Nat} {v : Value} (h : Box w p v) {B : Nat} (k : Below B w w') (hp : p < B) : Box w' p v :=
  ⟨by rw [k.cell (p := ⟨p, 0, none⟩) hp]; exact h.1, by rw [k.frozen (p := ⟨p, 0, none⟩) hp]; exact h.2⟩
theorem Box.set {w : World} {p : Nat} {v : Value} (h : Box w p v) (u : Value) : Box (w.setCell ⟨p, 0, none⟩ u) p u :=
  ⟨World.cell?_setCell_same _ _ _ h.1, by rw [World.frozen?_setCell]; exact h.2⟩
theorem box_new (w : World) (v : Value) (t : TypeId) : Box (w.alloc (.cells #[v] t)) w.heap.size v := by simp [Box, go_sem]

set_option maxRecDepth 100000 in
theorem known1_fn {w : World} {g : Nat} {A : Option Addr} {n c : Nat} {r : List Nat} (h : PR w g A n c r) {p : Nat} {z : Int} (hp : Box w p (.int .i64 z)) (hpg : ¬ p = g) :
    Calls Try.prog 9 #[.pointer (some ⟨g, 0, none⟩), .pointer (some ⟨p, 0, none⟩)] w fun e w5 =>
      ((natErr r = 0 ∧ (∃ v, e = .returned v) ∧ LeftIs w5 g (r.drop (natTaken r))) ∨ (¬ natErr r = 0 ∧ e = stopped (natErr r))) ∧ Kept (fun k => k = g ∨ k = p) w w5 ∧ Box w5 p (.int .i64 (if natErr r = 0 then (natVal r : Int) else z)) := by
  have HC := Lib.hid (pnatr_any h)
  have HP := Lib.hid hp
  clear hp
  generalize natErr r = err at HC ⊢
  generalize natVal r = v at HC ⊢
  generalize natTaken r = t at HC ⊢
  by_cases he0 : err = 0
  · subst he0
    simp only [if_true]
    go_enter Try.func9, Try.ntmps9
    go_wp2_with fail
    refine HC.out.mono ?_
    rintro e w1 (⟨-, rfl, ⟨A', n', c', hpr⟩, hk⟩ | ⟨he, -⟩)
    · have H := Lib.hid (And.intro hpr (And.intro hk (HP.out.kept hk hpg)))
      obtain ⟨hc, hf⟩ := H.out.2.2
      clear hpr hk HC
      go_wp2_with fail
      go_end0
      have hk2 : Kept (fun k => k = p) w1 (w1.setCell ⟨p, 0, none⟩ (.int .i64 (v : Int))) := Kept.setCell (S := (· = p)) _ ⟨p, 0, none⟩ rfl _
      exact ⟨.inl ⟨trivial, ⟨_, rfl⟩, H.out.1.left.kept hk2 (fun e => hpg e.symm)⟩, (H.out.2.1.mono (fun i _ e => .inl e)).then (hk2.mono (fun i _ e => .inr e)), H.out.2.2.set _⟩
    · exact absurd rfl he
  · rw [if_neg he0]
    go_enter Try.func9, Try.ntmps9
    go_wp2_with fail
    refine HC.out.mono ?_
    rintro e w1 (⟨he, -⟩ | ⟨he, rfl, hk⟩)
    · exact absurd he he0
    · exact ⟨rfl, .inr ⟨he, rfl⟩, hk.mono (fun i _ e => .inl e), HP.out.kept hk hpg⟩
theorem known1_read {w : World} {A : Option Addr} {n c : Nat} {l : List Nat} (hr : Rd w A n c l) (hc : n ≤ c) (hn : n ≤ 4611686018427387904) (h0 : ∀ ad, A = some ad → ad.block < w.heap.size) {p : Nat} {z : Int} (hp : Box w p (.int .i64 z)) :
    Calls Try.prog 8 #[.slice A n c, .func (.func 9) #[] #[.pointer (some ⟨p, 0, none⟩)]] w fun e w' =>
      e = .returned (.int .i64 (readAns (natErr l) (l.drop (natTaken l)))) ∧ Box w' p (.int .i64 (if natErr l = 0 then (natVal l : Int) else z)) ∧ Kept (· = p) w w' := by
  have hpl := hp.lt
  refine (read_of 9 #[.pointer (some ⟨p, 0, none⟩)] hr hc hn h0 (natErr l) (l.drop (natTaken l)) (fun k => k = w.heap.size + 1 ∨ k = p) (fun w5 => Box w5 p (.int .i64 (if natErr l = 0 then (natVal l : Int) else z))) (fun w => by kernel_rfl) (fun k h1 h2 => by rcases h2 with h2 | h2 <;> omega) ?_).mono ?_
  · intro w4 hb hs hpr
    exact known1_fn hpr (hp.later hb hpl) (by omega)
  · rintro e w' ⟨rfl, w5, hq, hk, hk2⟩
    exact ⟨rfl, hq.kept hk (by omega), hk2.mono (fun i hi e => by rcases e with e | e <;> omega)⟩

set_option maxRecDepth 100000 in
theorem known2_fn {w : World} {g : Nat} {A : Option Addr} {n c : Nat} {r : List Nat} (h : PR w g A n c r) {p : Nat} {z : Int} (hp : Box w p (.int .i64 z)) (hpg : ¬ p = g) :
    Calls Try.prog 11 #[.pointer (some ⟨g, 0, none⟩), .pointer (some ⟨p, 0, none⟩)] w fun e w5 =>
      ((natErr r = 0 ∧ (∃ v, e = .returned v) ∧ LeftIs w5 g (r.drop (natTaken r))) ∨ (¬ natErr r = 0 ∧ e = stopped (natErr r))) ∧ Kept (fun k => k = g ∨ k = p) w w5 ∧ Box w5 p (.int .i64 (if natErr r = 0 then (natVal r : Int) else z)) := by
  have HC := Lib.hid (pnatr_any h)
  have HP := Lib.hid hp
  clear hp
  generalize natErr r = err at HC ⊢
  generalize natVal r = v at HC ⊢
  generalize natTaken r = t at HC ⊢
  by_cases he0 : err = 0
  · subst he0
    simp only [if_true]
    go_enter Try.func11, Try.ntmps11
    go_wp2_with fail
    refine HC.out.mono ?_
    rintro e w1 (⟨-, rfl, ⟨A', n', c', hpr⟩, hk⟩ | ⟨he, -⟩)
    · have H := Lib.hid (And.intro hpr (And.intro hk (HP.out.kept hk hpg)))
      obtain ⟨hc, hf⟩ := H.out.2.2
      clear hpr hk HC
      go_wp2_with fail
      go_end0
      have hk2 : Kept (fun k => k = p) w1 (w1.setCell ⟨p, 0, none⟩ (.int .i64 (v : Int))) := Kept.setCell (S := (· = p)) _ ⟨p, 0, none⟩ rfl _
      exact ⟨.inl ⟨trivial, ⟨_, rfl⟩, H.out.1.left.kept hk2 (fun e => hpg e.symm)⟩, (H.out.2.1.mono (fun i _ e => .inl e)).then (hk2.mono (fun i _ e => .inr e)), H.out.2.2.set _⟩
    · exact absurd rfl he
  · rw [if_neg he0]
    go_enter Try.func11, Try.ntmps11
    go_wp2_with fail
    refine HC.out.mono ?_
    rintro e w1 (⟨he, -⟩ | ⟨he, rfl, hk⟩)
    · exact absurd he he0
    · exact ⟨rfl, .inr ⟨he, rfl⟩, hk.mono (fun i _ e => .inl e), HP.out.kept hk hpg⟩
theorem known2_read {w : World} {A : Option Addr} {n c : Nat} {l : List Nat} (hr : Rd w A n c l) (hc : n ≤ c) (hn : n ≤ 4611686018427387904) (h0 : ∀ ad, A = some ad → ad.block < w.heap.size) {p : Nat} {z : Int} (hp : Box w p (.int .i64 z)) :
    Calls Try.prog 8 #[.slice A n c, .func (.func 11) #[] #[.pointer (some ⟨p, 0, none⟩)]] w fun e w' =>
      e = .returned (.int .i64 (readAns (natErr l) (l.drop (natTaken l)))) ∧ Box w' p (.int .i64 (if natErr l = 0 then (natVal l : Int) else z)) ∧ Kept (· = p) w w' := by
  have hpl := hp.lt
  refine (read_of 11 #[.pointer (some ⟨p, 0, none⟩)] hr hc hn h0 (natErr l) (l.drop (natTaken l)) (fun k => k = w.heap.size + 1 ∨ k = p) (fun w5 => Box w5 p (.int .i64 (if natErr l = 0 then (natVal l : Int) else z))) (fun w => by kernel_rfl) (fun k h1 h2 => by rcases h2 with h2 | h2 <;> omega) ?_).mono ?_
  · intro w4 hb hs hpr
    exact known2_fn hpr (hp.later hb hpl) (by omega)
  · rintro e w' ⟨rfl, w5, hq, hk, hk2⟩
    exact ⟨rfl, hq.kept hk (by omega), hk2.mono (fun i hi e => by rcases e with e | e <;> omega)⟩

set_option maxRecDepth 100000 in
theorem known3_fn {w : World} {g : Nat} {A : Option Addr} {n c : Nat} {r : List Nat} (h : PR w g A n c r) {p : Nat} {z : Int} (hp : Box w p (.int .i64 z)) (hpg : ¬ p = g) :
    Calls Try.prog 12 #[.pointer (some ⟨g, 0, none⟩), .pointer (some ⟨p, 0, none⟩)] w fun e w5 =>
      ((natErr r = 0 ∧ (∃ v, e = .returned v) ∧ LeftIs w5 g (r.drop (natTaken r))) ∨ (¬ natErr r = 0 ∧ e = stopped (natErr r))) ∧ Kept (fun k => k = g ∨ k = p) w w5 ∧ Box w5 p (.int .i64 (if natErr r = 0 then (natVal r : Int) else z)) := by
  have HC := Lib.hid (pnatr_any h)
  have HP := Lib.hid hp
  clear hp
  generalize natErr r = err at HC ⊢
  generalize natVal r = v at HC ⊢
  generalize natTaken r = t at HC ⊢
  by_cases he0 : err = 0
  · subst he0
    simp only [if_true]
    go_enter Try.func12, Try.ntmps12
    go_wp2_with fail
    refine HC.out.mono ?_
    rintro e w1 (⟨-, rfl, ⟨A', n', c', hpr⟩, hk⟩ | ⟨he, -⟩)
    · have H := Lib.hid (And.intro hpr (And.intro hk (HP.out.kept hk hpg)))
      obtain ⟨hc, hf⟩ := H.out.2.2
      clear hpr hk HC
      go_wp2_with fail
      go_end0
      have hk2 : Kept (fun k => k = p) w1 (w1.setCell ⟨p, 0, none⟩ (.int .i64 (v : Int))) := Kept.setCell (S := (· = p)) _ ⟨p, 0, none⟩ rfl _
      exact ⟨.inl ⟨trivial, ⟨_, rfl⟩, H.out.1.left.kept hk2 (fun e => hpg e.symm)⟩, (H.out.2.1.mono (fun i _ e => .inl e)).then (hk2.mono (fun i _ e => .inr e)), H.out.2.2.set _⟩
    · exact absurd rfl he
  · rw [if_neg he0]
    go_enter Try.func12, Try.ntmps12
    go_wp2_with fail
    refine HC.out.mono ?_
    rintro e w1 (⟨he, -⟩ | ⟨he, rfl, hk⟩)
    · exact absurd he he0
    · exact ⟨rfl, .inr ⟨he, rfl⟩, hk.mono (fun i _ e => .inl e), HP.out.kept hk hpg⟩
theorem known3_read {w : World} {A : Option Addr} {n c : Nat} {l : List Nat} (hr : Rd w A n c l) (hc : n ≤ c) (hn : n ≤ 4611686018427387904) (h0 : ∀ ad, A = some ad → ad.block < w.heap.size) {p : Nat} {z : Int} (hp : Box w p (.int .i64 z)) :
    Calls Try.prog 8 #[.slice A n c, .func (.func 12) #[] #[.pointer (some ⟨p, 0, none⟩)]] w fun e w' =>
      e = .returned (.int .i64 (readAns (natErr l) (l.drop (natTaken l)))) ∧ Box w' p (.int .i64 (if natErr l = 0 then (natVal l : Int) else z)) ∧ Kept (· = p) w w' := by
  have hpl := hp.lt
  refine (read_of 12 #[.pointer (some ⟨p, 0, none⟩)] hr hc hn h0 (natErr l) (l.drop (natTaken l)) (fun k => k = w.heap.size + 1 ∨ k = p) (fun w5 => Box w5 p (.int .i64 (if natErr l = 0 then (natVal l : Int) else z))) (fun w => by kernel_rfl) (fun k h1 h2 => by rcases h2 with h2 | h2 <;> omega) ?_).mono ?_
  · intro w4 hb hs hpr
    exact known3_fn hpr (hp.later hb hpl) (by omega)
  · rintro e w' ⟨rfl, w5, hq, hk, hk2⟩
    exact ⟨rfl, hq.kept hk (by omega), hk2.mono (fun i hi e => by rcases e with e | e <;> omega)⟩

set_option maxRecDepth 100000 in
theorem known5_fn {w : World} {g : Nat} {A : Option Addr} {n c : Nat} {r : List Nat} (h : PR w g A n c r) {p : Nat} {z : ByteArray} (hp : Box w p (.string z)) (hpg : ¬ p = g) :
    Calls Try.prog 16 #[.pointer (some ⟨g, 0, none⟩), .pointer (some ⟨p, 0, none⟩)] w fun e w5 =>
      ((textErr r 1 = 0 ∧ (∃ v, e = .returned v) ∧ LeftIs w5 g (r.drop (textTaken r))) ∨ (¬ textErr r 1 = 0 ∧ e = stopped (textErr r 1))) ∧ Kept (fun k => k = g ∨ k = p) w w5 ∧ Box w5 p (.string (if textErr r 1 = 0 then textVal r else z)) := by
  have HC := Lib.hid (ptextr_any 1 h)
  have HP := Lib.hid hp
  clear hp
  generalize textErr r 1 = err at HC ⊢
  generalize textVal r = v at HC ⊢
  generalize textTaken r = t at HC ⊢
  by_cases he0 : err = 0
  · subst he0
    simp only [if_true]
    go_enter Try.func16, Try.ntmps16
    go_wp2_with fail
    refine HC.out.mono ?_
    rintro e w1 (⟨-, rfl, ⟨A', n', c', hpr⟩, hk⟩ | ⟨he, -⟩)
    · have H := Lib.hid (And.intro hpr (And.intro hk (HP.out.kept hk hpg)))
      obtain ⟨hc, hf⟩ := H.out.2.2
      clear hpr hk HC
      go_wp2_with fail
      go_end0
      have hk2 : Kept (fun k => k = p) w1 (w1.setCell ⟨p, 0, none⟩ (.string v)) := Kept.setCell (S := (· = p)) _ ⟨p, 0, none⟩ rfl _
      exact ⟨.inl ⟨trivial, ⟨_, rfl⟩, H.out.1.left.kept hk2 (fun e => hpg e.symm)⟩, (H.out.2.1.mono (fun i _ e => .inl e)).then (hk2.mono (fun i _ e => .inr e)), H.out.2.2.set _⟩
    · exact absurd rfl he
  · rw [if_neg he0]
    go_enter Try.func16, Try.ntmps16
    go_wp2_with fail
    refine HC.out.mono ?_
    rintro e w1 (⟨he, -⟩ | ⟨he, rfl, hk⟩)
    · exact absurd he he0
    · exact ⟨rfl, .inr ⟨he, rfl⟩, hk.mono (fun i _ e => .inl e), HP.out.kept hk hpg⟩
theorem known5_read {w : World} {A : Option Addr} {n c : Nat} {l : List Nat} (hr : Rd w A n c l) (hc : n ≤ c) (hn : n ≤ 4611686018427387904) (h0 : ∀ ad, A = some ad → ad.block < w.heap.size) {p : Nat} {z : ByteArray} (hp : Box w p (.string z)) :
    Calls Try.prog 8 #[.slice A n c, .func (.func 16) #[] #[.pointer (some ⟨p, 0, none⟩)]] w fun e w' =>
      e = .returned (.int .i64 (readAns (textErr l 1) (l.drop (textTaken l)))) ∧ Box w' p (.string (if textErr l 1 = 0 then textVal l else z)) ∧ Kept (· = p) w w' := by
  have hpl := hp.lt
  refine (read_of 16 #[.pointer (some ⟨p, 0, none⟩)] hr hc hn h0 (textErr l 1) (l.drop (textTaken l)) (fun k => k = w.heap.size + 1 ∨ k = p) (fun w5 => Box w5 p (.string (if textErr l 1 = 0 then textVal l else z))) (fun w => by kernel_rfl) (fun k h1 h2 => by rcases h2 with h2 | h2 <;> omega) ?_).mono ?_
  · intro w4 hb hs hpr
    exact known5_fn hpr (hp.later hb hpl) (by omega)
  · rintro e w' ⟨rfl, w5, hq, hk, hk2⟩
    exact ⟨rfl, hq.kept hk (by omega), hk2.mono (fun i hi e => by rcases e with e | e <;> omega)⟩

set_option maxRecDepth 100000 in
theorem known6_fn {w : World} {g : Nat} {A : Option Addr} {n c : Nat} {r : List Nat} (h : PR w g A n c r) {p : Nat} {z : ByteArray} (hp : Box w p (.string z)) (hpg : ¬ p = g) :
    Calls Try.prog 18 #[.pointer (some ⟨g, 0, none⟩), .pointer (some ⟨p, 0, none⟩)] w fun e w5 =>
      ((textErr r 2 = 0 ∧ (∃ v, e = .returned v) ∧ LeftIs w5 g (r.drop (textTaken r))) ∨ (¬ textErr r 2 = 0 ∧ e = stopped (textErr r 2))) ∧ Kept (fun k => k = g ∨ k = p) w w5 ∧ Box w5 p (.string (if textErr r 2 = 0 then textVal r else z)) := by
  have HC := Lib.hid (ptextr_any 2 h)
  have HP := Lib.hid hp
  clear hp
  generalize textErr r 2 = err at HC ⊢
  generalize textVal r = v at HC ⊢
  generalize textTaken r = t at HC ⊢
  by_cases he0 : err = 0
  · subst he0
    simp only [if_true]
    go_enter Try.func18, Try.ntmps18
    go_wp2_with fail
    refine HC.out.mono ?_
    rintro e w1 (⟨-, rfl, ⟨A', n', c', hpr⟩, hk⟩ | ⟨he, -⟩)
    · have H := Lib.hid (And.intro hpr (And.intro hk (HP.out.kept hk hpg)))
      obtain ⟨hc, hf⟩ := H.out.2.2
      clear hpr hk HC
      go_wp2_with fail
      go_end0
      have hk2 : Kept (fun k => k = p) w1 (w1.setCell ⟨p, 0, none⟩ (.string v)) := Kept.setCell (S := (· = p)) _ ⟨p, 0, none⟩ rfl _
      exact ⟨.inl ⟨trivial, ⟨_, rfl⟩, H.out.1.left.kept hk2 (fun e => hpg e.symm)⟩, (H.out.2.1.mono (fun i _ e => .inl e)).then (hk2.mono (fun i _ e => .inr e)), H.out.2.2.set _⟩
    · exact absurd rfl he
  · rw [if_neg he0]
    go_enter Try.func18, Try.ntmps18
    go_wp2_with fail
    refine HC.out.mono ?_
    rintro e w1 (⟨he, -⟩ | ⟨he, rfl, hk⟩)
    · exact absurd he he0
    · exact ⟨rfl, .inr ⟨he, rfl⟩, hk.mono (fun i _ e => .inl e), HP.out.kept hk hpg⟩
theorem known6_read {w : World} {A : Option Addr} {n c : Nat} {l : List Nat} (hr : Rd w A n c l) (hc : n ≤ c) (hn : n ≤ 4611686018427387904) (h0 : ∀ ad, A = some ad → ad.block < w.heap.size) {p : Nat} {z : ByteArray} (hp : Box w p (.string z)) :
    Calls Try.prog 8 #[.slice A n c, .func (.func 18) #[] #[.pointer (some ⟨p, 0, none⟩)]] w fun e w' =>
      e = .returned (.int .i64 (readAns (textErr l 2) (l.drop (textTaken l)))) ∧ Box w' p (.string (if textErr l 2 = 0 then textVal l else z)) ∧ Kept (· = p) w w' := by
  have hpl := hp.lt
  refine (read_of 18 #[.pointer (some ⟨p, 0, none⟩)] hr hc hn h0 (textErr l 2) (l.drop (textTaken l)) (fun k => k = w.heap.size + 1 ∨ k = p) (fun w5 => Box w5 p (.string (if textErr l 2 = 0 then textVal l else z))) (fun w => by kernel_rfl) (fun k h1 h2 => by rcases h2 with h2 | h2 <;> omega) ?_).mono ?_
  · intro w4 hb hs hpr
    exact known6_fn hpr (hp.later hb hpl) (by omega)
  · rintro e w' ⟨rfl, w5, hq, hk, hk2⟩
    exact ⟨rfl, hq.kept hk (by omega), hk2.mono (fun i hi e => by rcases e with e | e <;> omega)⟩

theorem known4_read {w : World} {A : Option Addr} {n c : Nat} {l : List Nat} (hr : Rd w A n c l) (hc : n ≤ c) (hn : n ≤ 4611686018427387904) (h0 : ∀ ad, A = some ad → ad.block < w.heap.size) (hl : ¬ l.length = 2) :
    Calls Try.prog 8 #[.slice A n c, .func (.func 13) #[] #[]] w fun e w' => e = .returned (.int .i64 7) ∧ Below w.heap.size w w' := by
  refine (read_of 13 #[] hr hc hn h0 7 [] (fun k => k = w.heap.size + 1) (fun _ => True) (fun w => by kernel_rfl) (fun k h1 h2 => h2) ?_).mono ?_
  · intro w4 hb hs hpr
    show Calls Try.prog 13 #[.pointer (some ⟨w.heap.size + 1, 0, none⟩)] w4 _
    have HC := Lib.hid (pleft_any hpr)
    have hl' : ((l.length : Int) == 2) = false := by rw [beq_eq_false_iff_ne]; omega
    generalize l.length = m at HC hl'
    clear hpr hr
    go_enter Try.func13, Try.ntmps13
    go_wp2_with fail
    refine HC.out.mono ?_
    rintro e w1 ⟨rfl, rfl⟩
    go_wp2_with fail
    refine (need_err 7 rfl _).mono ?_
    rintro e w1 ⟨rfl, rfl⟩
    exact ⟨rfl, .inr ⟨by decide, rfl⟩, Kept.refl _ _, trivial⟩
  · rintro e w' ⟨rfl, w5, hq, hk, hk2⟩
    exact ⟨rfl, hk2.below (Nat.le_refl _) (fun k hk e => by omega)⟩

end Go.Proofs.Ytkapdefghigdoaa
