/- G2: Prd, PrdLoop in one text. -/
import Derived.Test.YtgenmebmdpnjhaaGreatG1b
import Derived.Test.YtgenmebmdpnjhaaGreatG1c
import Derived.Test.YtgenmebmdpnjhaaGreatRefVal
namespace Go.Proofs.YtgenmebmdpnjhaaGreat
open Go.RowKit
set_option linter.unusedVariables false

abbrev vlv (v : Val) : Value := vl v.k v.n v.x v.s v.b
/-- Its five cells. -/
def Val.cells (a : Val) : List Value := [.int .i64 a.k, .int .i64 a.n, .float .f64 a.x, .string a.s, .bool a.b]
theorem Val.cells_len (a : Val) : a.cells.length = 5 := rfl
/-- What a machine's value is within. -/
structure Fit (a : Val) : Prop where
  lo : -9223372036854775808 ≤ a.n
  hi : a.n ≤ 9223372036854775807
  txt : a.s.size ≤ 9223372036854775807
/-- The five cells of a value at p of block g. -/
structure Fiv (w : World) (g p : Nat) (a : Val) : Prop where
  h0 : w.cell? ⟨g, p, none⟩ = some (.int .i64 a.k)
  h1 : w.cell? ⟨g, p + 1, none⟩ = some (.int .i64 a.n)
  h2 : w.cell? ⟨g, p + 2, none⟩ = some (.float .f64 a.x)
  h3 : w.cell? ⟨g, p + 3, none⟩ = some (.string a.s)
  h4 : w.cell? ⟨g, p + 4, none⟩ = some (.bool a.b)
theorem Fiv.kept {S : Nat → Prop} {w w' : World} {g p : Nat} {a : Val} (h : Fiv w g p a) (k : Kept S w w') (hs : ¬ S g) : Fiv w' g p a :=
  have hg : g < w.heap.size := cell_lt h.h0
  ⟨(k.cell (p := ⟨g, _, none⟩) hg hs).trans h.h0, (k.cell (p := ⟨g, _, none⟩) hg hs).trans h.h1, (k.cell (p := ⟨g, _, none⟩) hg hs).trans h.h2, (k.cell (p := ⟨g, _, none⟩) hg hs).trans h.h3, (k.cell (p := ⟨g, _, none⟩) hg hs).trans h.h4⟩
theorem Fiv.later {w w' : World} {g p : Nat} {a : Val} (h : Fiv w g p a) (k : Below w.heap.size w w') : Fiv w' g p a := h.kept (S := fun _ => False) (Kept.ofBelow k) id
abbrev vflat (l : List Val) : List Value := l.flatMap Val.cells
theorem vflat_one (l : List Val) : ∀ u ∈ vflat l, u.oneCell' = true := by
  intro u hu
  obtain ⟨a, -, ha⟩ := List.mem_flatMap.1 hu
  simp only [Val.cells, List.mem_cons, List.not_mem_nil, or_false] at ha
  rcases ha with rfl | rfl | rfl | rfl | rfl <;> rfl
/-- A slice reads as a row of values. -/
structure Vs (w : World) (A : Option Addr) (n : Nat) (l : List Val) : Prop where
  row : Rs 5 w A n (vflat l)
  fit : ∀ a, a ∈ l → Fit a
  few : n ≤ 9223372036854775807
theorem Vs.len {w : World} {A : Option Addr} {n : Nat} {l : List Val} (h : Vs w A n l) : l.length = n := by
  have := h.row.1
  rw [flat_len _ Val.cells_len] at this
  omega
theorem Vs.later {w w' : World} {A : Option Addr} {n : Nat} {l : List Val} (h : Vs w A n l) (k : Below w.heap.size w w') : Vs w' A n l := ⟨h.row.later k, h.fit, h.few⟩
theorem Vs.kept {S : Nat → Prop} {w w' : World} {A : Option Addr} {n : Nat} {l : List Val} (h : Vs w A n l) (k : Kept S w w') (hs : ∀ x, A = some x → ¬ S x.block) : Vs w' A n l := ⟨h.row.kept k hs, h.fit, h.few⟩
theorem Vs.at {w : World} {A : Option Addr} {n : Nat} {l : List Val} (h : Vs w A n l) (h0 : 0 < l.length) : ∃ g o, A = some ⟨g, o, none⟩ ∧ ∀ i a, l[i]? = some a → Fiv w g (o + i * 5) a := by
  have hp : 0 < (vflat l).length := by rw [flat_len _ Val.cells_len]; omega
  rcases h.row.2 with h1 | ⟨g, o, rfl, hc⟩
  · rw [h1] at hp; simp at hp
  · refine ⟨g, o, rfl, fun i a hi => ?_⟩
    have hj : ∀ j u, a.cells[j]? = some u → w.cell? ⟨g, o + i * 5 + j, none⟩ = some u := by
      intro j u hu
      have hlt : j < 5 := (List.getElem?_eq_some_iff.1 hu).1
      have := hc (i * 5 + j) u (by rw [flat_get _ Val.cells_len l i j a hi hlt]; exact hu)
      rw [← Nat.add_assoc] at this
      exact this
    exact ⟨hj 0 _ rfl, hj 1 _ rfl, hj 2 _ rfl, hj 3 _ rfl, hj 4 _ rfl⟩
theorem Vs.nil (w : World) : Vs w none 0 [] := ⟨Rs.nil _ _ _, by simp, by omega⟩

theorem vsame_v (a b : Val) (w : World) : Calls Tryz.prog 105 #[vlv a, vlv b] w fun e w' => e = .returned (.bool (Vl.same a b)) ∧ Below w.heap.size w w' := vsame_any a.k a.n a.x a.s a.b b.k b.n b.x b.s b.b w
theorem vright_v (a : Val) (w : World) : Calls Tryz.prog 101 #[vlv a] w fun e w' => e = .returned (.bool (Vl.right a)) ∧ Below w.heap.size w w' := vright_any a.k a.n a.x a.s a.b w
theorem rvsame_v (a b : Val) (w : World) : Calls Tryz.prog 108 #[vlv a, vlv b] w fun e w' => e = .returned (.bool (Vl.same a b)) ∧ Below w.heap.size w w' := rvsame_any a.k a.n a.x a.s a.b b.k b.n b.x b.s b.b w
theorem rvright_v (a : Val) (w : World) : Calls Tryz.prog 104 #[vlv a] w fun e w' => e = .returned (.bool (Vl.right a)) ∧ Below w.heap.size w w' := rvright_any a.k a.n a.x a.s a.b w

namespace Pd
def z0 : Val := ⟨0, 0, 0, ⟨#[]⟩, false⟩
def zero (v : Val) : Bool := Vl.same v z0
def most (v w : Val) : Bool := Vl.ok v w && decide (Vl.cmp v w ≤ 0)
def nan (v : Val) : Bool := decide (v.k = 2) && Fl.nan v.x
def pre (s p : ByteArray) : Bool := decide (p.size ≤ s.size) && (s.toList.take p.size == p.toList)
def sames : List Val → List Val → Bool
  | [], [] => true
  | a :: l, b :: m => Vl.same a b && sames l m
  | _, _ => false
def rset (l : List Val) : Bool := decide (1 ≤ l.length) && decide (l.length ≤ 4) && l.all Vl.right
end Pd

theorem zero_any (a : Val) (w : World) : Calls Tryz.prog 151 #[vlv a] w fun e w' => e = .returned (.bool (Pd.zero a)) ∧ Below w.heap.size w w' := by
  go_enter Tryz.func151, Tryz.ntmps151
  go_wp2_with fail
  refine (vsame_v a Pd.z0 _).mono ?_
  rintro e w' ⟨rfl, hb⟩
  have HB := Lib.hid (below_then (one_new _ _) hb)
  clear hb
  go_wp2_with fail
  go_ret
  exact ⟨rfl, HB.out⟩
theorem rzero_any (a : Val) (w : World) : Calls Tryz.prog 132 #[vlv a] w fun e w' => e = .returned (.bool (Pd.zero a)) ∧ Below w.heap.size w w' := by
  go_enter Tryz.func132, Tryz.ntmps132
  go_wp2_with fail
  refine (rvsame_v a Pd.z0 _).mono ?_
  rintro e w' ⟨rfl, hb⟩
  have HB := Lib.hid (below_then (one_new _ _) hb)
  clear hb
  go_wp2_with fail
  go_ret
  exact ⟨rfl, HB.out⟩
end Go.Proofs.YtgenmebmdpnjhaaGreat

namespace Go.Proofs.YtgenmebmdpnjhaaGreat
open Go.RowKit
set_option linter.unusedVariables false

theorem drop_at {α : Type} {l : List α} {k : Nat} {a : α} (h : l[k]? = some a) : l.drop k = a :: l.drop (k + 1) := by
  obtain ⟨hk, rfl⟩ := List.getElem?_eq_some_iff.1 h
  exact List.drop_eq_getElem_cons hk
namespace Pd
theorem all_bad {l : List Val} {f : Val → Bool} {k : Nat} {a : Val} (h : l[k]? = some a) (hf : f a = false) : l.all f = false := by
  rw [List.all_eq_false]; exact ⟨a, List.mem_of_getElem? h, by simp [hf]⟩
theorem all_good {l : List Val} {f : Val → Bool} {k : Nat} {a : Val} (h : l[k]? = some a) (hp : l.all f = (l.drop k).all f) (hf : f a = true) : l.all f = (l.drop (k + 1)).all f := by
  rw [hp, drop_at h, List.all_cons, hf]; rfl
theorem all_end {l : List Val} {f : Val → Bool} {k : Nat} (h : ¬ k < l.length) (hp : l.all f = (l.drop k).all f) : l.all f = true := by
  rw [hp, List.drop_eq_nil_of_le (by omega)]; rfl
theorem any_good {l : List Val} {f : Val → Bool} {k : Nat} {a : Val} (h : l[k]? = some a) (hf : f a = true) : l.any f = true := by
  rw [List.any_eq_true]; exact ⟨a, List.mem_of_getElem? h, hf⟩
theorem any_bad {l : List Val} {f : Val → Bool} {k : Nat} {a : Val} (h : l[k]? = some a) (hp : l.any f = (l.drop k).any f) (hf : f a = false) : l.any f = (l.drop (k + 1)).any f := by
  rw [hp, drop_at h, List.any_cons, hf]; rfl
theorem any_end {l : List Val} {f : Val → Bool} {k : Nat} (h : ¬ k < l.length) (hp : l.any f = (l.drop k).any f) : l.any f = false := by
  rw [hp, List.drop_eq_nil_of_le (by omega)]; rfl
theorem same_len : ∀ {l m : List Val}, sames l m = true → l.length = m.length
  | [], [], _ => rfl
  | a :: l, b :: m, h => by simp only [sames, Bool.and_eq_true] at h; simp [same_len h.2]
  | [], _ :: _, h => by simp [sames] at h
  | _ :: _, [], h => by simp [sames] at h
theorem other_len {l m : List Val} (h : ¬ l.length = m.length) : sames l m = false := by
  cases hs : sames l m
  · rfl
  · exact absurd (same_len hs) h
theorem same_bad {l m : List Val} {k : Nat} {a b : Val} (h : l[k]? = some a) (g : m[k]? = some b) (hp : sames l m = sames (l.drop k) (m.drop k)) (hb : Vl.same a b = false) : sames l m = false := by
  rw [hp, drop_at h, drop_at g, sames, hb]; rfl
theorem same_good {l m : List Val} {k : Nat} {a b : Val} (h : l[k]? = some a) (g : m[k]? = some b) (hp : sames l m = sames (l.drop k) (m.drop k)) (hb : Vl.same a b = true) : sames l m = sames (l.drop (k + 1)) (m.drop (k + 1)) := by
  rw [hp, drop_at h, drop_at g, sames, hb]; simp
theorem same_end {l m : List Val} {k : Nat} (h : ¬ k < l.length) (he : m.length = l.length) (hp : sames l m = sames (l.drop k) (m.drop k)) : sames l m = true := by
  rw [hp, List.drop_eq_nil_of_le (by omega), List.drop_eq_nil_of_le (by omega), sames]
end Pd

set_option maxHeartbeats 2000000 in
theorem rightset_any {A : Option Addr} {n c : Nat} {l : List Val} {w : World} (h : Vs w A n l) :
    Calls Tryz.prog 152 #[.slice A n c] w fun e w' => e = .returned (.bool (Pd.rset l)) ∧ Below w.heap.size w w' := by
  obtain rfl := h.len.symm
  have hn := h.few
  have HA := Lib.hid h
  have hst := store_float
  clear h
  by_cases h0 : l.length < 1
  · have HR : Hid (Pd.rset l = false) := by
      have : Pd.rset l = false := by unfold Pd.rset; rw [decide_eq_false (by omega)]; rfl
      exact this
    go_enter Tryz.func152, Tryz.ntmps152
    go_wp2_with fail
    go_ret
    exact ⟨by rw [HR.out]; rfl, Below.refl _ _⟩
  by_cases h5 : 4 < l.length
  · have HR : Hid (Pd.rset l = false) := by
      have : Pd.rset l = false := by unfold Pd.rset; rw [decide_eq_false (p := l.length ≤ 4) (by omega)]; simp
      exact this
    go_enter Tryz.func152, Tryz.ntmps152
    go_wp2_with fail
    go_ret
    exact ⟨by rw [HR.out]; rfl, Below.refl _ _⟩
  have HR : Hid (Pd.rset l = l.all Vl.right) := by
    have : Pd.rset l = l.all Vl.right := by unfold Pd.rset; rw [decide_eq_true (p := l.length ≤ 4) (by omega), decide_eq_true (p := 1 ≤ l.length) (by omega)]; rfl
    exact this
  go_enter Tryz.func152, Tryz.ntmps152
  go_wp2_with fail
  go_loopw [15] (fun ii wr => ∃ k : Nat, k ≤ l.length ∧ ii = .int .i64 (k : Int) ∧ l.all Vl.right = (l.drop k).all Vl.right ∧ Below w.heap.size w wr) (fun ii _ => l.length - (intOf ii).toNat)
  case atStart => exact ⟨0, by omega, rfl, rfl, Below.refl _ _⟩
  case round =>
    obtain ⟨k, hk, rfl, hl, hB⟩ := hrel
    have HL := Lib.hid hl
    have HB := Lib.hid hB
    clear hl hB
    by_cases hlt : k < l.length
    · obtain ⟨g, o, rfl, hg⟩ := HA.out.at (by omega)
      obtain ⟨a, ha⟩ : ∃ a, l[k]? = some a := ⟨_, List.getElem?_eq_getElem hlt⟩
      have HG := Lib.hid ha
      have hs := (hg k a ha).later HB.out
      obtain ⟨c0, c1, c2, c3, c4⟩ := hs
      clear hg ha
      go_wp2_with fail
      refine (vright_v a _).mono ?_
      rintro e w2 ⟨rfl, hb⟩
      have HB2 := Lib.hid (below_then (below_then HB.out (one_new _ _)) hb)
      clear c0 c1 c2 c3 c4 hb
      cases hr : Vl.right a
      · have HM := Lib.hid (Pd.all_bad HG.out hr)
        go_wp2_with fail
        go_ret
        exact ⟨by rw [HR.out, HM.out]; rfl, HB2.out⟩
      · have HM := Lib.hid (Pd.all_good HG.out HL.out hr)
        go_wp2_with fail
        exact ⟨⟨k + 1, by omega, rfl, HM.out, HB2.out⟩, by simp [intOf]; omega⟩
    · have HM := Lib.hid (Pd.all_end hlt HL.out)
      go_wp2_with fail
      go_ret
      exact ⟨by rw [HR.out, HM.out]; rfl, HB.out⟩

set_option maxHeartbeats 4000000 in
theorem equal_any {A B : Option Addr} {n c n' c' : Nat} {l m : List Val} {w : World} (h : Vs w A n l) (h' : Vs w B n' m) :
    Calls Tryz.prog 153 #[.slice A n c, .slice B n' c', .func (.func 105) #[] #[]] w fun e w' => e = .returned (.bool (Pd.sames l m)) ∧ Below w.heap.size w w' := by
  obtain rfl := h.len.symm
  obtain rfl := h'.len.symm
  have hn := h.few
  have hn' := h'.few
  have HA := Lib.hid h
  have HA' := Lib.hid h'
  have hst := store_float
  clear h h'
  by_cases hlen : l.length = m.length
  case neg =>
    have HM := Lib.hid (Pd.other_len hlen)
    have hlen' : ¬ (l.length : Int) = (m.length : Int) := by omega
    go_enter Tryz.func153, Tryz.ntmps153
    go_wp2_with fail
    go_ret
    exact ⟨by rw [HM.out]; rfl, Below.refl _ _⟩
  have hme : m.length = l.length := hlen.symm
  rw [hme] at HA' hn' ⊢
  clear hlen
  go_enter Tryz.func153, Tryz.ntmps153
  go_wp2_with fail
  go_loopw [17] (fun ii wr => ∃ k : Nat, k ≤ l.length ∧ ii = .int .i64 (k : Int) ∧ Pd.sames l m = Pd.sames (l.drop k) (m.drop k) ∧ Below w.heap.size w wr) (fun ii _ => l.length - (intOf ii).toNat)
  case atStart => exact ⟨0, by omega, rfl, rfl, Below.refl _ _⟩
  case round =>
    obtain ⟨k, hk, rfl, hl, hB⟩ := hrel
    have HL := Lib.hid hl
    have HB := Lib.hid hB
    clear hl hB
    by_cases hlt : k < l.length
    · obtain ⟨g, o, rfl, hg⟩ := HA.out.at (by omega)
      obtain ⟨g', o', rfl, hg'⟩ := HA'.out.at (by omega)
      obtain ⟨a, ha⟩ : ∃ a, l[k]? = some a := ⟨_, List.getElem?_eq_getElem hlt⟩
      obtain ⟨b, hb⟩ : ∃ b, m[k]? = some b := ⟨_, List.getElem?_eq_getElem (by omega)⟩
      have HG := Lib.hid ha
      have HG' := Lib.hid hb
      obtain ⟨c0, c1, c2, c3, c4⟩ := (hg k a ha).later HB.out
      have hd1 := (hg' k b hb).later HB.out
      obtain ⟨d0, d1, d2, d3, d4⟩ := hd1
      have q0 : g' < wr.heap.size := cell_lt d0
      have q1 : g < wr.heap.size := cell_lt c0
      clear hg ha hg' hb
      go_wp2_with fail
      refine (vsame_v a b _).mono ?_
      rintro e w2 ⟨rfl, hb⟩
      have HB2 := Lib.hid (below_then (below_then HB.out (two_new _ _ _)) hb)
      clear c0 c1 c2 c3 c4 d0 d1 d2 d3 d4 hb
      cases hr : Vl.same a b
      · have HM := Lib.hid (Pd.same_bad HG.out HG'.out HL.out hr)
        go_wp2_with fail
        go_ret
        exact ⟨by rw [HM.out]; rfl, HB2.out⟩
      · have HM := Lib.hid (Pd.same_good HG.out HG'.out HL.out hr)
        go_wp2_with fail
        exact ⟨⟨k + 1, by omega, rfl, HM.out, HB2.out⟩, by simp [intOf]; omega⟩
    · have HM := Lib.hid (Pd.same_end hlt hme HL.out)
      go_wp2_with fail
      go_ret
      exact ⟨by rw [HM.out]; rfl, HB.out⟩
set_option maxHeartbeats 4000000 in
theorem rsames_any {A B : Option Addr} {n c n' c' : Nat} {l m : List Val} {w : World} (h : Vs w A n l) (h' : Vs w B n' m) :
    Calls Tryz.prog 136 #[.slice A n c, .slice B n' c'] w fun e w' => e = .returned (.bool (Pd.sames l m)) ∧ Below w.heap.size w w' := by
  obtain rfl := h.len.symm
  obtain rfl := h'.len.symm
  have hn := h.few
  have hn' := h'.few
  have HA := Lib.hid h
  have HA' := Lib.hid h'
  clear h h'
  by_cases hlen : l.length = m.length
  case neg =>
    have HM := Lib.hid (Pd.other_len hlen)
    have hlen' : ¬ (l.length : Int) = (m.length : Int) := by omega
    go_enter Tryz.func136, Tryz.ntmps136
    go_wp2_with fail
    go_ret
    exact ⟨by rw [HM.out]; rfl, Below.refl _ _⟩
  have hme : m.length = l.length := hlen.symm
  rw [hme] at HA' hn' ⊢
  clear hlen
  go_enter Tryz.func136, Tryz.ntmps136
  go_wp2_with fail
  go_loopw [5] (fun ii wr => ∃ k : Nat, k ≤ l.length ∧ ii = .int .i64 (k : Int) ∧ Pd.sames l m = Pd.sames (l.drop k) (m.drop k) ∧ Below w.heap.size w wr) (fun ii _ => l.length - (intOf ii).toNat)
  case atStart => exact ⟨0, by omega, rfl, rfl, Below.refl _ _⟩
  case round =>
    obtain ⟨k, hk, rfl, hl, hB⟩ := hrel
    have HL := Lib.hid hl
    have HB := Lib.hid hB
    clear hl hB
    by_cases hlt : k < l.length
    · obtain ⟨g, o, rfl, hg⟩ := HA.out.at (by omega)
      obtain ⟨g', o', rfl, hg'⟩ := HA'.out.at (by omega)
      obtain ⟨a, ha⟩ : ∃ a, l[k]? = some a := ⟨_, List.getElem?_eq_getElem hlt⟩
      obtain ⟨b, hb⟩ : ∃ b, m[k]? = some b := ⟨_, List.getElem?_eq_getElem (by omega)⟩
      have HG := Lib.hid ha
      have HG' := Lib.hid hb
      have c0 := fun x : Later wr => (((hg k a ha).later HB.out).later x.below).h0
      have c1 := fun x : Later wr => (((hg k a ha).later HB.out).later x.below).h1
      have c2 := fun x : Later wr => (((hg k a ha).later HB.out).later x.below).h2
      have c3 := fun x : Later wr => (((hg k a ha).later HB.out).later x.below).h3
      have c4 := fun x : Later wr => (((hg k a ha).later HB.out).later x.below).h4
      have d0 := fun x : Later wr => (((hg' k b hb).later HB.out).later x.below).h0
      have d1 := fun x : Later wr => (((hg' k b hb).later HB.out).later x.below).h1
      have d2 := fun x : Later wr => (((hg' k b hb).later HB.out).later x.below).h2
      have d3 := fun x : Later wr => (((hg' k b hb).later HB.out).later x.below).h3
      have d4 := fun x : Later wr => (((hg' k b hb).later HB.out).later x.below).h4
      clear hg ha hg' hb
      haveI := later_some wr
      go_wp2_with fail
      refine wp_region_later (W := wr) (by kernel_rfl) (by kernel_rfl) (Below.refl _ _) ?_
      repeat (go_big_quiet_step (first | (go_at_call 108; exact calls_later (rvsame_v a b _))))
      refine wpQuiet_nil ?_
      rintro _ ⟨x, rfl⟩
      have HB2 := Lib.hid (below_then HB.out x.below)
      clear c0 c1 c2 c3 c4 d0 d1 d2 d3 d4
      cases hr : Vl.same a b
      · have HM := Lib.hid (Pd.same_bad HG.out HG'.out HL.out hr)
        go_wp2_with fail
        go_ret
        exact ⟨by rw [HM.out]; rfl, HB2.out⟩
      · have HM := Lib.hid (Pd.same_good HG.out HG'.out HL.out hr)
        go_wp2_with fail
        exact ⟨⟨k + 1, by omega, rfl, HM.out, HB2.out⟩, by simp [intOf]; omega⟩
    · have HM := Lib.hid (Pd.same_end hlt hme HL.out)
      go_wp2_with fail
      go_ret
      exact ⟨by rw [HM.out]; rfl, HB.out⟩

theorem Pd.cut_front (s : ByteArray) (n : Nat) : (s.extract 0 n).toList = s.toList.take n := by
  rw [ByteArray.toList_eq, ByteArray.toList_eq, ByteArray.data_extract]
  simp
theorem Pd.pre_of {s p : ByteArray} (h : p.size ≤ s.size) : ((s.extract 0 p.size).toList == p.toList) = Pd.pre s p := by
  rw [Pd.cut_front, Pd.pre, decide_eq_true h]; rfl
end Go.Proofs.YtgenmebmdpnjhaaGreat
