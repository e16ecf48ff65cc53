
/- Words on filters by their tests alone; what a filter is, told by its tests; the contracts of the statements' more and at. -/
import Derived.Test.YtfbfbajccphkoaaGreatFilReduce
import Derived.Test.YtfbfbajccphkoaaGreatFilRight
import Derived.Test.YtfbfbajccphkoaaGreatFeedAttrs
import Derived.Laws.Append
import Derived.Deep.AppendSrc
namespace Go.Proofs.YtfbfbajccphkoaaGreat
open Go.RowKit
set_option linter.unusedVariables false

namespace Fi
def impliedT (p : Prd) (g : List Prd) : Bool := g.any fun q => (q.name.toList == p.name.toList) && Pd.implies q p
def voidT (g : List Prd) : Bool := g.any fun q => Pd.right q && Pd.void q
def coversT (f g : List Prd) : Bool := voidT g || f.all fun p => impliedT p g
def takesT (f : List Prd) (a : List Att) : Bool := f.all (takes1 a)
def sameT : List Prd → List Prd → Bool
  | [], [] => true
  | a :: l, b :: m => Pd.same a b && sameT l m
  | _, _ => false
def rightTAt (f : List Prd) (k : Nat) : Bool := match f[k]? with
  | none => false
  | some x => Pd.right x && (match k with
    | 0 => true
    | j + 1 => match f[j]? with
      | none => false
      | some y => !Op.bytesLess x.name.toList y.name.toList)
def rightT (f : List Prd) : Bool := decide (f.length ≤ 3) && (List.range f.length).all (rightTAt f)
def anyT (L : List (List Prd)) (a : List Att) : Bool := L.any fun f => takesT f a
def stepT (row : List (List Prd)) (f : List Prd) : List (List Prd) := if row.any (fun g => coversT g f) then row else row.filter (fun g => !coversT f g) ++ [f]
def reduceT (L : List (List Prd)) : List (List Prd) := L.foldl stepT []
theorem implied_t (p : Prd) (g : List Pt) : implied p g = impliedT p (g.map (·.p)) := by unfold implied impliedT; rw [List.any_map]; rfl
theorem void_t (g : List Pt) : void g = voidT (g.map (·.p)) := by unfold void voidT; rw [List.any_map]; rfl
theorem covers_t (f g : List Pt) : covers f g = coversT (f.map (·.p)) (g.map (·.p)) := by
  unfold covers coversT
  rw [void_t, List.all_map]
  congr 1
  congr 1
  funext p
  exact implied_t p.p g
theorem takes_t (f : List Pt) (a : List Att) : takes f a = takesT (f.map (·.p)) a := by unfold takes takesT; rw [List.all_map]; rfl
theorem same_t : ∀ (f g : List Pt), same f g = sameT (f.map (·.p)) (g.map (·.p))
  | [], [] => rfl
  | a :: l, b :: m => by simp only [same, List.map_cons, sameT]; rw [same_t l m]
  | [], _ :: _ => rfl
  | _ :: _, [] => rfl
theorem rightAt_t (f : List Pt) (k : Nat) : rightAt f k = rightTAt (f.map (·.p)) k := by
  unfold rightAt rightTAt
  rw [List.getElem?_map]
  cases f[k]? with
  | none => rfl
  | some x =>
    cases k with
    | zero => rfl
    | succ j =>
      simp only [Option.map_some, List.getElem?_map]
      cases f[j]? <;> rfl
theorem right_t (f : List Pt) : right f = rightT (f.map (·.p)) := by
  unfold right rightT
  rw [List.length_map]
  congr 1
  congr 1
  funext k
  exact rightAt_t f k
theorem any_t (L : List Ft) (a : List Att) : any L a = anyT (L.map tests) a := by
  unfold any anyT
  rw [List.any_map]
  congr 1
  funext f
  exact takes_t f.l a
theorem step_t (row : List Ft) (f : Ft) : (step row f).map tests = stepT (row.map tests) (tests f) := by
  unfold step stepT covered
  rw [List.any_map]
  have e : (row.any fun g => covers g.l f.l) = row.any ((fun g => coversT g (tests f)) ∘ tests) := by
    congr 1
    funext g
    exact covers_t g.l f.l
  rw [e]
  split
  · rfl
  · rw [List.map_append, List.filter_map]
    congr 2
    congr 1
    funext g
    show stays f g = !coversT (tests f) (tests g)
    unfold stays
    rw [covers_t]
    rfl
theorem fold_t : ∀ (L row : List Ft), (L.foldl step row).map tests = (L.map tests).foldl stepT (row.map tests)
  | [], row => rfl
  | f :: L, row => by simp only [List.foldl_cons, List.map_cons]; rw [fold_t L, step_t]
theorem reduce_t (L : List Ft) : (reduce L).map tests = reduceT (L.map tests) := fold_t L []
end Fi
/-- A filter of such tests, as memory holds it. -/
structure Is (w : World) (f : Ft) (ts : List Prd) : Prop where
  is : IsFt w f
  ts : Fi.tests f = ts
theorem Is.later {w w' : World} {f : Ft} {ts : List Prd} (h : Is w f ts) (k : Below w.heap.size w w') : Is w' f ts := ⟨h.is.later k, h.ts⟩
theorem Is.len {w : World} {f : Ft} {ts : List Prd} (h : Is w f ts) : f.l.length = ts.length := by rw [← h.ts]; simp [Fi.tests]
abbrev nilf : Ft := ⟨none, 0, []⟩
theorem is_nil (w : World) : Is w nilf [] := ⟨⟨⟨Rs.nil _ _ _, by simp, by simp⟩, fun _ => ⟨rfl, rfl⟩⟩, rfl⟩

theorem covers_is {w : World} {f g : Ft} {l m : List Prd} {b : Bool} (hf : Is w f l) (hg : Is w g m) (hb : Fi.coversT l m = b) : Calls Tryz.prog 15 #[.slice f.A f.l.length f.c, .slice g.A g.l.length g.c] w fun e w' => e = .returned (.bool b) ∧ Below w.heap.size w w' := by
  have := covers_any (c := f.c) (c' := g.c) hf.is.ps hg.is.ps
  rw [Fi.covers_t] at this
  rw [← hb, ← hf.ts, ← hg.ts]
  exact this
theorem same_is {w : World} {f g : Ft} {l m : List Prd} {b : Bool} (hf : Is w f l) (hg : Is w g m) (hb : Fi.sameT l m = b) : Calls Tryz.prog 13 #[.slice f.A f.l.length f.c, .slice g.A g.l.length g.c] w fun e w' => e = .returned (.bool b) ∧ Below w.heap.size w w' := by
  have := fsame_any (c := f.c) (c' := g.c) hf.is.ps hg.is.ps
  rw [Fi.same_t] at this
  rw [← hb, ← hf.ts, ← hg.ts]
  exact this
theorem right_is {w : World} {f : Ft} {l : List Prd} {b : Bool} (hf : Is w f l) (hb : Fi.rightT l = b) : Calls Tryz.prog 9 #[.slice f.A f.l.length f.c] w fun e w' => e = .returned (.bool b) ∧ Below w.heap.size w w' := by
  have := fright_any (c := f.c) hf.is.ps
  rw [Fi.right_t] at this
  rw [← hb, ← hf.ts]
  exact this
theorem takes_is {w : World} {f : Ft} {l : List Prd} {b : Bool} {A : Option Addr} {n c : Nat} {a : List Att} (hf : Is w f l) (ha : Ats w A n a) (hfit : ∀ x, x ∈ a → Fit x.v) (hb : Fi.takesT l a = b) : Calls Tryz.prog 11 #[.slice f.A f.l.length f.c, .slice A n c] w fun e w' => e = .returned (.bool b) ∧ Below w.heap.size w w' := by
  have := ftakes_any (c := f.c) (c' := c) hf.is.ps ha hfit
  rw [Fi.takes_t] at this
  rw [← hb, ← hf.ts]
  exact this
theorem any_is {w : World} {L : List Ft} {ts : List (List Prd)} {b : Bool} {A B : Option Addr} {n c n' c' : Nat} {a : List Att} (hL : Fs w A n L) (ht : L.map Fi.tests = ts) (ha : Ats w B n' a) (hfit : ∀ x, x ∈ a → Fit x.v) (hb : Fi.anyT ts a = b) : Calls Tryz.prog 19 #[.slice A n c, .slice B n' c'] w fun e w' => e = .returned (.bool b) ∧ Below w.heap.size w w' := by
  have := fany_any (c := c) (c' := c') hL ha hfit
  rw [Fi.any_t] at this
  rw [← hb, ← ht]
  exact this
/-- Reduce, by the tests. -/
theorem reduce_is {w : World} {L : List Ft} {ts ts' : List (List Prd)} {A : Option Addr} {n c : Nat} (hL : Fs w A n L) (ht : L.map Fi.tests = ts) (hn : L.length ≤ 900) (hl : ∀ f, f ∈ L → f.l.length ≤ 1000 ∧ ∀ x, x ∈ f.l → x.p.set.length ≤ 2932031007317) (hr : Fi.reduceT ts = ts') : Calls Tryz.prog 21 #[.slice A n c] w (RowPost ts' w) := by
  have := reduce_any (c := c) hL hn hl
  rw [Fi.reduce_t, ht, hr] at this
  exact this
/-- An own row of filters, its tests fine: how it reads. -/
theorem RowPost.fs {w w' : World} {e : Ending} {ts : List (List Prd)} (h : RowPost ts w e w') (hf : ∀ t, t ∈ ts → ∀ p, p ∈ t → Pd.Fits p) (hn : ts.length ≤ 900) : ∃ (A : Option Addr) (c : Nat) (M : List Ft), e = .returned (.slice A M.length c) ∧ M.map Fi.tests = ts ∧ Fs w' A M.length M ∧ (∀ f, f ∈ M → Owned w.heap.size w' f) ∧ OwnF w.heap.size w' (.slice A M.length c) M ∧ Below w.heap.size w w' := by
  obtain ⟨v, M, rfl, hm, ho, he, hb⟩ := h
  obtain ⟨A, c, rfl, -, -, hr, -, -, -⟩ := ho.reads
  have hlen : M.length = ts.length := by rw [← hm]; simp
  exact ⟨A, c, M, rfl, hm, ⟨hr, fun f hf' => (he f hf').is (hf _ (by rw [← hm]; exact List.mem_map_of_mem hf')), by omega⟩, he, ho, hb⟩
/-- The test of 'more'. -/
abbrev Pd.moreT (nm : ByteArray) (n : Int) : Prd := ⟨nm, 6, ⟨1, n, 0, ⟨#[]⟩, false⟩, ⟨0, 0, 0, ⟨#[]⟩, false⟩, []⟩
theorem Pd.more_fits {nm : ByteArray} {n : Int} (h : nm.size ≤ 9223372036854775807) (h1 : -9223372036854775808 ≤ n) (h2 : n ≤ 9223372036854775807) : Pd.Fits (Pd.moreT nm n) := ⟨h, ⟨h1, h2, by show (0 : Nat) ≤ 9223372036854775807; omega⟩, Pd.small0.fit, by simp⟩
/-- A filter of one test, just made of a block. -/
theorem one_owned (w : World) (x : Pt) (hs : ∀ B : Nat, B ≤ w.heap.size → OwnS B (w.alloc x.box) x) : Owned w.heap.size (w.alloc x.box) ⟨some ⟨w.heap.size, 0, none⟩, 1, [x]⟩ := by
  refine ⟨OwnW.of_row (k := 13) (n := 1) (xs := pflat [x]) (Nat.le_refl _) (heap_alloc_new _ _) rfl (by unfold maxLen; omega), fun y hy => ?_⟩
  rw [List.mem_singleton.1 hy]
  exact hs _ (Nat.le_refl _)
theorem more_any (nm : ByteArray) (n : Int) (hnm : nm.size ≤ 9223372036854775807) (h1 : -9223372036854775808 ≤ n) (h2 : n ≤ 9223372036854775807) (w : World) :
    Calls Tryz.prog 70 #[.string nm, .int .i64 n] w fun e w' => ∃ f : Ft, e = .returned (.slice f.A f.l.length f.c) ∧ Is w' f [Pd.moreT nm n] ∧ Owned w.heap.size w' f ∧ Below w.heap.size w w' := by
  have hst := store_float
  go_enter Tryz.func70, Tryz.ntmps70
  go_wp2_with fail
  refine (vint_any n _).mono ?_
  rintro e w2 ⟨rfl, hb⟩
  have HB := Lib.hid hb
  clear hb
  go_wp2_with fail
  go_ret
  have ho : Owned w2.heap.size (w2.alloc (Pt.box ⟨Pd.moreT nm n, none, 0⟩)) ⟨some ⟨w2.heap.size, 0, none⟩, 1, [⟨Pd.moreT nm n, none, 0⟩]⟩ := one_owned w2 _ (fun B hB => OwnW.nil _ _ _ (by rw [World.size_alloc]; omega))
  exact ⟨⟨some ⟨w2.heap.size, 0, none⟩, 1, [⟨Pd.moreT nm n, none, 0⟩]⟩, rfl, ⟨ho.is (fun p hp => by rw [List.mem_singleton.1 hp]; exact Pd.more_fits hnm h1 h2), rfl⟩, ho.sub HB.out.size, below_then HB.out (one_new _ _)⟩
theorem fat_any (n : Int) (h1 : -9223372036854775808 ≤ n) (h2 : n ≤ 9223372036854775807) (w : World) :
    Calls Tryz.prog 72 #[.int .i64 n] w fun e w' => ∃ (A : Option Addr), e = .returned (.slice A 1 1) ∧ Ats w' A 1 [⟨⟨#[97]⟩, ⟨1, n, 0, ⟨#[]⟩, false⟩⟩] ∧ Below w.heap.size w w' := by
  have hst := store_float
  go_enter Tryz.func72, Tryz.ntmps72
  go_wp2_with fail
  refine (vint_any n _).mono ?_
  rintro e w2 ⟨rfl, hb⟩
  have HB := Lib.hid hb
  clear hb
  go_wp2_with fail
  go_ret
  refine ⟨some ⟨w2.heap.size, 0, none⟩, rfl, ⟨new_att w2 ⟨⟨#[97]⟩, ⟨1, n, 0, ⟨#[]⟩, false⟩⟩, fun a ha => ?_, by omega⟩, below_then HB.out (one_new _ _)⟩
  rw [List.mem_singleton.1 ha]
  show (1 : Nat) ≤ 9223372036854775807
  omega
end Go.Proofs.YtfbfbajccphkoaaGreat
