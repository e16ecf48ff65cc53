/- G3: PrdBox, Fil, Prd3, Prd4, Prd5, Prd6, FilLoop in one text. -/
import Derived.Test.YtgenmebmdpnjhaaGreatPrd2
import Derived.Test.YtgenmebmdpnjhaaGreatG1c
namespace Go.Proofs.YtgenmebmdpnjhaaGreat
open Go.RowKit
set_option linter.unusedVariables false

/-- Thirteen cells of a block turned. -/
abbrev set13 (w : World) (g : Nat) (v0 v1 v2 v3 v4 v5 v6 v7 v8 v9 v10 v11 v12 : Value) : World :=
  ((((((((((((w.setCell ⟨g, 0, none⟩ v0).setCell ⟨g, 1, none⟩ v1).setCell ⟨g, 2, none⟩ v2).setCell ⟨g, 3, none⟩ v3).setCell ⟨g, 4, none⟩ v4).setCell ⟨g, 5, none⟩ v5).setCell ⟨g, 6, none⟩ v6).setCell ⟨g, 7, none⟩ v7).setCell ⟨g, 8, none⟩ v8).setCell ⟨g, 9, none⟩ v9).setCell ⟨g, 10, none⟩ v10).setCell ⟨g, 11, none⟩ v11).setCell ⟨g, 12, none⟩ v12
theorem row13 {w : World} {g : Nat} {t : TypeId} {c0 c1 c2 c3 c4 c5 c6 c7 c8 c9 c10 c11 c12 : Value} (v0 v1 v2 v3 v4 v5 v6 v7 v8 v9 v10 v11 v12 : Value) (hg : w.heap[g]? = some (.cells #[c0, c1, c2, c3, c4, c5, c6, c7, c8, c9, c10, c11, c12] t (0, 0))) :
    (set13 w g v0 v1 v2 v3 v4 v5 v6 v7 v8 v9 v10 v11 v12).heap[g]? = some (.cells #[v0, v1, v2, v3, v4, v5, v6, v7, v8, v9, v10, v11, v12] t (0, 0)) := by
  have h0 := heap_setCell_same w g 0 _ t v0 hg
  simp only [List.setIfInBounds_toArray, List.set_cons_zero] at h0
  have h1 := heap_setCell_same _ g 1 _ t v1 h0
  simp only [List.setIfInBounds_toArray, List.set_cons_zero, List.set_cons_succ] at h1
  have h2 := heap_setCell_same _ g 2 _ t v2 h1
  simp only [List.setIfInBounds_toArray, List.set_cons_zero, List.set_cons_succ] at h2
  have h3 := heap_setCell_same _ g 3 _ t v3 h2
  simp only [List.setIfInBounds_toArray, List.set_cons_zero, List.set_cons_succ] at h3
  have h4 := heap_setCell_same _ g 4 _ t v4 h3
  simp only [List.setIfInBounds_toArray, List.set_cons_zero, List.set_cons_succ] at h4
  have h5 := heap_setCell_same _ g 5 _ t v5 h4
  simp only [List.setIfInBounds_toArray, List.set_cons_zero, List.set_cons_succ] at h5
  have h6 := heap_setCell_same _ g 6 _ t v6 h5
  simp only [List.setIfInBounds_toArray, List.set_cons_zero, List.set_cons_succ] at h6
  have h7 := heap_setCell_same _ g 7 _ t v7 h6
  simp only [List.setIfInBounds_toArray, List.set_cons_zero, List.set_cons_succ] at h7
  have h8 := heap_setCell_same _ g 8 _ t v8 h7
  simp only [List.setIfInBounds_toArray, List.set_cons_zero, List.set_cons_succ] at h8
  have h9 := heap_setCell_same _ g 9 _ t v9 h8
  simp only [List.setIfInBounds_toArray, List.set_cons_zero, List.set_cons_succ] at h9
  have h10 := heap_setCell_same _ g 10 _ t v10 h9
  simp only [List.setIfInBounds_toArray, List.set_cons_zero, List.set_cons_succ] at h10
  have h11 := heap_setCell_same _ g 11 _ t v11 h10
  simp only [List.setIfInBounds_toArray, List.set_cons_zero, List.set_cons_succ] at h11
  have h12 := heap_setCell_same _ g 12 _ t v12 h11
  simp only [List.setIfInBounds_toArray, List.set_cons_zero, List.set_cons_succ] at h12
  exact h12
theorem kept13 (w : World) (g : Nat) (v0 v1 v2 v3 v4 v5 v6 v7 v8 v9 v10 v11 v12 : Value) : Kept (· = g) w (set13 w g v0 v1 v2 v3 v4 v5 v6 v7 v8 v9 v10 v11 v12) := by
  have st : ∀ (u : World) (k : Nat) (x : Value), Kept (· = g) u (u.setCell ⟨g, k, none⟩ x) := fun u k x => Kept.setCell (S := (· = g)) u ⟨g, k, none⟩ rfl x
  have k0 := st w 0 v0
  have k1 := k0.then (st _ 1 v1)
  have k2 := k1.then (st _ 2 v2)
  have k3 := k2.then (st _ 3 v3)
  have k4 := k3.then (st _ 4 v4)
  have k5 := k4.then (st _ 5 v5)
  have k6 := k5.then (st _ 6 v6)
  have k7 := k6.then (st _ 7 v7)
  have k8 := k7.then (st _ 8 v8)
  have k9 := k8.then (st _ 9 v9)
  have k10 := k9.then (st _ 10 v10)
  have k11 := k10.then (st _ 11 v11)
  have k12 := k11.then (st _ 12 v12)
  exact k12
/-- V turned. -/
abbrev setV (w : World) (g : Nat) (v2 v3 v4 v5 v6 : Value) : World :=
  ((((w.setCell ⟨g, 2, none⟩ v2).setCell ⟨g, 3, none⟩ v3).setCell ⟨g, 4, none⟩ v4).setCell ⟨g, 5, none⟩ v5).setCell ⟨g, 6, none⟩ v6
theorem rowV {w : World} {g : Nat} {t : TypeId} {c0 c1 c2 c3 c4 c5 c6 c7 c8 c9 c10 c11 c12 : Value} (v2 v3 v4 v5 v6 : Value) (hg : w.heap[g]? = some (.cells #[c0, c1, c2, c3, c4, c5, c6, c7, c8, c9, c10, c11, c12] t (0, 0))) :
    (setV w g v2 v3 v4 v5 v6).heap[g]? = some (.cells #[c0, c1, v2, v3, v4, v5, v6, c7, c8, c9, c10, c11, c12] t (0, 0)) := by
  have h2 := heap_setCell_same w g 2 _ t v2 hg
  have h3 := heap_setCell_same _ g 3 _ t v3 h2
  have h4 := heap_setCell_same _ g 4 _ t v4 h3
  have h5 := heap_setCell_same _ g 5 _ t v5 h4
  have h6 := heap_setCell_same _ g 6 _ t v6 h5
  exact h6
theorem keptV (w : World) (g : Nat) (v2 v3 v4 v5 v6 : Value) : Kept (· = g) w (setV w g v2 v3 v4 v5 v6) :=
  ((((Kept.setCell (S := (· = g)) w ⟨g, 2, none⟩ rfl v2).then (Kept.setCell (S := (· = g)) _ ⟨g, 3, none⟩ rfl v3)).then (Kept.setCell (S := (· = g)) _ ⟨g, 4, none⟩ rfl v4)).then (Kept.setCell (S := (· = g)) _ ⟨g, 5, none⟩ rfl v5)).then (Kept.setCell (S := (· = g)) _ ⟨g, 6, none⟩ rfl v6)
/-- W turned. -/
abbrev setW (w : World) (g : Nat) (v7 v8 v9 v10 v11 : Value) : World :=
  ((((w.setCell ⟨g, 7, none⟩ v7).setCell ⟨g, 8, none⟩ v8).setCell ⟨g, 9, none⟩ v9).setCell ⟨g, 10, none⟩ v10).setCell ⟨g, 11, none⟩ v11
theorem rowW {w : World} {g : Nat} {t : TypeId} {c0 c1 c2 c3 c4 c5 c6 c7 c8 c9 c10 c11 c12 : Value} (v7 v8 v9 v10 v11 : Value) (hg : w.heap[g]? = some (.cells #[c0, c1, c2, c3, c4, c5, c6, c7, c8, c9, c10, c11, c12] t (0, 0))) :
    (setW w g v7 v8 v9 v10 v11).heap[g]? = some (.cells #[c0, c1, c2, c3, c4, c5, c6, v7, v8, v9, v10, v11, c12] t (0, 0)) := by
  have h7 := heap_setCell_same w g 7 _ t v7 hg
  have h8 := heap_setCell_same _ g 8 _ t v8 h7
  have h9 := heap_setCell_same _ g 9 _ t v9 h8
  have h10 := heap_setCell_same _ g 10 _ t v10 h9
  have h11 := heap_setCell_same _ g 11 _ t v11 h10
  exact h11
theorem keptW (w : World) (g : Nat) (v7 v8 v9 v10 v11 : Value) : Kept (· = g) w (setW w g v7 v8 v9 v10 v11) :=
  ((((Kept.setCell (S := (· = g)) w ⟨g, 7, none⟩ rfl v7).then (Kept.setCell (S := (· = g)) _ ⟨g, 8, none⟩ rfl v8)).then (Kept.setCell (S := (· = g)) _ ⟨g, 9, none⟩ rfl v9)).then (Kept.setCell (S := (· = g)) _ ⟨g, 10, none⟩ rfl v10)).then (Kept.setCell (S := (· = g)) _ ⟨g, 11, none⟩ rfl v11)
/-- Its cells, none frozen. -/
structure Thirteen (w : World) (g : Nat) (p : Prd) (A : Option Addr) (n c : Nat) : Prop where
  h0 : w.cell? ⟨g, 0, none⟩ = some (.string p.name)
  h1 : w.cell? ⟨g, 1, none⟩ = some (.int .i64 p.t)
  h2 : w.cell? ⟨g, 2, none⟩ = some (.int .i64 p.v.k)
  h3 : w.cell? ⟨g, 3, none⟩ = some (.int .i64 p.v.n)
  h4 : w.cell? ⟨g, 4, none⟩ = some (.float .f64 p.v.x)
  h5 : w.cell? ⟨g, 5, none⟩ = some (.string p.v.s)
  h6 : w.cell? ⟨g, 6, none⟩ = some (.bool p.v.b)
  h7 : w.cell? ⟨g, 7, none⟩ = some (.int .i64 p.w.k)
  h8 : w.cell? ⟨g, 8, none⟩ = some (.int .i64 p.w.n)
  h9 : w.cell? ⟨g, 9, none⟩ = some (.float .f64 p.w.x)
  h10 : w.cell? ⟨g, 10, none⟩ = some (.string p.w.s)
  h11 : w.cell? ⟨g, 11, none⟩ = some (.bool p.w.b)
  h12 : w.cell? ⟨g, 12, none⟩ = some (.slice A n c)
  f0 : w.frozen? ⟨g, 0, none⟩ = false
  f1 : w.frozen? ⟨g, 1, none⟩ = false
  f2 : w.frozen? ⟨g, 2, none⟩ = false
  f3 : w.frozen? ⟨g, 3, none⟩ = false
  f4 : w.frozen? ⟨g, 4, none⟩ = false
  f5 : w.frozen? ⟨g, 5, none⟩ = false
  f6 : w.frozen? ⟨g, 6, none⟩ = false
  f7 : w.frozen? ⟨g, 7, none⟩ = false
  f8 : w.frozen? ⟨g, 8, none⟩ = false
  f9 : w.frozen? ⟨g, 9, none⟩ = false
  f10 : w.frozen? ⟨g, 10, none⟩ = false
  f11 : w.frozen? ⟨g, 11, none⟩ = false
  f12 : w.frozen? ⟨g, 12, none⟩ = false
theorem thirteen {w : World} {g : Nat} {p : Prd} {A : Option Addr} {n c : Nat} (hg : w.heap[g]? = some (pbox p A n c)) : Thirteen w g p A n c :=
  ⟨cell_of_row _ _ 0 _ _ _ hg, cell_of_row _ _ 1 _ _ _ hg, cell_of_row _ _ 2 _ _ _ hg, cell_of_row _ _ 3 _ _ _ hg, cell_of_row _ _ 4 _ _ _ hg, cell_of_row _ _ 5 _ _ _ hg, cell_of_row _ _ 6 _ _ _ hg, cell_of_row _ _ 7 _ _ _ hg, cell_of_row _ _ 8 _ _ _ hg, cell_of_row _ _ 9 _ _ _ hg, cell_of_row _ _ 10 _ _ _ hg, cell_of_row _ _ 11 _ _ _ hg, cell_of_row _ _ 12 _ _ _ hg,
   frozen_of_row _ _ 0 _ _ hg, frozen_of_row _ _ 1 _ _ hg, frozen_of_row _ _ 2 _ _ hg, frozen_of_row _ _ 3 _ _ hg, frozen_of_row _ _ 4 _ _ hg, frozen_of_row _ _ 5 _ _ hg, frozen_of_row _ _ 6 _ _ hg, frozen_of_row _ _ 7 _ _ hg, frozen_of_row _ _ 8 _ _ hg, frozen_of_row _ _ 9 _ _ hg, frozen_of_row _ _ 10 _ _ hg, frozen_of_row _ _ 11 _ _ hg, frozen_of_row _ _ 12 _ _ hg⟩
/-- A test's block whose V, W or Set was turned. -/
theorem turnV {w : World} {g : Nat} {p : Prd} {A : Option Addr} {n c : Nat} (hg : w.heap[g]? = some (pbox p A n c)) (v : Val) : (setV w g (.int .i64 v.k) (.int .i64 v.n) (.float .f64 v.x) (.string v.s) (.bool v.b)).heap[g]? = some (pbox { p with v := v } A n c) := rowV _ _ _ _ _ hg
theorem turnW {w : World} {g : Nat} {p : Prd} {A : Option Addr} {n c : Nat} (hg : w.heap[g]? = some (pbox p A n c)) (v : Val) : (setW w g (.int .i64 v.k) (.int .i64 v.n) (.float .f64 v.x) (.string v.s) (.bool v.b)).heap[g]? = some (pbox { p with w := v } A n c) := rowW _ _ _ _ _ hg
theorem turnS {w : World} {g : Nat} {p : Prd} {A : Option Addr} {n c : Nat} (hg : w.heap[g]? = some (pbox p A n c)) (A' : Option Addr) (n' c' : Nat) (l : List Val) : (w.setCell ⟨g, 12, none⟩ (.slice A' n' c')).heap[g]? = some (pbox { p with set := l } A' n' c') := heap_setCell_same w g 12 _ _ _ hg
theorem turn13 {w : World} {g : Nat} {p q : Prd} {A B : Option Addr} {n c m d : Nat} (hg : w.heap[g]? = some (pbox p A n c)) : (set13 w g (.string q.name) (.int .i64 q.t) (.int .i64 q.v.k) (.int .i64 q.v.n) (.float .f64 q.v.x) (.string q.v.s) (.bool q.v.b) (.int .i64 q.w.k) (.int .i64 q.w.n) (.float .f64 q.w.x) (.string q.w.s) (.bool q.w.b) (.slice B m d)).heap[g]? = some (pbox q B m d) := row13 _ _ _ _ _ _ _ _ _ _ _ _ _ hg

theorem pbox_row {W : World} {g : Nat} {p : Prd} {A : Option Addr} {n c : Nat} (h : W.heap[g]? = some (pbox p A n c)) : PBox W g p A n c :=
  ⟨later_cell (cell_of_row _ _ 0 _ _ _ h), later_cell (cell_of_row _ _ 1 _ _ _ h), later_cell (cell_of_row _ _ 2 _ _ _ h), later_cell (cell_of_row _ _ 3 _ _ _ h), later_cell (cell_of_row _ _ 4 _ _ _ h), later_cell (cell_of_row _ _ 5 _ _ _ h), later_cell (cell_of_row _ _ 6 _ _ _ h), later_cell (cell_of_row _ _ 7 _ _ _ h), later_cell (cell_of_row _ _ 8 _ _ _ h), later_cell (cell_of_row _ _ 9 _ _ _ h), later_cell (cell_of_row _ _ 10 _ _ _ h), later_cell (cell_of_row _ _ 11 _ _ _ h), later_cell (cell_of_row _ _ 12 _ _ _ h)⟩
theorem vbox_row {W : World} {g : Nat} {v : Val} (h : W.heap[g]? = some (vbox v)) : VBox W g v :=
  ⟨later_cell (cell_of_row _ _ 0 _ _ _ h), later_cell (cell_of_row _ _ 1 _ _ _ h), later_cell (cell_of_row _ _ 2 _ _ _ h), later_cell (cell_of_row _ _ 3 _ _ _ h), later_cell (cell_of_row _ _ 4 _ _ _ h)⟩
/-- A row of values that the call made. -/
abbrev OwnV (B : Nat) (w : World) (v : Value) (l : List Val) : Prop := OwnW 5 B 64 w v l.length (vflat l)
theorem val_info : (Tryz.prog.info? 64).map (fun i => (i.zero, i.size, i.bytes)) = some (some (vl 0 0 0 ⟨#[]⟩ false), 5, 48) := by kernel_rfl
theorem ownw_base {k B n : Nat} {e : TypeId} {w : World} {v : Value} {xs : List Value} (h : OwnW k B e w v n xs) : ∀ i, v.ownBlock = some i → B ≤ i := by
  obtain ⟨A, c, rfl, -, -, -, hA, hb, -⟩ := h.reads
  intro i hi
  rw [hb] at hi
  obtain ⟨x, hx, rfl⟩ := Option.map_eq_some_iff.1 hi
  exact (hA x hx).1
theorem ownw_sub {k B C n : Nat} {e : TypeId} {w : World} {v : Value} {xs : List Value} (h : OwnW k B e w v n xs) (hc : C ≤ B) : OwnW k C e w v n xs := by
  refine ⟨⟨h.1.1, ?_⟩, Nat.le_trans hc h.2⟩
  rcases h.1.2 with hn | ⟨g, cap, cur, rfl, hb, hg, rest⟩
  · exact .inl hn
  · exact .inr ⟨g, cap, cur, rfl, Nat.le_trans hc hb, hg, rest⟩
theorem ownw_apart {k B b n : Nat} {e : TypeId} {w : World} {v : Value} {xs : List Value} (h : OwnW k B e w v n xs) (hb : b < B) : ∀ i, v.ownBlock = some i → ¬ i = b := by
  intro i hi e
  have := ownw_base h i hi
  omega
theorem ownv_add {B : Nat} {w : World} {v : Value} {l m : List Val} {n : Nat} (h : OwnW 5 B 64 w v (l.length + n) (vflat l ++ vflat m)) (hn : m.length = n := by rfl) : OwnV B w v (l ++ m) := by
  unfold OwnV
  rw [List.length_append, hn, vflat, List.flatMap_append]
  exact h
theorem new_val (w : World) (a : Val) : Rs 5 (w.alloc (vbox a)) (some ⟨w.heap.size, 0, none⟩) 1 (vflat [a]) := by
  refine ⟨rfl, .inr ⟨w.heap.size, 0, rfl, fun j u hj => ?_⟩⟩
  rw [World.cell?_alloc_new, Nat.zero_add]
  simpa [vflat, Val.cells] using hj
theorem OwnW.vs {B n : Nat} {w : World} {A : Option Addr} {c : Nat} {l : List Val} (h : OwnW 5 B 64 w (.slice A n c) n (vflat l)) (hz : ∀ a, a ∈ l → Fit a) : Vs w A n l := by
  obtain ⟨A', c', e, hc, hm, hr, -⟩ := h.reads
  cases e
  exact ⟨hr, hz, by unfold maxLen at hm; omega⟩
namespace Pd
/-- A value such as a Feed gives. -/
structure Small (a : Val) : Prop where
  lo : -9223372036854775808 ≤ a.n
  hi : a.n ≤ 9223372036854775807
  fl : a.x < 2 ^ 64
  txt : a.s.size ≤ 12
theorem Small.fit {a : Val} (h : Small a) : Fit a := ⟨h.lo, h.hi, by have := h.txt; omega⟩
theorem small0 : Small z0 := ⟨by decide, by decide, by decide, by decide⟩
theorem right_small {k n : Int} {x : Nat} {s : ByteArray} {t : Bool} (h1 : -9223372036854775808 ≤ n) (h2 : n ≤ 9223372036854775807) (h3 : x < 2 ^ 64) (h : Vl.right ⟨k, n, x, s, t⟩ = true) : Small ⟨k, n, x, s, t⟩ := by
  refine ⟨h1, h2, h3, ?_⟩
  have hk := Vl.right_kind h
  show s.size ≤ 12
  unfold Vl.right at h
  dsimp only at h hk
  rcases hk with rfl | rfl | rfl | rfl <;> simp [Vl.zs] at h
  · have := Vl.size_nil h.1.2; omega
  · have := Vl.size_nil h.1.2; omega
  · exact h.2
  · have := Vl.size_nil h.2; omega
/-- A test such as a Feed gives, of a name. -/
structure Fed (nm : ByteArray) (p : Prd) : Prop where
  name : p.name = nm
  lo : 1 ≤ p.t
  hi : p.t ≤ 10
  v : Small p.v
  w : Small p.w
  few : p.set.length ≤ 4
  set : ∀ a, a ∈ p.set → Small a
  right : At.word nm = true → Pd.right p = true
theorem zero0 : zero z0 = true := Vl.same_self _
end Pd
theorem Pd.Fed.is {nm : ByteArray} {p : Prd} {w : World} {A : Option Addr} {n c B : Nat} (h : Pd.Fed nm p) (hn : nm.size ≤ 9223372036854775807) (ho : OwnW 5 B 64 w (.slice A n c) n (vflat p.set)) : IsPrd w p A n :=
  ⟨by rw [h.name]; exact hn, h.v.fit, h.w.fit, ho.vs fun a ha => (h.set a ha).fit⟩
end Go.Proofs.YtgenmebmdpnjhaaGreat

namespace Go.Proofs.YtgenmebmdpnjhaaGreat
open Go.RowKit
set_option linter.unusedVariables false

/-- A test and where its Set lies. -/
structure Pt where
  p : Prd
  A : Option Addr
  c : Nat
def Pt.cells (x : Pt) : List Value := [.string x.p.name, .int .i64 x.p.t, .int .i64 x.p.v.k, .int .i64 x.p.v.n, .float .f64 x.p.v.x, .string x.p.v.s, .bool x.p.v.b, .int .i64 x.p.w.k, .int .i64 x.p.w.n, .float .f64 x.p.w.x, .string x.p.w.s, .bool x.p.w.b, .slice x.A x.p.set.length x.c]
theorem Pt.cells_len (x : Pt) : x.cells.length = 13 := rfl
abbrev Pt.box (x : Pt) : Obj := .cells x.cells.toArray 98
abbrev Pt.v (x : Pt) : Value := .agg x.cells.toArray
abbrev pflat (l : List Pt) : List Value := l.flatMap Pt.cells
theorem Pt.one (x : Pt) : ∀ u ∈ x.cells, u.oneCell' = true := by
  intro u hu
  simp only [Pt.cells, List.mem_cons, List.not_mem_nil, or_false] at hu
  rcases hu with rfl | rfl | rfl | rfl | rfl | rfl | rfl | rfl | rfl | rfl | rfl | rfl | rfl <;> rfl
theorem Val.one5 (a : Val) : ∀ u ∈ a.cells, u.oneCell' = true := by
  intro u hu
  simp only [Val.cells, List.mem_cons, List.not_mem_nil, or_false] at hu
  rcases hu with rfl | rfl | rfl | rfl | rfl <;> rfl
theorem pflat_one (l : List Pt) : ∀ u ∈ pflat l, u.oneCell' = true := by
  intro u hu
  obtain ⟨a, -, ha⟩ := List.mem_flatMap.1 hu
  exact a.one u ha
theorem prd_info : (Tryz.prog.info? 98).map (fun i => (i.zero, i.size, i.bytes)) = some (some (pv ⟨⟨#[]⟩, 0, ⟨0, 0, 0, ⟨#[]⟩, false⟩, ⟨0, 0, 0, ⟨#[]⟩, false⟩, []⟩ none 0 0), 13, 144) := by kernel_rfl
theorem prd_size : (Tryz.prog.info? 98).map (·.size) = some 13 := by kernel_rfl
theorem val_size : (Tryz.prog.info? 64).map (·.size) = some 5 := by kernel_rfl
theorem set_size : (Tryz.prog.info? 96).map (·.size) = some 1 := by kernel_rfl
/-- What is right of a test as memory holds it. -/
structure IsPt (w : World) (x : Pt) : Prop where
  is : IsPrd w x.p x.A x.p.set.length
  none_ : x.A = none → x.p.set.length = 0 ∧ x.c = 0
theorem IsPt.kept {S : Nat → Prop} {w w' : World} {x : Pt} (h : IsPt w x) (k : Kept S w w') (hs : ∀ a, x.A = some a → ¬ S a.block) : IsPt w' x := ⟨h.is.kept k hs, h.none_⟩
theorem IsPt.later {w w' : World} {x : Pt} (h : IsPt w x) (k : Below w.heap.size w w') : IsPt w' x := ⟨h.is.later k, h.none_⟩
/-- A slice reads as a row of tests. -/
structure Ps (w : World) (A : Option Addr) (n : Nat) (l : List Pt) : Prop where
  row : Rs 13 w A n (pflat l)
  each : ∀ x, x ∈ l → IsPt w x
  few : n ≤ 9223372036854775807
theorem Ps.len {w : World} {A : Option Addr} {n : Nat} {l : List Pt} (h : Ps w A n l) : l.length = n := by
  have := h.row.1
  rw [flat_len _ Pt.cells_len] at this
  omega
theorem Ps.later {w w' : World} {A : Option Addr} {n : Nat} {l : List Pt} (h : Ps w A n l) (k : Below w.heap.size w w') : Ps w' A n l := ⟨h.row.later k, fun x hx => (h.each x hx).later k, h.few⟩
theorem Ps.kept {S : Nat → Prop} {w w' : World} {A : Option Addr} {n : Nat} {l : List Pt} (h : Ps w A n l) (k : Kept S w w') (hs : ∀ x, A = some x → ¬ S x.block) (hs' : ∀ x, x ∈ l → ∀ a, x.A = some a → ¬ S a.block) : Ps w' A n l :=
  ⟨h.row.kept k hs, fun x hx => (h.each x hx).kept k (hs' x hx), h.few⟩
theorem Ps.at {w : World} {A : Option Addr} {n : Nat} {l : List Pt} (h : Ps w A n l) (h0 : 0 < l.length) : ∃ g o, A = some ⟨g, o, none⟩ ∧ ∀ i x, l[i]? = some x → ∀ j u, x.cells[j]? = some u → w.cell? ⟨g, o + i * 13 + j, none⟩ = some u := by
  have hp : 0 < (pflat l).length := by rw [flat_len _ Pt.cells_len]; omega
  rcases h.row.2 with h1 | ⟨g, o, rfl, hc⟩
  · rw [h1] at hp; simp at hp
  · refine ⟨g, o, rfl, fun i x hi j u hu => ?_⟩
    have hlt : j < 13 := (List.getElem?_eq_some_iff.1 hu).1
    have := hc (i * 13 + j) u (by rw [flat_get _ Pt.cells_len l i j x hi hlt]; exact hu)
    rw [← Nat.add_assoc] at this
    exact this
/-- A row of tests that the call made. -/
abbrev OwnP (B : Nat) (w : World) (v : Value) (l : List Pt) : Prop := OwnW 13 B 98 w v l.length (pflat l)
theorem ownp_add {B : Nat} {w : World} {v : Value} {l m : List Pt} {n : Nat} (h : OwnW 13 B 98 w v (l.length + n) (pflat l ++ pflat m)) (hn : m.length = n := by rfl) : OwnP B w v (l ++ m) := by
  unfold OwnP
  rw [List.length_append, hn, pflat, List.flatMap_append]
  exact h
theorem ownp_at {B : Nat} {w : World} {v : Value} {l : List Pt} (h : OwnP B w v l) (hl : 0 < l.length) : ∃ g c, v = .slice (some ⟨g, 0, none⟩) l.length c ∧ B ≤ g ∧ g < w.heap.size ∧ l.length ≤ c ∧ c ≤ maxLen ∧ ∀ j u, (pflat l)[j]? = some u → w.cell? ⟨g, 0 + j, none⟩ = some u := by
  rcases h.1.2 with ⟨rfl, h0⟩ | ⟨g, cap, cur, rfl, hb, hg, hc, hm, -, -⟩
  · have := h.1.1
    rw [h0] at this
    simp at this
    omega
  · refine ⟨g, cap, rfl, hb, (Array.getElem?_eq_some_iff.1 hg).1, hc, hm, fun j u hj => ?_⟩
    obtain ⟨A, c, e, -, -, hr, -, -, -⟩ := h.reads
    cases e
    rcases hr.2 with h0 | ⟨g', o', e', hc'⟩
    · have := h.1.1
      rw [h0] at this
      simp at this
      omega
    · cases e'
      exact hc' j u hj
theorem new_pt (w : World) (x : Pt) : Rs 13 (w.alloc x.box) (some ⟨w.heap.size, 0, none⟩) 1 (pflat [x]) := by
  refine ⟨rfl, .inr ⟨w.heap.size, 0, rfl, fun j u hj => ?_⟩⟩
  rw [World.cell?_alloc_new, Nat.zero_add]
  simpa [pflat] using hj
theorem val_pred : (64 : TypeId) ≠ 98 := by decide
/-- The Set of a test, in memory that the call made. -/
abbrev OwnS (B : Nat) (w : World) (x : Pt) : Prop := OwnV B w (.slice x.A x.p.set.length x.c) x.p.set
theorem OwnS.none_ {B : Nat} {w : World} {x : Pt} (h : OwnS B w x) : x.A = none → x.p.set.length = 0 ∧ x.c = 0 := by
  obtain ⟨A, c, e, -, -, -, -, -, h0⟩ := h.reads
  cases e
  exact h0
/-- A fine test: what a machine's one is within. -/
structure Pd.Fits (p : Prd) : Prop where
  nm : p.name.size ≤ 9223372036854775807
  v : Fit p.v
  w : Fit p.w
  set : ∀ a, a ∈ p.set → Fit a
theorem IsPrd.fits {w : World} {p : Prd} {A : Option Addr} {n : Nat} (h : IsPrd w p A n) : Pd.Fits p := ⟨h.nm, h.fv, h.fw, h.set.fit⟩
theorem OwnS.is {B : Nat} {w : World} {x : Pt} (h : OwnS B w x) (hf : Pd.Fits x.p) : IsPt w x := ⟨⟨hf.nm, hf.v, hf.w, OwnW.vs h hf.set⟩, h.none_⟩
/-- A copy as far as it has come. -/
structure Cop (w wr : World) (v : Value) (m : List Pt) (ps : List Prd) : Prop where
  map : m.map (·.p) = ps
  own : OwnP w.heap.size wr v m
  sets : ∀ x, x ∈ m → OwnS w.heap.size wr x
  below : Below w.heap.size w wr
theorem Cop.later {w wr wx : World} {v : Value} {m : List Pt} {ps : List Prd} (h : Cop w wr v m ps) (k : Below wr.heap.size wr wx) : Cop w wx v m ps :=
  ⟨h.map, h.own.later k, fun x hx => (h.sets x hx).later k, below_then h.below k⟩
theorem Cop.turn {w wr wx : World} {v : Value} {m : List Pt} {ps : List Prd} {g : Nat} {cs : Array Value} {fr : Nat × Nat} (h : Cop w wr v m ps) (k : Kept (· = g) wr wx) (hg : wr.heap[g]? = some (.cells cs 98 fr)) (hw : w.heap.size ≤ g) (ho : ∀ i, v.ownBlock = some i → i < g) : Cop w wx v m ps :=
  ⟨h.map, h.own.kept k (fun i hi e => by have := ho i hi; omega), fun x hx => (h.sets x hx).kept k (ownw_not (h.sets x hx) hg val_pred), h.below.trans (k.below h.below.size (by intro i hi e; omega))⟩
/-- How the hand's Filter ends. -/
def FilterPost (ps : List Prd) (w : World) (e : Ending) (w' : World) : Prop := ∃ (v : Value) (m : List Pt), e = .returned v ∧ Cop w w' v m ps
theorem cop_round {w w5 w6 : World} {v v6 : Value} {m : List Pt} {ps : List Prd} {x : Pt} (h : Cop w w5 v m ps) (hs : OwnS w.heap.size w5 x) (hO : OwnW 13 w.heap.size 98 w6 v6 (m.length + 1) (pflat m ++ pflat [x])) (hK : Kept (fun i => v.ownBlock = some i) w5 w6) : Cop w w6 v6 (m ++ [x]) (ps ++ [x.p]) := by
  refine ⟨by rw [List.map_append, h.map]; rfl, ownp_add hO, ?_, h.below.trans (hK.below h.below.size (fun k hk e => by have := ownw_base h.own k e; omega))⟩
  intro y hy
  have hy' : OwnS w.heap.size w5 y := by
    rcases List.mem_append.1 hy with hy | hy
    · exact h.sets y hy
    · rw [List.mem_singleton.1 hy]; exact hs
  exact hy'.kept hK (fun i hi e => ownw_types hy' h.own val_pred i hi e)

set_option maxRecDepth 100000 in
set_option maxHeartbeats 4000000 in
theorem hfilter_any {A : Option Addr} {n c : Nat} {l : List Pt} {w : World} (h : Ps w A n l) (hn : l.length ≤ 1000) (hset : ∀ x, x ∈ l → x.p.set.length ≤ 2932031007317) :
    Calls Tryz.prog 61 #[.slice A n c] w (FilterPost (l.map (·.p)) w) := by
  obtain rfl := h.len.symm
  have HP := Lib.hid h
  have HS := Lib.hid hset
  have hst := store_float
  clear h hset
  go_enter Tryz.func61, Tryz.ntmps61
  go_wp2_with fail
  go_loopw [3, 4] (fun v ii wr => ∃ (k : Nat) (m : List Pt), k ≤ l.length ∧ ii = .int .i64 (k : Int) ∧ Cop w wr v m ((l.take k).map (·.p))) (fun _ ii _ => l.length - (intOf ii).toNat)
  case atStart => exact ⟨0, [], by omega, rfl, rfl, OwnW.nil _ _ _ (Nat.le_refl _), by simp, Below.refl _ _⟩
  case round =>
    obtain ⟨k, m, hk, rfl, hc⟩ := hrel
    have hm : m.length = k := by
      have := congrArg List.length hc.map
      simp at this
      omega
    have HC := Lib.hid hc
    clear hc
    by_cases hlt : k < l.length
    · obtain ⟨g, o, rfl, hg⟩ := HP.out.at (by omega)
      obtain ⟨x, hx⟩ : ∃ x, l[k]? = some x := ⟨_, List.getElem?_eq_getElem hlt⟩
      have hxl := List.mem_of_getElem? hx
      have HX := Lib.hid hx
      have HI := Lib.hid ((HP.out.each x hxl).later HC.out.below)
      have HL := HS.out x hxl
      have hcs : ∀ j u, x.cells[j]? = some u → wr.cell? ⟨g, o + k * 13 + j, none⟩ = some u := fun j u hj => (HC.out.below.cell (cell_lt (hg k x hx j u hj))).trans (hg k x hx j u hj)
      have HG := Lib.hid hcs
      clear hg hx hcs
      go_upto_region 6 with (first | (refine wpList_load_at rfl 98 _ rfl g (o + k * 13) x.cells _ rfl HG.out Tryz.underlying98 rfl prd_size ?_; dsimp only [Pt.cells]))
      have hn1 := one_new wr x.box
      have HC1 := Lib.hid (HC.out.later hn1)
      have HI1 := Lib.hid (HI.out.later hn1)
      have HR := Lib.hid (heap_alloc_new wr x.box)
      clear hn1 HI HG
      dsimp only [Pt.box, Pt.cells] at HC1 HI1 HR
      have hgp := HC.out.below.size
      have hog := ownw_lt HC.out.own
      generalize wr.heap.size = gp at HR hgp hog ⊢
      clear HC
      generalize wr.alloc _ = w1 at HC1 HI1 HR ⊢
      have HR : Hid (w1.heap[gp]? = some x.box) := HR
      have c12 : w1.cell? ⟨gp, 12, none⟩ = some (.slice x.A x.p.set.length x.c) := cell_of_row _ _ 12 _ _ _ HR.out
      have f12 := frozen_of_row _ _ 12 _ _ HR.out
      go_upto_region 7 with (first | (at_builtin; refine wpList_ownb (k := 5) rfl _ _ 96 rfl Tryz.underlying96 val_info rfl (by decide) w.heap.size _ 0 [] rfl (OwnW.nil _ _ _ HC1.out.below.size) x.A x.p.set.length x.c rfl HI1.out.none_ (vflat x.p.set) HI1.out.is.set.row (vflat_one _) (by unfold maxLen; omega) (by omega) ?_; intro v2 w2 hO2 hK2; obtain ⟨A2, c2, rfl, -⟩ := hO2.reads; have HO2 := Lib.hid hO2; have hb2 : Below w1.heap.size w1 w2 := hK2.below (Nat.le_refl _) (fun k _ e => by cases e); have HR2 := Lib.hid (below_row hb2 HR.out); have HC2 := Lib.hid (HC1.out.later hb2); have c12' : w2.cell? ⟨gp, 12, none⟩ = some (.slice x.A x.p.set.length x.c) := cell_of_row _ _ 12 _ _ _ HR2.out; have f12' := frozen_of_row _ _ 12 _ _ HR2.out; clear hO2 hK2 hb2 HR HC1 c12 f12))
      have hk3 : Kept (· = gp) w2 (w2.setCell ⟨gp, 12, none⟩ (.slice A2 (0 + x.p.set.length) c2)) := Kept.setCell (S := (· = gp)) w2 ⟨gp, 12, none⟩ rfl _
      have HR3 := Lib.hid (heap_setCell_same w2 gp 12 _ _ (.slice A2 (0 + x.p.set.length) c2) HR2.out)
      have HO3 := Lib.hid (HO2.out.kept hk3 (ownw_not HO2.out HR2.out val_pred))
      have HC3 := Lib.hid (HC2.out.turn hk3 HR2.out hgp hog)
      rw [Nat.zero_add, List.nil_append] at HO3
      rw [Nat.zero_add] at HR3 HC3
      clear hk3 HO2 HR2 HC2 c12' f12' HI1
      generalize w2.setCell _ _ = w3 at HO3 HR3 HC3 ⊢
      have HO3 : Hid (OwnS w.heap.size w3 ⟨x.p, A2, c2⟩) := HO3
      have HR3 : Hid (w3.heap[gp]? = some (Pt.box ⟨x.p, A2, c2⟩)) := HR3
      have HG3 := Lib.hid (cells_row HR3.out)
      go_wp2_with (first | (at_builtin; refine wpList_ownw (k := 13) rfl _ _ 31 rfl Tryz.underlying31 prd_info rfl (by decide) w.heap.size _ m.length (pflat m) rfl (HC3.out.own.later (one_new _ _)) _ 1 1 rfl (fun h => by cases h) (pflat [⟨x.p, A2, c2⟩]) (new_pt w3 ⟨x.p, A2, c2⟩) (pflat_one _) (by omega) (by decide) ?_; intro v6 w6 hO6 hK6; have HO6 := Lib.hid hO6; have HK6 := Lib.hid hK6; clear hO6 hK6) | (refine wpList_load_at rfl 98 _ rfl gp 0 (Pt.cells ⟨x.p, A2, c2⟩) _ rfl HG3.out Tryz.underlying98 rfl prd_size ?_; dsimp only [Pt.cells]))
      have HC6 := cop_round (HC3.out.later (one_new w3 (Pt.box ⟨x.p, A2, c2⟩))) (HO3.out.later (one_new w3 (Pt.box ⟨x.p, A2, c2⟩))) HO6.out HK6.out
      have e : (l.take (k + 1)).map (·.p) = (l.take k).map (·.p) ++ [x.p] := by rw [List.take_add_one, HX.out]; simp
      exact ⟨⟨k + 1, m ++ [⟨x.p, A2, c2⟩], by omega, rfl, by rw [e]; exact HC6⟩, by simp [intOf]; omega⟩
    · obtain rfl : k = l.length := by omega
      go_wp2_with fail
      go_ret
      exact ⟨_, m, rfl, by have := HC.out; rw [List.take_length] at this; exact this⟩
end Go.Proofs.YtgenmebmdpnjhaaGreat

namespace Go.Proofs.YtgenmebmdpnjhaaGreat
open Go.RowKit
set_option linter.unusedVariables false

set_option maxHeartbeats 8000000 in
theorem samet_any {p q : Prd} {A B : Option Addr} {n c m d : Nat} {w : World} (h : IsPrd w p A n) (h' : IsPrd w q B m) : Calls Tryz.prog 134 #[pv p A n c, pv q B m d] w fun e w' => e = .returned (.bool (Pd.sameT p q)) ∧ Below w.heap.size w w' := by
  obtain ⟨W, hW1, hW, hB, hV⟩ := world_pp w p A n c q B m d
  have HL := Lib.hid (h.set.later hW)
  have HL' := Lib.hid (h'.set.later hW)
  have HW := Lib.hid hW
  have HW1 := Lib.hid hW1
  clear h h' hW hW1
  obtain ⟨c0, c1, c2, c3, c4, c5, c6, c7, c8, c9, c10, c11, c12⟩ := hB
  obtain ⟨d0, d1, d2, d3, d4, d5, d6, d7, d8, d9, d10, d11, d12⟩ := hV
  obtain ⟨pn, pt, pa, pw, pl⟩ := p
  obtain ⟨qn, qt, qa, qw, ql⟩ := q
  dsimp only at c0 c1 c2 c3 c4 c5 c6 c7 c8 c9 c10 c11 c12 d0 d1 d2 d3 d4 d5 d6 d7 d8 d9 d10 d11 d12 HL HL'
  haveI := later_some W
  unfold Pd.sameT
  dsimp only
  by_cases ht : pt = qt
  · subst ht
    go_enter Tryz.func134, Tryz.ntmps134
    go_wp2_with fail
    refine (calls_later (x := ⟨_, HW1.out⟩) (vsame_v pa qa _)).mono ?_
    rintro e _ ⟨rfl, y, rfl⟩
    clear HW1
    cases h1 : Vl.same pa qa <;> cases h2 : Vl.same pw qw
    all_goals
      go_wp2_with (first | (go_at_call 105; refine (calls_later (vsame_v pw qw _)).mono ?_; rintro e _ ⟨rfl, y, rfl⟩) | (go_at_call 153; refine (equal_l HL.out HL'.out).mono ?_; rintro e _ ⟨rfl, y, rfl⟩) | fail)
      go_ret
      exact ⟨ret_bool (by simp [h1, h2]), below_then HW.out (Later.below _)⟩
  · go_enter Tryz.func134, Tryz.ntmps134
    go_wp2_with fail
    go_ret
    exact ⟨ret_bool (by simp [ht]), below_then HW.out HW1.out⟩
theorem samet_l {p q : Prd} {A B : Option Addr} {n c m d : Nat} {W : World} {x : Later W} (h : IsPrd W p A n) (h' : IsPrd W q B m) : Calls Tryz.prog 134 #[pv p A n c, pv q B m d] x.at_ fun e w' => e = .returned (.bool (Pd.sameT p q)) ∧ ∃ y : Later W, w' = y.at_ := calls_later (samet_any (h.later x.below) (h'.later x.below))
set_option maxHeartbeats 8000000 in
theorem psame_any {p q : Prd} {A B : Option Addr} {n c m d : Nat} {w : World} (h : IsPrd w p A n) (h' : IsPrd w q B m) : Calls Tryz.prog 107 #[pv p A n c, pv q B m d] w fun e w' => e = .returned (.bool (Pd.same p q)) ∧ Below w.heap.size w w' := by
  obtain ⟨W, hW1, hW, hB, hV⟩ := world_pp w p A n c q B m d
  have HP := Lib.hid (h.later hW)
  have HQ := Lib.hid (h'.later hW)
  have HW := Lib.hid hW
  have HW1 := Lib.hid hW1
  clear h h' hW hW1 hB hV
  unfold Pd.same
  cases hn : (p.name.toList == q.name.toList)
  all_goals
    go_enter Tryz.func107, Tryz.ntmps107
    go_wp2_with (first | (go_at_call 134; refine (samet_l (x := ⟨_, HW1.out⟩) HP.out HQ.out).mono ?_; rintro e _ ⟨rfl, y, rfl⟩) | fail)
    go_ret
    first | exact ⟨ret_bool (by simp), below_then HW.out (Later.below _)⟩ | exact ⟨ret_bool (by simp), below_then HW.out HW1.out⟩
end Go.Proofs.YtgenmebmdpnjhaaGreat

namespace Go.Proofs.YtgenmebmdpnjhaaGreat
open Go.RowKit
set_option linter.unusedVariables false

/-- An end: is it there, is it open, where. -/
structure En where
  th : Bool
  op : Bool
  at_ : Val
abbrev ev (e : En) : Value := .agg #[.bool e.th, .bool e.op, .int .i64 e.at_.k, .int .i64 e.at_.n, .float .f64 e.at_.x, .string e.at_.s, .bool e.at_.b]
structure EBox (W : World) (g : Nat) (e : En) : Prop where
  h0 : ∀ x : Later W, x.at_.cell? ⟨g, 0, none⟩ = some (.bool e.th)
  h1 : ∀ x : Later W, x.at_.cell? ⟨g, 1, none⟩ = some (.bool e.op)
  h2 : ∀ x : Later W, x.at_.cell? ⟨g, 2, none⟩ = some (.int .i64 e.at_.k)
  h3 : ∀ x : Later W, x.at_.cell? ⟨g, 3, none⟩ = some (.int .i64 e.at_.n)
  h4 : ∀ x : Later W, x.at_.cell? ⟨g, 4, none⟩ = some (.float .f64 e.at_.x)
  h5 : ∀ x : Later W, x.at_.cell? ⟨g, 5, none⟩ = some (.string e.at_.s)
  h6 : ∀ x : Later W, x.at_.cell? ⟨g, 6, none⟩ = some (.bool e.at_.b)
theorem EBox.next {W : World} {g : Nat} {e : En} (h : EBox W g e) (W' : World) (k : Below W.heap.size W W') : EBox W' g e :=
  ⟨fun x => h.h0 ⟨x.at_, below_then k x.below⟩, fun x => h.h1 ⟨x.at_, below_then k x.below⟩, fun x => h.h2 ⟨x.at_, below_then k x.below⟩, fun x => h.h3 ⟨x.at_, below_then k x.below⟩, fun x => h.h4 ⟨x.at_, below_then k x.below⟩, fun x => h.h5 ⟨x.at_, below_then k x.below⟩, fun x => h.h6 ⟨x.at_, below_then k x.below⟩⟩
namespace Pd
def lower (p : Prd) : En := if p.t = 6 then ⟨true, true, p.v⟩ else if p.t = 7 ∨ p.t = 8 then ⟨true, false, p.v⟩ else ⟨false, false, z0⟩
def upper (p : Prd) : En := if p.t = 4 then ⟨true, true, p.v⟩ else if p.t = 5 then ⟨true, false, p.v⟩ else if p.t = 8 then ⟨true, false, p.w⟩ else ⟨false, false, z0⟩
def hasEnds (p : Prd) : Bool := (lower p).th || (upper p).th
def within (q p : En) (i : Int) : Bool := !p.th || (q.th && (Vl.ok q.at_ p.at_ && (decide (Vl.cmp q.at_ p.at_ = i) || decide (Vl.cmp q.at_ p.at_ = 0) && (q.op || !p.op))))
def each (p : Prd) (l : List Val) : Bool := l.all (fun v => nan v || takes p v)
def preI (v : Val) (p : Prd) : Bool := if p.t = 9 ∨ p.t = 7 ∨ p.t = 6 then takes p v else false
def implies (q p : Prd) : Bool :=
  if !(right q && right p) then false
  else if void q || decide (p.t = 1) then true
  else if sameT q p then true
  else if p.t = 3 then !takes q p.v
  else if q.t = 2 then takes p q.v
  else if q.t = 10 then each p q.set
  else if hasEnds q && hasEnds p then within (lower q) (lower p) 1 && within (upper q) (upper p) (-1)
  else if q.t = 9 then preI q.v p
  else false
theorem fit0 : Fit z0 := ⟨by decide, by decide, by decide⟩
theorem lower_fit {p : Prd} (h : Fit p.v) : Fit (lower p).at_ := by
  unfold lower; split
  · exact h
  · split
    · exact h
    · exact fit0
theorem upper_fit {p : Prd} (h : Fit p.v) (h' : Fit p.w) : Fit (upper p).at_ := by
  unfold upper; split
  · exact h
  · split
    · exact h
    · split
      · exact h'
      · exact fit0
end Pd

theorem alloc2_new (w : World) (o o' : Obj) : ((w.alloc o).alloc o').heap[w.heap.size + 1]? = some o' := by have := heap_alloc_new (w.alloc o) o'; rw [size_next] at this; exact this
end Go.Proofs.YtgenmebmdpnjhaaGreat

namespace Go.Proofs.YtgenmebmdpnjhaaGreat
open Go.RowKit
set_option linter.unusedVariables false

end Go.Proofs.YtgenmebmdpnjhaaGreat

namespace Go.Proofs.YtgenmebmdpnjhaaGreat
open Go.RowKit
set_option linter.unusedVariables false

namespace Pd
theorem imp_wrong {q p : Prd} (h : right q = false ∨ right p = false) : implies q p = false := by
  unfold implies
  rcases h with h | h <;> simp [h]
theorem imp_yes {q p : Prd} (h1 : right q = true) (h2 : right p = true) (h : void q = true ∨ p.t = 1 ∨ sameT q p = true) : implies q p = true := by
  unfold implies
  rw [h1, h2]
  rcases h with h | h | h
  · simp [h]
  · simp [h]
  · simp [h]
/-- Right ones, none of the first two fits. -/
structure Past (q p : Prd) : Prop where
  r1 : right q = true
  r2 : right p = true
  v1 : void q = false
  t1 : ¬ p.t = 1
  s1 : sameT q p = false
theorem Past.eq {q p : Prd} (h : Past q p) : implies q p = (if p.t = 3 then !takes q p.v
  else if q.t = 2 then takes p q.v
  else if q.t = 10 then each p q.set
  else if hasEnds q && hasEnds p then within (lower q) (lower p) 1 && within (upper q) (upper p) (-1)
  else if q.t = 9 then preI q.v p
  else false) := by
  unfold implies
  rw [h.r1, h.r2, h.v1, h.s1]
  simp [h.t1]
theorem Past.n3 {q p : Prd} (h : Past q p) (t : p.t = 3) : implies q p = !takes q p.v := by rw [h.eq, if_pos t]
theorem Past.q2 {q p : Prd} (h : Past q p) (t : ¬ p.t = 3) (u : q.t = 2) : implies q p = takes p q.v := by rw [h.eq, if_neg t, if_pos u]
theorem Past.q10 {q p : Prd} (h : Past q p) (t : ¬ p.t = 3) (u : ¬ q.t = 2) (v : q.t = 10) : implies q p = each p q.set := by rw [h.eq, if_neg t, if_neg u, if_pos v]
theorem Past.ends {q p : Prd} (h : Past q p) (t : ¬ p.t = 3) (u : ¬ q.t = 2) (v : ¬ q.t = 10) (x : hasEnds q = true) (y : hasEnds p = true) : implies q p = (within (lower q) (lower p) 1 && within (upper q) (upper p) (-1)) := by rw [h.eq, if_neg t, if_neg u, if_neg v, x, y]; rfl
theorem Past.q9 {q p : Prd} (h : Past q p) (t : ¬ p.t = 3) (u : ¬ q.t = 2) (v : ¬ q.t = 10) (x : (hasEnds q && hasEnds p) = false) (y : q.t = 9) : implies q p = preI q.v p := by rw [h.eq, if_neg t, if_neg u, if_neg v, x, if_pos y]; rfl
theorem Past.no {q p : Prd} (h : Past q p) (t : ¬ p.t = 3) (u : ¬ q.t = 2) (v : ¬ q.t = 10) (x : (hasEnds q && hasEnds p) = false) (y : ¬ q.t = 9) : implies q p = false := by rw [h.eq, if_neg t, if_neg u, if_neg v, x, if_neg y]; rfl
end Pd

end Go.Proofs.YtgenmebmdpnjhaaGreat

namespace Go.Proofs.YtgenmebmdpnjhaaGreat
open Go.RowKit
set_option linter.unusedVariables false

namespace Fi
theorem all_bad {α : Type} {l : List α} {f : α → Bool} {k : Nat} {a : α} (h : l[k]? = some a) (hf : f a = false) : l.all f = false := by
  rw [List.all_eq_false]; exact ⟨a, List.mem_of_getElem? h, by simp [hf]⟩
theorem all_good {α : Type} {l : List α} {f : α → Bool} {k : Nat} {a : α} (h : l[k]? = some a) (hp : l.all f = (l.drop k).all f) (hf : f a = true) : l.all f = (l.drop (k + 1)).all f := by
  rw [hp, drop_at h, List.all_cons, hf]; rfl
theorem all_end {α : Type} {l : List α} {f : α → Bool} {k : Nat} (h : ¬ k < l.length) (hp : l.all f = (l.drop k).all f) : l.all f = true := by
  rw [hp, List.drop_eq_nil_of_le (by omega)]; rfl
theorem any_good {α : Type} {l : List α} {f : α → Bool} {k : Nat} {a : α} (h : l[k]? = some a) (hf : f a = true) : l.any f = true := by
  rw [List.any_eq_true]; exact ⟨a, List.mem_of_getElem? h, hf⟩
theorem any_bad {α : Type} {l : List α} {f : α → Bool} {k : Nat} {a : α} (h : l[k]? = some a) (hp : l.any f = (l.drop k).any f) (hf : f a = false) : l.any f = (l.drop (k + 1)).any f := by
  rw [hp, drop_at h, List.any_cons, hf]; rfl
theorem any_end {α : Type} {l : List α} {f : α → Bool} {k : Nat} (h : ¬ k < l.length) (hp : l.any f = (l.drop k).any f) : l.any f = false := by
  rw [hp, List.drop_eq_nil_of_le (by omega)]; rfl
/-- Does one of g, by itself, imply p? -/
def implied (p : Prd) (g : List Pt) : Bool := g.any fun q => (q.p.name.toList == p.name.toList) && Pd.implies q.p p
def void (g : List Pt) : Bool := g.any fun q => Pd.right q.p && Pd.void q.p
def covers (f g : List Pt) : Bool := void g || f.all fun p => implied p.p g
def same : List Pt → List Pt → Bool
  | [], [] => true
  | a :: l, b :: m => Pd.same a.p b.p && same l m
  | _, _ => false
theorem same_len : ∀ {l m : List Pt}, same l m = true → l.length = m.length
  | [], [], _ => rfl
  | a :: l, b :: m, h => by simp only [same, Bool.and_eq_true] at h; simp [same_len h.2]
  | [], _ :: _, h => by simp [same] at h
  | _ :: _, [], h => by simp [same] at h
theorem other_len {l m : List Pt} (h : ¬ l.length = m.length) : same l m = false := by
  cases hs : same l m
  · rfl
  · exact absurd (same_len hs) h
theorem same_bad {l m : List Pt} {k : Nat} {a b : Pt} (h : l[k]? = some a) (g : m[k]? = some b) (hp : same l m = same (l.drop k) (m.drop k)) (hb : Pd.same a.p b.p = false) : same l m = false := by
  rw [hp, drop_at h, drop_at g, same, hb]; rfl
theorem same_good {l m : List Pt} {k : Nat} {a b : Pt} (h : l[k]? = some a) (g : m[k]? = some b) (hp : same l m = same (l.drop k) (m.drop k)) (hb : Pd.same a.p b.p = true) : same l m = same (l.drop (k + 1)) (m.drop (k + 1)) := by
  rw [hp, drop_at h, drop_at g, same, hb]; simp
theorem same_end {l m : List Pt} {k : Nat} (h : ¬ k < l.length) (he : m.length = l.length) (hp : same l m = same (l.drop k) (m.drop k)) : same l m = true := by
  rw [hp, List.drop_eq_nil_of_le (by omega), List.drop_eq_nil_of_le (by omega), same]
end Fi
/-- The cells of one of them, in a later world. -/
theorem Ps.cells {w wr : World} {A : Option Addr} {n : Nat} {l : List Pt} (h : Ps w A n l) (hb : Below w.heap.size w wr) {k : Nat} (hk : k < l.length) :
    ∃ g o x, A = some ⟨g, o, none⟩ ∧ l[k]? = some x ∧ IsPt wr x ∧ (∀ j u, x.cells[j]? = some u → wr.cell? ⟨g, o + k * 13 + j, none⟩ = some u) ∧ g < wr.heap.size := by
  obtain ⟨g, o, rfl, hg⟩ := h.at (by omega)
  obtain ⟨x, hx⟩ : ∃ x, l[k]? = some x := ⟨_, List.getElem?_eq_getElem hk⟩
  have hc := hg k x hx
  have hl := cell_lt (hc 0 _ rfl)
  exact ⟨g, o, x, rfl, hx, (h.each x (List.mem_of_getElem? hx)).later hb, fun j u hj => (hb.cell (cell_lt (hc j u hj))).trans (hc j u hj), Nat.lt_of_lt_of_le hl hb.size⟩

set_option maxRecDepth 100000 in
set_option maxHeartbeats 8000000 in
theorem equalp_any {A B : Option Addr} {n c n' c' : Nat} {l m : List Pt} {w : World} (h : Ps w A n l) (h' : Ps w B n' m) :
    Calls Tryz.prog 106 #[.slice A n c, .slice B n' c', .func (.func 107) #[] #[]] w fun e w' => e = .returned (.bool (Fi.same l m)) ∧ Below w.heap.size w w' := by
  obtain rfl := h.len.symm
  obtain rfl := h'.len.symm
  have hn := h.few
  have hn' := h'.few
  have HA := Lib.hid h
  have HA' := Lib.hid h'
  have hst := store_float
  clear h h'
  by_cases hlen : l.length = m.length
  case neg =>
    have HM := Lib.hid (Fi.other_len hlen)
    have hlen' : ¬ (l.length : Int) = (m.length : Int) := by omega
    go_enter Tryz.func106, Tryz.ntmps106
    go_wp2_with fail
    go_ret
    exact ⟨by rw [HM.out]; rfl, Below.refl _ _⟩
  have hme : m.length = l.length := hlen.symm
  rw [hme] at HA' hn' ⊢
  clear hlen
  go_enter Tryz.func106, Tryz.ntmps106
  go_wp2_with fail
  go_loopw [17] (fun ii wr => ∃ k : Nat, k ≤ l.length ∧ ii = .int .i64 (k : Int) ∧ Fi.same l m = Fi.same (l.drop k) (m.drop k) ∧ Below w.heap.size w wr) (fun ii _ => l.length - (intOf ii).toNat)
  case atStart => exact ⟨0, by omega, rfl, rfl, Below.refl _ _⟩
  case round =>
    obtain ⟨k, hk, rfl, hl, hB⟩ := hrel
    have HL := Lib.hid hl
    have HB := Lib.hid hB
    clear hl hB
    by_cases hlt : k < l.length
    · obtain ⟨g, o, y, rfl, hy, hi, hc, -⟩ := HA.out.cells HB.out hlt
      obtain ⟨g', o', y', rfl, hy', hi', hc', hg'⟩ := HA'.out.cells HB.out (hme.symm ▸ hlt)
      have HG := Lib.hid hc
      have HY := Lib.hid hy
      have HI := Lib.hid hi
      have HG' := Lib.hid hc'
      have HY' := Lib.hid hy'
      have HI' := Lib.hid hi'
      clear hy hi hc hy' hi' hc'
      go_upto_region 6 with (first | (refine wpList_load_at rfl 98 _ rfl g (o + k * 13) y.cells _ rfl HG.out Tryz.underlying98 rfl prd_size ?_; dsimp only [Pt.cells]))
      have hn1 := one_new wr y.box
      have HB1 := Lib.hid (below_then HB.out hn1)
      have HI1 := Lib.hid (HI.out.later hn1)
      have HI2 := Lib.hid (HI'.out.later hn1)
      have HN := Lib.hid (heap_alloc_new wr y.box)
      have HG2 : Hid (∀ j u, y'.cells[j]? = some u → (wr.alloc y.box).cell? ⟨g', o' + k * 13 + j, none⟩ = some u) := fun j u hj => (hn1.cell (cell_lt (HG'.out j u hj))).trans (HG'.out j u hj)
      clear hn1 HB HI HG HI' HG'
      dsimp only [Pt.box, Pt.cells] at HB1 HI1 HI2 HN HG2
      generalize wr.heap.size = gp at HN ⊢
      generalize wr.alloc _ = w1 at HB1 HI1 HI2 HN HG2 ⊢
      have HG2 : Hid (∀ j u, y'.cells[j]? = some u → w1.cell? ⟨g', o' + k * 13 + j, none⟩ = some u) := HG2
      go_upto_region 7 with (first | (refine wpList_load_at rfl 98 _ rfl g' (o' + k * 13) y'.cells _ rfl HG2.out Tryz.underlying98 rfl prd_size ?_; dsimp only [Pt.cells]))
      have hn1 := one_new w1 y'.box
      replace HB1 := Lib.hid (below_then HB1.out hn1)
      replace HI1 := Lib.hid (HI1.out.later hn1)
      replace HI2 := Lib.hid (HI2.out.later hn1)
      replace HN := Lib.hid (below_row hn1 HN.out)
      have HN' := Lib.hid (heap_alloc_new w1 y'.box)
      clear hn1 HG2
      dsimp only [Pt.box, Pt.cells] at HB1 HI1 HI2 HN HN'
      generalize w1.heap.size = gq at HN' ⊢
      generalize w1.alloc _ = w2 at HB1 HI1 HI2 HN HN' ⊢
      have HC := Lib.hid (cells_row (cs := y.cells) HN.out)
      have HC' := Lib.hid (cells_row (cs := y'.cells) HN'.out)
      go_wp2_with (first | (refine wpList_load_at rfl 98 _ rfl gp 0 y.cells _ rfl HC.out Tryz.underlying98 rfl prd_size ?_; dsimp only [Pt.cells]) | (refine wpList_load_at rfl 98 _ rfl gq 0 y'.cells _ rfl HC'.out Tryz.underlying98 rfl prd_size ?_; dsimp only [Pt.cells]) | fail)
      refine (psame_any HI1.out.is HI2.out.is).mono ?_
      rintro e w3 ⟨rfl, hb⟩
      have HB2 := Lib.hid (below_then HB1.out hb)
      clear hb
      cases hr : Pd.same y.p y'.p
      · have HM := Lib.hid (Fi.same_bad HY.out HY'.out HL.out hr)
        go_wp2_with fail
        go_ret
        exact ⟨by rw [HM.out]; rfl, HB2.out⟩
      · have HM := Lib.hid (Fi.same_good HY.out HY'.out HL.out hr)
        go_wp2_with fail
        exact ⟨⟨k + 1, by omega, rfl, HM.out, HB2.out⟩, by simp [intOf]; omega⟩
    · have HM := Lib.hid (Fi.same_end hlt hme HL.out)
      go_wp2_with fail
      go_ret
      exact ⟨by rw [HM.out]; rfl, HB.out⟩
theorem fsame_any {A B : Option Addr} {n c n' c' : Nat} {l m : List Pt} {w : World} (h : Ps w A n l) (h' : Ps w B n' m) :
    Calls Tryz.prog 75 #[.slice A n c, .slice B n' c'] w fun e w' => e = .returned (.bool (Fi.same l m)) ∧ Below w.heap.size w w' := by
  go_enter Tryz.func75, Tryz.ntmps75
  go_wp2_with fail
  refine (equalp_any h h').mono ?_
  rintro e w2 ⟨rfl, hb⟩
  have HB := Lib.hid hb
  clear hb
  go_wp2_with fail
  go_ret
  exact ⟨rfl, HB.out⟩
end Go.Proofs.YtgenmebmdpnjhaaGreat
