
/- Tests in memory: a block of thirteen cells that is loaded and stored; rows of values that the call itself made. -/
import Derived.Test.YtgenmebmdpnjhaaPrd2
namespace Go.Proofs.Ytgenmebmdpnjhaa
open Go.RowKit
set_option linter.unusedVariables false

/-- Thirteen cells of a block turned. -/
abbrev set13 (w : World) (g : Nat) (v0 v1 v2 v3 v4 v5 v6 v7 v8 v9 v10 v11 v12 : Value) : World :=
  ((((((((((((w.setCell ⟨g, 0, none⟩ v0).setCell ⟨g, 1, none⟩ v1).setCell ⟨g, 2, none⟩ v2).setCell ⟨g, 3, none⟩ v3).setCell ⟨g, 4, none⟩ v4).setCell ⟨g, 5, none⟩ v5).setCell ⟨g, 6, none⟩ v6).setCell ⟨g, 7, none⟩ v7).setCell ⟨g, 8, none⟩ v8).setCell ⟨g, 9, none⟩ v9).setCell ⟨g, 10, none⟩ v10).setCell ⟨g, 11, none⟩ v11).setCell ⟨g, 12, none⟩ v12
theorem row13 {w : World} {g : Nat} {t : TypeId} {c0 c1 c2 c3 c4 c5 c6 c7 c8 c9 c10 c11 c12 : Value} (v0 v1 v2 v3 v4 v5 v6 v7 v8 v9 v10 v11 v12 : Value) (hg : w.heap[g]? = some (.cells #[c0, c1, c2, c3, c4, c5, c6, c7, c8, c9, c10, c11, c12] t (0, 0))) :
    (set13 w g v0 v1 v2 v3 v4 v5 v6 v7 v8 v9 v10 v11 v12).heap[g]? = some (.cells #[v0, v1, v2, v3, v4, v5, v6, v7, v8, v9, v10, v11, v12] t (0, 0)) := by
  have h0 := heap_setCell_same w g 0 _ t v0 hg
  simp only [List.setIfInBounds_toArray, List.set_cons_zero] at h0
  have h1 := heap_setCell_same _ g 1 _ t v1 h0
  simp only [List.setIfInBounds_toArray, List.set_cons_zero, List.set_cons_succ] at h1
  have h2 := heap_setCell_same _ g 2 _ t v2 h1
  simp only [List.setIfInBounds_toArray, List.set_cons_zero, List.set_cons_succ] at h2
  have h3 := heap_setCell_same _ g 3 _ t v3 h2
  simp only [List.setIfInBounds_toArray, List.set_cons_zero, List.set_cons_succ] at h3
  have h4 := heap_setCell_same _ g 4 _ t v4 h3
  simp only [List.setIfInBounds_toArray, List.set_cons_zero, List.set_cons_succ] at h4
  have h5 := heap_setCell_same _ g 5 _ t v5 h4
  simp only [List.setIfInBounds_toArray, List.set_cons_zero, List.set_cons_succ] at h5
  have h6 := heap_setCell_same _ g 6 _ t v6 h5
  simp only [List.setIfInBounds_toArray, List.set_cons_zero, List.set_cons_succ] at h6
  have h7 := heap_setCell_same _ g 7 _ t v7 h6
  simp only [List.setIfInBounds_toArray, List.set_cons_zero, List.set_cons_succ] at h7
  have h8 := heap_setCell_same _ g 8 _ t v8 h7
  simp only [List.setIfInBounds_toArray, List.set_cons_zero, List.set_cons_succ] at h8
  have h9 := heap_setCell_same _ g 9 _ t v9 h8
  simp only [List.setIfInBounds_toArray, List.set_cons_zero, List.set_cons_succ] at h9
  have h10 := heap_setCell_same _ g 10 _ t v10 h9
  simp only [List.setIfInBounds_toArray, List.set_cons_zero, List.set_cons_succ] at h10
  have h11 := heap_setCell_same _ g 11 _ t v11 h10
  simp only [List.setIfInBounds_toArray, List.set_cons_zero, List.set_cons_succ] at h11
  have h12 := heap_setCell_same _ g 12 _ t v12 h11
  simp only [List.setIfInBounds_toArray, List.set_cons_zero, List.set_cons_succ] at h12
  exact h12
theorem kept13 (w : World) (g : Nat) (v0 v1 v2 v3 v4 v5 v6 v7 v8 v9 v10 v11 v12 : Value) : Kept (· = g) w (set13 w g v0 v1 v2 v3 v4 v5 v6 v7 v8 v9 v10 v11 v12) := by
  have st : ∀ (u : World) (k : Nat) (x : Value), Kept (· = g) u (u.setCell ⟨g, k, none⟩ x) := fun u k x => Kept.setCell (S := (· = g)) u ⟨g, k, none⟩ rfl x
  have k0 := st w 0 v0
  have k1 := k0.then (st _ 1 v1)
  have k2 := k1.then (st _ 2 v2)
  have k3 := k2.then (st _ 3 v3)
  have k4 := k3.then (st _ 4 v4)
  have k5 := k4.then (st _ 5 v5)
  have k6 := k5.then (st _ 6 v6)
  have k7 := k6.then (st _ 7 v7)
  have k8 := k7.then (st _ 8 v8)
  have k9 := k8.then (st _ 9 v9)
  have k10 := k9.then (st _ 10 v10)
  have k11 := k10.then (st _ 11 v11)
  have k12 := k11.then (st _ 12 v12)
  exact k12
/-- V turned. -/
abbrev setV (w : World) (g : Nat) (v2 v3 v4 v5 v6 : Value) : World :=
  ((((w.setCell ⟨g, 2, none⟩ v2).setCell ⟨g, 3, none⟩ v3).setCell ⟨g, 4, none⟩ v4).setCell ⟨g, 5, none⟩ v5).setCell ⟨g, 6, none⟩ v6
theorem rowV {w : World} {g : Nat} {t : TypeId} {c0 c1 c2 c3 c4 c5 c6 c7 c8 c9 c10 c11 c12 : Value} (v2 v3 v4 v5 v6 : Value) (hg : w.heap[g]? = some (.cells #[c0, c1, c2, c3, c4, c5, c6, c7, c8, c9, c10, c11, c12] t (0, 0))) :
    (setV w g v2 v3 v4 v5 v6).heap[g]? = some (.cells #[c0, c1, v2, v3, v4, v5, v6, c7, c8, c9, c10, c11, c12] t (0, 0)) := by
  have h2 := heap_setCell_same w g 2 _ t v2 hg
  have h3 := heap_setCell_same _ g 3 _ t v3 h2
  have h4 := heap_setCell_same _ g 4 _ t v4 h3
  have h5 := heap_setCell_same _ g 5 _ t v5 h4
  have h6 := heap_setCell_same _ g 6 _ t v6 h5
  exact h6
theorem keptV (w : World) (g : Nat) (v2 v3 v4 v5 v6 : Value) : Kept (· = g) w (setV w g v2 v3 v4 v5 v6) :=
  ((((Kept.setCell (S := (· = g)) w ⟨g, 2, none⟩ rfl v2).then (Kept.setCell (S := (· = g)) _ ⟨g, 3, none⟩ rfl v3)).then (Kept.setCell (S := (· = g)) _ ⟨g, 4, none⟩ rfl v4)).then (Kept.setCell (S := (· = g)) _ ⟨g, 5, none⟩ rfl v5)).then (Kept.setCell (S := (· = g)) _ ⟨g, 6, none⟩ rfl v6)
/-- W turned. -/
abbrev setW (w : World) (g : Nat) (v7 v8 v9 v10 v11 : Value) : World :=
  ((((w.setCell ⟨g, 7, none⟩ v7).setCell ⟨g, 8, none⟩ v8).setCell ⟨g, 9, none⟩ v9).setCell ⟨g, 10, none⟩ v10).setCell ⟨g, 11, none⟩ v11
theorem rowW {w : World} {g : Nat} {t : TypeId} {c0 c1 c2 c3 c4 c5 c6 c7 c8 c9 c10 c11 c12 : Value} (v7 v8 v9 v10 v11 : Value) (hg : w.heap[g]? = some (.cells #[c0, c1, c2, c3, c4, c5, c6, c7, c8, c9, c10, c11, c12] t (0, 0))) :
    (setW w g v7 v8 v9 v10 v11).heap[g]? = some (.cells #[c0, c1, c2, c3, c4, c5, c6, v7, v8, v9, v10, v11, c12] t (0, 0)) := by
  have h7 := heap_setCell_same w g 7 _ t v7 hg
  have h8 := heap_setCell_same _ g 8 _ t v8 h7
  have h9 := heap_setCell_same _ g 9 _ t v9 h8
  have h10 := heap_setCell_same _ g 10 _ t v10 h9
  have h11 := heap_setCell_same _ g 11 _ t v11 h10
  exact h11
theorem keptW (w : World) (g : Nat) (v7 v8 v9 v10 v11 : Value) : Kept (· = g) w (setW w g v7 v8 v9 v10 v11) :=
  ((((Kept.setCell (S := (· = g)) w ⟨g, 7, none⟩ rfl v7).then (Kept.setCell (S := (· = g)) _ ⟨g, 8, none⟩ rfl v8)).then (Kept.setCell (S := (· = g)) _ ⟨g, 9, none⟩ rfl v9)).then (Kept.setCell (S := (· = g)) _ ⟨g, 10, none⟩ rfl v10)).then (Kept.setCell (S := (· = g)) _ ⟨g, 11, none⟩ rfl v11)
/-- Its cells, none frozen. -/
structure Thirteen (w : World) (g : Nat) (p : Prd) (A : Option Addr) (n c : Nat) : Prop where
  h0 : w.cell? ⟨g, 0, none⟩ = some (.string p.name)
  h1 : w.cell? ⟨g, 1, none⟩ = some (.int .i64 p.t)
  h2 : w.cell? ⟨g, 2, none⟩ = some (.int .i64 p.v.k)
  h3 : w.cell? ⟨g, 3, none⟩ = some (.int .i64 p.v.n)
  h4 : w.cell? ⟨g, 4, none⟩ = some (.float .f64 p.v.x)
  h5 : w.cell? ⟨g, 5, none⟩ = some (.string p.v.s)
  h6 : w.cell? ⟨g, 6, none⟩ = some (.bool p.v.b)
  h7 : w.cell? ⟨g, 7, none⟩ = some (.int .i64 p.w.k)
  h8 : w.cell? ⟨g, 8, none⟩ = some (.int .i64 p.w.n)
  h9 : w.cell? ⟨g, 9, none⟩ = some (.float .f64 p.w.x)
  h10 : w.cell? ⟨g, 10, none⟩ = some (.string p.w.s)
  h11 : w.cell? ⟨g, 11, none⟩ = some (.bool p.w.b)
  h12 : w.cell? ⟨g, 12, none⟩ = some (.slice A n c)
  f0 : w.frozen? ⟨g, 0, none⟩ = false
  f1 : w.frozen? ⟨g, 1, none⟩ = false
  f2 : w.frozen? ⟨g, 2, none⟩ = false
  f3 : w.frozen? ⟨g, 3, none⟩ = false
  f4 : w.frozen? ⟨g, 4, none⟩ = false
  f5 : w.frozen? ⟨g, 5, none⟩ = false
  f6 : w.frozen? ⟨g, 6, none⟩ = false
  f7 : w.frozen? ⟨g, 7, none⟩ = false
  f8 : w.frozen? ⟨g, 8, none⟩ = false
  f9 : w.frozen? ⟨g, 9, none⟩ = false
  f10 : w.frozen? ⟨g, 10, none⟩ = false
  f11 : w.frozen? ⟨g, 11, none⟩ = false
  f12 : w.frozen? ⟨g, 12, none⟩ = false
theorem thirteen {w : World} {g : Nat} {p : Prd} {A : Option Addr} {n c : Nat} (hg : w.heap[g]? = some (pbox p A n c)) : Thirteen w g p A n c :=
  ⟨cell_of_row _ _ 0 _ _ _ hg, cell_of_row _ _ 1 _ _ _ hg, cell_of_row _ _ 2 _ _ _ hg, cell_of_row _ _ 3 _ _ _ hg, cell_of_row _ _ 4 _ _ _ hg, cell_of_row _ _ 5 _ _ _ hg, cell_of_row _ _ 6 _ _ _ hg, cell_of_row _ _ 7 _ _ _ hg, cell_of_row _ _ 8 _ _ _ hg, cell_of_row _ _ 9 _ _ _ hg, cell_of_row _ _ 10 _ _ _ hg, cell_of_row _ _ 11 _ _ _ hg, cell_of_row _ _ 12 _ _ _ hg,
   frozen_of_row _ _ 0 _ _ hg, frozen_of_row _ _ 1 _ _ hg, frozen_of_row _ _ 2 _ _ hg, frozen_of_row _ _ 3 _ _ hg, frozen_of_row _ _ 4 _ _ hg, frozen_of_row _ _ 5 _ _ hg, frozen_of_row _ _ 6 _ _ hg, frozen_of_row _ _ 7 _ _ hg, frozen_of_row _ _ 8 _ _ hg, frozen_of_row _ _ 9 _ _ hg, frozen_of_row _ _ 10 _ _ hg, frozen_of_row _ _ 11 _ _ hg, frozen_of_row _ _ 12 _ _ hg⟩
/-- A test's block whose V, W or Set was turned. -/
theorem turnV {w : World} {g : Nat} {p : Prd} {A : Option Addr} {n c : Nat} (hg : w.heap[g]? = some (pbox p A n c)) (v : Val) : (setV w g (.int .i64 v.k) (.int .i64 v.n) (.float .f64 v.x) (.string v.s) (.bool v.b)).heap[g]? = some (pbox { p with v := v } A n c) := rowV _ _ _ _ _ hg
theorem turnW {w : World} {g : Nat} {p : Prd} {A : Option Addr} {n c : Nat} (hg : w.heap[g]? = some (pbox p A n c)) (v : Val) : (setW w g (.int .i64 v.k) (.int .i64 v.n) (.float .f64 v.x) (.string v.s) (.bool v.b)).heap[g]? = some (pbox { p with w := v } A n c) := rowW _ _ _ _ _ hg
theorem turnS {w : World} {g : Nat} {p : Prd} {A : Option Addr} {n c : Nat} (hg : w.heap[g]? = some (pbox p A n c)) (A' : Option Addr) (n' c' : Nat) (l : List Val) : (w.setCell ⟨g, 12, none⟩ (.slice A' n' c')).heap[g]? = some (pbox { p with set := l } A' n' c') := heap_setCell_same w g 12 _ _ _ hg
theorem turn13 {w : World} {g : Nat} {p q : Prd} {A B : Option Addr} {n c m d : Nat} (hg : w.heap[g]? = some (pbox p A n c)) : (set13 w g (.string q.name) (.int .i64 q.t) (.int .i64 q.v.k) (.int .i64 q.v.n) (.float .f64 q.v.x) (.string q.v.s) (.bool q.v.b) (.int .i64 q.w.k) (.int .i64 q.w.n) (.float .f64 q.w.x) (.string q.w.s) (.bool q.w.b) (.slice B m d)).heap[g]? = some (pbox q B m d) := row13 _ _ _ _ _ _ _ _ _ _ _ _ _ hg

theorem pbox_row {W : World} {g : Nat} {p : Prd} {A : Option Addr} {n c : Nat} (h : W.heap[g]? = some (pbox p A n c)) : PBox W g p A n c :=
  ⟨later_cell (cell_of_row _ _ 0 _ _ _ h), later_cell (cell_of_row _ _ 1 _ _ _ h), later_cell (cell_of_row _ _ 2 _ _ _ h), later_cell (cell_of_row _ _ 3 _ _ _ h), later_cell (cell_of_row _ _ 4 _ _ _ h), later_cell (cell_of_row _ _ 5 _ _ _ h), later_cell (cell_of_row _ _ 6 _ _ _ h), later_cell (cell_of_row _ _ 7 _ _ _ h), later_cell (cell_of_row _ _ 8 _ _ _ h), later_cell (cell_of_row _ _ 9 _ _ _ h), later_cell (cell_of_row _ _ 10 _ _ _ h), later_cell (cell_of_row _ _ 11 _ _ _ h), later_cell (cell_of_row _ _ 12 _ _ _ h)⟩
theorem vbox_row {W : World} {g : Nat} {v : Val} (h : W.heap[g]? = some (vbox v)) : VBox W g v :=
  ⟨later_cell (cell_of_row _ _ 0 _ _ _ h), later_cell (cell_of_row _ _ 1 _ _ _ h), later_cell (cell_of_row _ _ 2 _ _ _ h), later_cell (cell_of_row _ _ 3 _ _ _ h), later_cell (cell_of_row _ _ 4 _ _ _ h)⟩
/-- A row of values that the call made. -/
abbrev OwnV (B : Nat) (w : World) (v : Value) (l : List Val) : Prop := OwnW 5 B 41 w v l.length (vflat l)
theorem val_info : (Try.prog.info? 41).map (fun i => (i.zero, i.size, i.bytes)) = some (some (vl 0 0 0 ⟨#[]⟩ false), 5, 48) := by kernel_rfl
theorem ownw_base {k B n : Nat} {e : TypeId} {w : World} {v : Value} {xs : List Value} (h : OwnW k B e w v n xs) : ∀ i, v.ownBlock = some i → B ≤ i := by
  obtain ⟨A, c, rfl, -, -, -, hA, hb, -⟩ := h.reads
  intro i hi
  rw [hb] at hi
  obtain ⟨x, hx, rfl⟩ := Option.map_eq_some_iff.1 hi
  exact (hA x hx).1
theorem ownw_sub {k B C n : Nat} {e : TypeId} {w : World} {v : Value} {xs : List Value} (h : OwnW k B e w v n xs) (hc : C ≤ B) : OwnW k C e w v n xs := by
  refine ⟨⟨h.1.1, ?_⟩, Nat.le_trans hc h.2⟩
  rcases h.1.2 with hn | ⟨g, cap, cur, rfl, hb, hg, rest⟩
  · exact .inl hn
  · exact .inr ⟨g, cap, cur, rfl, Nat.le_trans hc hb, hg, rest⟩
theorem ownw_apart {k B b n : Nat} {e : TypeId} {w : World} {v : Value} {xs : List Value} (h : OwnW k B e w v n xs) (hb : b < B) : ∀ i, v.ownBlock = some i → ¬ i = b := by
  intro i hi e
  have := ownw_base h i hi
  omega
theorem ownv_add {B : Nat} {w : World} {v : Value} {l m : List Val} {n : Nat} (h : OwnW 5 B 41 w v (l.length + n) (vflat l ++ vflat m)) (hn : m.length = n := by rfl) : OwnV B w v (l ++ m) := by
  unfold OwnV
  rw [List.length_append, hn, vflat, List.flatMap_append]
  exact h
theorem new_val (w : World) (a : Val) : Rs 5 (w.alloc (vbox a)) (some ⟨w.heap.size, 0, none⟩) 1 (vflat [a]) := by
  refine ⟨rfl, .inr ⟨w.heap.size, 0, rfl, fun j u hj => ?_⟩⟩
  rw [World.cell?_alloc_new, Nat.zero_add]
  simpa [vflat, Val.cells] using hj
theorem OwnW.vs {B n : Nat} {w : World} {A : Option Addr} {c : Nat} {l : List Val} (h : OwnW 5 B 41 w (.slice A n c) n (vflat l)) (hz : ∀ a, a ∈ l → Fit a) : Vs w A n l := by
  obtain ⟨A', c', e, hc, hm, hr, -⟩ := h.reads
  cases e
  exact ⟨hr, hz, by unfold maxLen at hm; omega⟩
namespace Pd
/-- A value such as a Feed gives. -/
structure Small (a : Val) : Prop where
  lo : -9223372036854775808 ≤ a.n
  hi : a.n ≤ 9223372036854775807
  fl : a.x < 2 ^ 64
  txt : a.s.size ≤ 12
theorem Small.fit {a : Val} (h : Small a) : Fit a := ⟨h.lo, h.hi, by have := h.txt; omega⟩
theorem small0 : Small z0 := ⟨by decide, by decide, by decide, by decide⟩
theorem right_small {k n : Int} {x : Nat} {s : ByteArray} {t : Bool} (h1 : -9223372036854775808 ≤ n) (h2 : n ≤ 9223372036854775807) (h3 : x < 2 ^ 64) (h : Vl.right ⟨k, n, x, s, t⟩ = true) : Small ⟨k, n, x, s, t⟩ := by
  refine ⟨h1, h2, h3, ?_⟩
  have hk := Vl.right_kind h
  show s.size ≤ 12
  unfold Vl.right at h
  dsimp only at h hk
  rcases hk with rfl | rfl | rfl | rfl <;> simp [Vl.zs] at h
  · have := Vl.size_nil h.1.2; omega
  · have := Vl.size_nil h.1.2; omega
  · exact h.2
  · have := Vl.size_nil h.2; omega
/-- A test such as a Feed gives, of a name. -/
structure Fed (nm : ByteArray) (p : Prd) : Prop where
  name : p.name = nm
  lo : 1 ≤ p.t
  hi : p.t ≤ 10
  v : Small p.v
  w : Small p.w
  few : p.set.length ≤ 4
  set : ∀ a, a ∈ p.set → Small a
  right : At.word nm = true → Pd.right p = true
theorem zero0 : zero z0 = true := Vl.same_self _
end Pd
theorem Pd.Fed.is {nm : ByteArray} {p : Prd} {w : World} {A : Option Addr} {n c B : Nat} (h : Pd.Fed nm p) (hn : nm.size ≤ 9223372036854775807) (ho : OwnW 5 B 41 w (.slice A n c) n (vflat p.set)) : IsPrd w p A n :=
  ⟨by rw [h.name]; exact hn, h.v.fit, h.w.fit, ho.vs fun a ha => (h.set a ha).fit⟩
end Go.Proofs.Ytgenmebmdpnjhaa
