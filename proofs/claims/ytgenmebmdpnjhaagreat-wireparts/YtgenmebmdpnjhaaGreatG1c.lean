/- G1c: OwnRow, Wide, Blk, Quiet, Held, Split, Movers in one text. -/
import Derived.Test.YtgenmebmdpnjhaaGreatG1a
import Derived.Lib.Hide
import Derived.Lib.FrozenHead2
import Derived.Test.YtgenmebmdpnjhaaGreatChecked
import Derived.KernelRfl
import Derived.Laws.CopyOwn
import Derived.Laws.OwnMore
import Derived.OwnWalk
import Derived.Laws.AppendOwn
import Derived.Laws.CopyRow
import Derived.Deep.AppendLies
import Derived.Test.YtgenmebmdpnjhaaGreatG1b
import Derived.WalkKit
import Derived.Below
import Derived.Deep.RegionHeld
import Derived.BigFrame
namespace Go.Proofs.YtgenmebmdpnjhaaGreat
open Go.RowKit

/-- v is a row of cells xs of type e in a block not younger than B (or nil). -/
def Own (B : Nat) (e : TypeId) (w : World) (v : Value) (xs : List Value) : Prop := w.ownsRowF B e 1 v xs.length xs ∧ B ≤ w.heap.size
theorem Own.nil (e : TypeId) (w : World) {B : Nat} (hB : B ≤ w.heap.size) : Own B e w (.slice none 0 0) [] := ⟨World.ownsRowF_nil _ _ _ _, hB⟩
theorem Own.kept {B : Nat} {e : TypeId} {w w' : World} {v : Value} {xs : List Value} {S : Nat → Prop} (h : Own B e w v xs) (k : Kept S w w') (hs : ∀ i, B ≤ i → ¬ S i) : Own B e w' v xs := by
  refine ⟨⟨h.1.1, ?_⟩, Nat.le_trans h.2 k.size⟩
  rcases h.1.2 with hn | ⟨g, cap, cur, fz, rfl, hb, hg, rest⟩
  · exact .inl hn
  · have hlt : g < w.heap.size := (Array.getElem?_eq_some_iff.1 hg).1
    exact .inr ⟨g, cap, cur, fz, rfl, hb, by rw [k.block g hlt (hs g hb)]; exact hg, rest⟩
theorem Own.later {B : Nat} {e : TypeId} {w w' : World} {v : Value} {xs : List Value} (h : Own B e w v xs) (k : Below w.heap.size w w') : Own B e w' v xs :=
  h.kept (S := fun _ => False) (Kept.ofBelow k) (fun _ _ => id)
/-- How such a row reads. -/
theorem Own.reads {B : Nat} {e : TypeId} {w : World} {v : Value} {xs : List Value} (h : Own B e w v xs) :
    ∃ A n c, v = .slice A n c ∧ n = xs.length ∧ n ≤ c ∧ ((A = none ∧ n = 0) ∨ ∃ g, A = some ⟨g, 0, none⟩ ∧ B ≤ g ∧ g < w.heap.size ∧ ∀ j u, xs[j]? = some u → w.cell? ⟨g, j, none⟩ = some u) := by
  rcases h.1.2 with ⟨rfl, h0⟩ | ⟨g, cap, cur, fz, rfl, hb, hg, hf, hc, rest⟩
  · exact ⟨none, 0, 0, rfl, h0.symm, Nat.le_refl _, .inl ⟨rfl, rfl⟩⟩
  · refine ⟨_, _, _, rfl, rfl, hc, .inr ⟨g, rfl, hb, (Array.getElem?_eq_some_iff.1 hg).1, fun j u hj => ?_⟩⟩
    have := h.1.cells (g := g) rfl j u hj
    rw [show (⟨g, 0, none⟩ : Addr).add j = ⟨g, j, none⟩ by unfold Addr.add; split <;> simp_all] at this
    exact this
theorem kept_grown {w w' : World} {v : Value} {B : Nat} (hg : w.grownBy w' v.ownBlock) (hb : ∀ k, v.ownBlock = some k → B ≤ k) : Kept (fun k => B ≤ k) w w' := by
  refine ⟨hg.os, hg.tape, hg.output, hg.size, fun k hk hs => hg.block k hk (fun e => hs (hb k e.symm))⟩

/-- 'append(own, x)'. -/
theorem wpList_own1 {w : World} {ops : Array Oper} {rest : List Oper} {o : Oper} {a : Act} {Q : Exit → Act → World → Prop} (hgd : o.guard = none) (s x : Operand) (t : TypeId)
    (ho : o.op = .call { callee := .builtin .append, args := #[s, x], argTypes := #[t, t] })
    {e : TypeId} {i : TypeInfo} {z : Value} (bytes : Nat) (ht : Tryz.prog.underlying t = some (.slice e)) (hi : Tryz.prog.info? e = some i) (hz : i.zero = some z) (hsize : i.size = 1) (hby : i.bytes = bytes) (hzs : z.cells.size = 1)
    (B : Nat) (v : Value) (xs : List Value) (hs : a.eval s = v) (hown : Own B e w v xs) (u : Value) (hu : u.oneCell' = true) (hx : a.eval x = .slice (some ⟨w.heap.size, 0, none⟩) 1 1) (hlen : xs.length ≤ 1000000) (hbs : bytes ≤ 100)
    (h : ∀ v' w', Own B e w' v' (xs ++ [u]) → Kept (fun k => B ≤ k) w w' → wpList Tryz.prog ops Q rest (a.put o.dst v') w') : wpList Tryz.prog ops Q (o :: rest) a (w.alloc (.cells #[u] e)) := by
  have hown' : Own B e (w.alloc (.cells #[u] e)) v xs := hown.later ((Below.refl _ _).alloc (Nat.le_refl _) _)
  have hb : (xs.length + 1) * bytes ≤ 140737488355328 := by
    have : (xs.length + 1) * bytes ≤ 1000001 * 100 := Nat.mul_le_mul (by omega) hbs
    omega
  refine wpList_append_ownF (w.alloc (.cells #[u] e)) hgd s x t ho B e i z 1 bytes ht hi hz hsize hby hzs (by decide) v xs.length xs hs hown'.1 ⟨w.heap.size, 0, none⟩ 1 1 [u] hx rfl ?_ ?_ (by unfold maxLen; omega) hb hown'.2 ?_
  · intro j y hj
    match j, hj with
    | 0, hj => cases hj; simp [Addr.add]
  · intro y hy
    rw [List.mem_singleton.1 hy]; exact hu
  · intro v' w' ho' hg _
    have k1 : Kept (fun k => B ≤ k) w (w.alloc (.cells #[u] e)) := Kept.alloc _ _ _
    have k2 := kept_grown (B := B) hg (fun k hk => (hown'.1.lt k hk).1)
    refine h v' w' ⟨?_, Nat.le_trans hown.2 (k1.then k2).size⟩ (k1.then k2)
    rw [List.length_append]
    exact ho'

/-- 'append(own, x)' in a region that draws its order: the one step. -/
theorem step_own1 {w : World} {o : Oper} {a : Act} {K : Act → World → Prop} {Q : Exit → Act → World → Prop} (s x : Operand) (t : TypeId)
    (ho : o.op = .call { callee := .builtin .append, args := #[s, x], argTypes := #[t, t] })
    {e : TypeId} {i : TypeInfo} {z : Value} (bytes : Nat) (ht : Tryz.prog.underlying t = some (.slice e)) (hi : Tryz.prog.info? e = some i) (hz : i.zero = some z) (hsize : i.size = 1) (hby : i.bytes = bytes) (hzs : z.cells.size = 1)
    (B : Nat) (v : Value) (xs : List Value) (hs : a.eval s = v) (hown : Own B e w v xs) (u : Value) (hu : u.oneCell' = true) (hx : a.eval x = .slice (some ⟨w.heap.size, 0, none⟩) 1 1) (hlen : xs.length ≤ 1000000) (hbs : bytes ≤ 100)
    (h : ∀ v' w', Own B e w' v' (xs ++ [u]) → Kept (fun k => B ≤ k) w w' → K (a.put o.dst v') w') : Oper.wp Tryz.prog o a (w.alloc (.cells #[u] e)) K Q := by
  have hown' : Own B e (w.alloc (.cells #[u] e)) v xs := hown.later ((Below.refl _ _).alloc (Nat.le_refl _) _)
  have hb : (xs.length + 1) * bytes ≤ 140737488355328 := by
    have : (xs.length + 1) * bytes ≤ 1000001 * 100 := Nat.mul_le_mul (by omega) hbs
    omega
  obtain ⟨v', w', hr, h2, h3, h4⟩ := run_append_ownF (P := Tryz.prog) (w.alloc (.cells #[u] e)) B t o.type e i z 1 bytes ht hi hz hsize hby hzs (by decide) v xs.length xs hown'.1 ⟨w.heap.size, 0, none⟩ 1 1 [u] rfl
    (by intro j y hj
        match j, hj with
        | 0, hj => cases hj; simp [Addr.add]) (by intro y hy; rw [List.mem_singleton.1 hy]; exact hu) (by unfold maxLen; omega) hb hown'.2
  unfold Oper.wp execOp
  simp only [ho, resolve, invoke, builtin, Sem.run_bind, Sem.run_pure, Result.andThen_ok, List.map_toArray, List.map_cons, List.map_nil, hs, hx, hr]
  have k1 : Kept (fun k => B ≤ k) w (w.alloc (.cells #[u] e)) := Kept.alloc _ _ _
  have k2 := kept_grown (B := B) h3 (fun k hk => (hown'.1.lt k hk).1)
  refine h v' w' ⟨?_, Nat.le_trans hown.2 (k1.then k2).size⟩ (k1.then k2)
  rw [List.length_append]
  exact h2

theorem u64_info : ∃ i, Tryz.prog.info? 151 = some i ∧ i.zero = some (.int .u64 0) ∧ i.size = 1 ∧ i.bytes = 8 := by
  have h : (Tryz.prog.info? 151).map (fun i => (i.zero, i.size, i.bytes)) = some (some (.int .u64 0), 1, 8) := by kernel_rfl
  cases hi : Tryz.prog.info? 151 with
  | none => rw [hi] at h; cases h
  | some i => rw [hi] at h; simp at h; exact ⟨i, rfl, h⟩
abbrev ucell (b : Nat) : Value := .int .u64 (b : Int)
/-- A row of own words. -/
abbrev OwnU (B : Nat) (w : World) (v : Value) (l : List Nat) : Prop := Own B 151 w v (l.map ucell)
end Go.Proofs.YtgenmebmdpnjhaaGreat

namespace Go.Proofs.YtgenmebmdpnjhaaGreat
open Go.RowKit

theorem flat_len {α : Type} (f : α → List Value) {k : Nat} (hf : ∀ a, (f a).length = k) (l : List α) : (l.flatMap f).length = l.length * k := by
  induction l with
  | nil => simp
  | cons a l ih => rw [List.flatMap_cons, List.length_append, ih, hf, List.length_cons, Nat.add_mul]; omega
theorem flat_get {α : Type} (f : α → List Value) {k : Nat} (hf : ∀ a, (f a).length = k) : ∀ (l : List α) (i j : Nat) (a : α), l[i]? = some a → j < k → (l.flatMap f)[i * k + j]? = (f a)[j]?
  | [], _, _, _, h, _ => by simp at h
  | b :: l, 0, j, a, h, hj => by
    simp at h; subst h
    rw [List.flatMap_cons, List.getElem?_append_left (by rw [hf]; omega)]; simp
  | b :: l, i + 1, j, a, h, hj => by
    rw [List.flatMap_cons, List.getElem?_append_right (by rw [hf, Nat.add_mul]; omega), hf, show (i + 1) * k + j - k = i * k + j by rw [Nat.add_mul]; omega]
    exact flat_get f hf l i j a (by simpa using h) hj
theorem flat_take {α : Type} (f : α → List Value) {k : Nat} (hf : ∀ a, (f a).length = k) : ∀ (l : List α) (n : Nat), (l.flatMap f).take (n * k) = (l.take n).flatMap f
  | [], n => by simp
  | b :: l, 0 => by simp
  | b :: l, n + 1 => by
    rw [List.flatMap_cons, List.take_succ_cons, List.flatMap_cons, ← flat_take f hf l n, List.take_append, List.take_of_length_le (by rw [hf, Nat.add_mul]; omega), hf, show (n + 1) * k - k = n * k by rw [Nat.add_mul]; omega]

/-- A slice of n elements of k cells reads as the cells xs. -/
def Rs (k : Nat) (w : World) (A : Option Addr) (n : Nat) (xs : List Value) : Prop :=
  xs.length = n * k ∧ (xs = [] ∨ ∃ g o, A = some ⟨g, o, none⟩ ∧ ∀ j u, xs[j]? = some u → w.cell? ⟨g, o + j, none⟩ = some u)
theorem Rs.nil (k : Nat) (w : World) (A : Option Addr) : Rs k w A 0 [] := ⟨by simp, .inl rfl⟩
theorem Rs.kept {S : Nat → Prop} {k : Nat} {w w' : World} {A : Option Addr} {n : Nat} {xs : List Value} (h : Rs k w A n xs) (q : Kept S w w') (hs : ∀ x, A = some x → ¬ S x.block) : Rs k w' A n xs := by
  refine ⟨h.1, ?_⟩
  rcases h.2 with rfl | ⟨g, o, rfl, hc⟩
  · exact .inl rfl
  · refine .inr ⟨g, o, rfl, fun j u hj => ?_⟩
    have := hc j u hj
    rw [q.cell (p := ⟨g, o + j, none⟩) (cell_lt this) (show ¬ S g from hs ⟨g, o, none⟩ rfl)]
    exact this
theorem Rs.later {k : Nat} {w w' : World} {A : Option Addr} {n : Nat} {xs : List Value} (h : Rs k w A n xs) (q : Below w.heap.size w w') : Rs k w' A n xs :=
  h.kept (S := fun _ => False) (Kept.ofBelow q) (fun _ _ => id)

/-- v is a row of n elements (cells xs, k each) of type e in a block not younger than B (or nil). -/
def OwnW (k B : Nat) (e : TypeId) (w : World) (v : Value) (n : Nat) (xs : List Value) : Prop := w.ownsRow B e k v n xs ∧ B ≤ w.heap.size
theorem OwnW.nil (k : Nat) (e : TypeId) (w : World) {B : Nat} (hB : B ≤ w.heap.size) : OwnW k B e w (.slice none 0 0) 0 [] := ⟨World.ownsRow_nil _ _ _ _, hB⟩
theorem OwnW.kept {k B : Nat} {e : TypeId} {w w' : World} {v : Value} {n : Nat} {xs : List Value} {S : Nat → Prop} (h : OwnW k B e w v n xs) (q : Kept S w w') (hs : ∀ i, v.ownBlock = some i → ¬ S i) : OwnW k B e w' v n xs := by
  refine ⟨⟨h.1.1, ?_⟩, Nat.le_trans h.2 q.size⟩
  rcases h.1.2 with hn | ⟨g, cap, cur, rfl, hb, hg, rest⟩
  · exact .inl hn
  · have hlt : g < w.heap.size := (Array.getElem?_eq_some_iff.1 hg).1
    exact .inr ⟨g, cap, cur, rfl, hb, by rw [q.block g hlt (hs g rfl)]; exact hg, rest⟩
theorem OwnW.later {k B : Nat} {e : TypeId} {w w' : World} {v : Value} {n : Nat} {xs : List Value} (h : OwnW k B e w v n xs) (q : Below w.heap.size w w') : OwnW k B e w' v n xs :=
  h.kept (S := fun _ => False) (Kept.ofBelow q) (fun _ _ => id)
/-- A block that holds just such cells. -/
theorem OwnW.of_row {k B : Nat} {e : TypeId} {w : World} {g n : Nat} {xs : List Value} (hB : B ≤ g) (hg : w.heap[g]? = some (.cells xs.toArray e (0, 0))) (hl : xs.length = n * k) (hn : n ≤ maxLen) : OwnW k B e w (.slice (some ⟨g, 0, none⟩) n n) n xs := by
  have hlt : g < w.heap.size := (Array.getElem?_eq_some_iff.1 hg).1
  exact ⟨⟨hl, .inr ⟨g, n, xs.toArray, rfl, hB, hg, Nat.le_refl _, hn, by simp [hl], by simp [List.take_of_length_le, hl]⟩⟩, by omega⟩
/-- How such a row reads. -/
theorem OwnW.reads {k B : Nat} {e : TypeId} {w : World} {v : Value} {n : Nat} {xs : List Value} (h : OwnW k B e w v n xs) :
    ∃ A c, v = .slice A n c ∧ n ≤ c ∧ c ≤ maxLen ∧ Rs k w A n xs ∧ (∀ x, A = some x → B ≤ x.block ∧ x.block < w.heap.size) ∧ v.ownBlock = A.map (·.block) ∧ (A = none → n = 0 ∧ c = 0) := by
  rcases h.1.2 with ⟨rfl, rfl⟩ | ⟨g, cap, cur, rfl, hb, hg, hc, hm, rest⟩
  · have : xs = [] := List.eq_nil_of_length_eq_zero (by rw [h.1.1]; simp)
    subst this
    exact ⟨none, 0, rfl, Nat.le_refl _, by unfold maxLen; omega, Rs.nil _ _ _, (fun _ e => by cases e), rfl, fun _ => ⟨rfl, rfl⟩⟩
  · have hlt : g < w.heap.size := (Array.getElem?_eq_some_iff.1 hg).1
    refine ⟨_, cap, rfl, hc, hm, ⟨h.1.1, .inr ⟨g, 0, rfl, fun j u hj => ?_⟩⟩, fun x e => by cases e; exact ⟨hb, hlt⟩, rfl, fun e => by cases e⟩
    have := h.1.cells (g := g) rfl j u hj
    rw [show (⟨g, 0, none⟩ : Addr).add j = ⟨g, j, none⟩ by unfold Addr.add; split <;> simp_all] at this
    rw [Nat.zero_add]
    exact this
/-- A cell of it is stored to. -/
theorem OwnW.store {k B : Nat} {e : TypeId} {w : World} {g n c : Nat} {xs : List Value} (h : OwnW k B e w (.slice (some ⟨g, 0, none⟩) n c) n xs) (j : Nat) (u : Value) (_ : j < n * k) : OwnW k B e (w.setCell ⟨g, j, none⟩ u) (.slice (some ⟨g, 0, none⟩) n c) n (xs.set j u) := by
  rcases h.1.2 with ⟨h0, -⟩ | ⟨g', cap, cur, hv, hb, hg, hc, hm, hs, ht⟩
  · cases h0
  · cases hv
    refine ⟨⟨by simp [h.1.1], .inr ⟨g, c, cur.setIfInBounds j u, rfl, hb, ?_, hc, hm, by simp [hs], ?_⟩⟩, by simpa [World.setCell] using h.2⟩
    · obtain ⟨hlt, he⟩ := Array.getElem?_eq_some_iff.1 hg
      simp [World.setCell, hlt, Array.getElem_modify, he]
    · rw [Array.toList_setIfInBounds, List.take_set, ht]
/-- No cell of it is frozen. -/
theorem OwnW.thaw {k B : Nat} {e : TypeId} {w : World} {g n c : Nat} {xs : List Value} (h : OwnW k B e w (.slice (some ⟨g, 0, none⟩) n c) n xs) (j : Nat) : w.frozen? ⟨g, j, none⟩ = false := h.1.frozenAt j
theorem info_at {e : TypeId} {z : Value} {k b : Nat} (h : (Tryz.prog.info? e).map (fun i => (i.zero, i.size, i.bytes)) = some (some z, k, b)) : ∃ i, Tryz.prog.info? e = some i ∧ i.zero = some z ∧ i.size = k ∧ i.bytes = b := by
  cases hi : Tryz.prog.info? e with
  | none => rw [hi] at h; cases h
  | some i => rw [hi] at h; simp at h; exact ⟨i, rfl, h⟩
theorem append_nil_run {w : World} {B : Nat} {v : Value} {n : Nat} {xs : List Value} {e t : TypeId} {z : Value} {k bytes : Nat} (ty : TypeId) (ht : Tryz.prog.underlying t = some (.slice e)) (hi : (Tryz.prog.info? e).map (fun i => (i.zero, i.size, i.bytes)) = some (some z, k, bytes)) (hown : w.ownsRow B e k v n xs) : (Builtin.append_ #[t, t] ty #[v, .slice none 0 0]).run Tryz.prog w = .ok v w := by
  obtain ⟨i, hi, _, _, _⟩ := info_at hi
  rcases hown.2 with ⟨rfl, rfl⟩ | ⟨g, cap, cur, rfl, _, _, hnc, _⟩
  · simp [Builtin.append_, run_underlying ht, sizeOf, typeInfo, hi, Builtin.lenOf, Builtin.firstCells]
  · simp [Builtin.append_, run_underlying ht, sizeOf, typeInfo, hi, Builtin.lenOf, Builtin.firstCells, hnc, storeCells]
/-- 'append(own, src...)': what src reads as behind what own had, within what memory bears. -/
theorem wpList_ownb {w : World} {ops : Array Oper} {rest : List Oper} {o : Oper} {a : Act} {Q : Exit → Act → World → Prop} (hgd : o.guard = none) (s x : Operand) (t : TypeId)
    (ho : o.op = .call { callee := .builtin .append, args := #[s, x], argTypes := #[t, t] })
    {e : TypeId} {z : Value} {k bytes : Nat} (ht : Tryz.prog.underlying t = some (.slice e)) (hi : (Tryz.prog.info? e).map (fun i => (i.zero, i.size, i.bytes)) = some (some z, k, bytes)) (hzs : z.cells.size = k) (hk : 0 < k)
    (B : Nat) (v : Value) (n : Nat) (xs : List Value) (hs : a.eval s = v) (hown : OwnW k B e w v n xs) (A : Option Addr) (m c : Nat) (hx : a.eval x = .slice A m c) (hA : A = none → m = 0 ∧ c = 0) (us : List Value) (hus : Rs k w A m us) (hu : ∀ u ∈ us, u.oneCell' = true) (hlen : n + m ≤ maxLen) (hb : (n + m) * bytes ≤ 140737488355328)
    (h : ∀ v' w', OwnW k B e w' v' (n + m) (xs ++ us) → Kept (fun i => v.ownBlock = some i) w w' → wpList Tryz.prog ops Q rest (a.put o.dst v') w') : wpList Tryz.prog ops Q (o :: rest) a w := by
  obtain ⟨i, hi', hz, h1, h2⟩ := info_at hi
  rcases A with - | ad
  · obtain ⟨rfl, rfl⟩ := hA rfl
    have e0 : us = [] := List.eq_nil_of_length_eq_zero (by rw [hus.1]; simp)
    subst e0
    refine wpList_plain hgd fun K hK => ?_
    have hrun := append_nil_run (w := w) (B := B) (v := v) (n := n) (xs := xs) o.type ht hi hown.1
    unfold Oper.wp
    simp only [execOp, ho, resolve, invoke, builtin, Sem.run_bind, Sem.run_pure, Result.andThen_ok, List.map_toArray, List.map_cons, List.map_nil, hs, hx, hrun]
    exact hK _ _ (h v w (by rw [List.append_nil]; exact hown) (Kept.refl _ _))
  refine wpList_append_own w hgd s x t ho B e i z k bytes ht hi' hz h1 h2 hzs hk v n xs hs hown.1 ad m c us hx hus.1 ?_ hu hlen hb hown.2 ?_
  · intro j u hj
    rcases hus.2 with rfl | ⟨g, o, e, hc⟩
    · simp at hj
    · cases e
      rw [show (⟨g, o, none⟩ : Addr).add j = ⟨g, o + j, none⟩ by unfold Addr.add; split <;> simp_all]
      exact hc j u hj
  · intro v' w' ho' hg _
    exact h v' w' ⟨ho', Nat.le_trans hown.2 hg.size⟩ ⟨hg.os, hg.tape, hg.output, hg.size, fun i hi hs => hg.block i hi (fun e => hs e.symm)⟩
/-- The same, where both are few. -/
theorem wpList_ownw {w : World} {ops : Array Oper} {rest : List Oper} {o : Oper} {a : Act} {Q : Exit → Act → World → Prop} (hgd : o.guard = none) (s x : Operand) (t : TypeId)
    (ho : o.op = .call { callee := .builtin .append, args := #[s, x], argTypes := #[t, t] })
    {e : TypeId} {z : Value} {k bytes : Nat} (ht : Tryz.prog.underlying t = some (.slice e)) (hi : (Tryz.prog.info? e).map (fun i => (i.zero, i.size, i.bytes)) = some (some z, k, bytes)) (hzs : z.cells.size = k) (hk : 0 < k)
    (B : Nat) (v : Value) (n : Nat) (xs : List Value) (hs : a.eval s = v) (hown : OwnW k B e w v n xs) (A : Option Addr) (m c : Nat) (hx : a.eval x = .slice A m c) (hA : A = none → m = 0 ∧ c = 0) (us : List Value) (hus : Rs k w A m us) (hu : ∀ u ∈ us, u.oneCell' = true) (hlen : n + m ≤ 1000000) (hbs : bytes ≤ 1000)
    (h : ∀ v' w', OwnW k B e w' v' (n + m) (xs ++ us) → Kept (fun i => v.ownBlock = some i) w w' → wpList Tryz.prog ops Q rest (a.put o.dst v') w') : wpList Tryz.prog ops Q (o :: rest) a w := by
  refine wpList_ownb hgd s x t ho ht hi hzs hk B v n xs hs hown A m c hx hA us hus hu (by unfold maxLen; omega) ?_ h
  have : (n + m) * bytes ≤ 1000000 * 1000 := Nat.mul_le_mul hlen hbs
  omega
/-- 'append(own, src...)' in a region that draws its order: the one step. -/
theorem step_ownw {w : World} {o : Oper} {a : Act} {K : Act → World → Prop} {Q : Exit → Act → World → Prop} (s x : Operand) (t : TypeId)
    (ho : o.op = .call { callee := .builtin .append, args := #[s, x], argTypes := #[t, t] })
    {e : TypeId} {z : Value} {k bytes : Nat} (ht : Tryz.prog.underlying t = some (.slice e)) (hi : (Tryz.prog.info? e).map (fun i => (i.zero, i.size, i.bytes)) = some (some z, k, bytes)) (hzs : z.cells.size = k) (hk : 0 < k)
    (B : Nat) (v : Value) (n : Nat) (xs : List Value) (hs : a.eval s = v) (hown : OwnW k B e w v n xs) (A : Option Addr) (m c : Nat) (hx : a.eval x = .slice A m c) (hA : A = none → m = 0 ∧ c = 0) (us : List Value) (hus : Rs k w A m us) (hu : ∀ u ∈ us, u.oneCell' = true) (hlen : n + m ≤ 1000000) (hbs : bytes ≤ 1000)
    (h : ∀ v' w', OwnW k B e w' v' (n + m) (xs ++ us) → Kept (fun i => v.ownBlock = some i) w w' → K (a.put o.dst v') w') : Oper.wp Tryz.prog o a w K Q := by
  obtain ⟨i, hi', hz, h1, h2⟩ := info_at hi
  have hb : (n + m) * bytes ≤ 140737488355328 := by
    have : (n + m) * bytes ≤ 1000000 * 1000 := Nat.mul_le_mul hlen hbs
    omega
  rcases A with - | ad
  · obtain ⟨rfl, rfl⟩ := hA rfl
    have e0 : us = [] := List.eq_nil_of_length_eq_zero (by rw [hus.1]; simp)
    subst e0
    have hrun := append_nil_run (w := w) (B := B) (v := v) (n := n) (xs := xs) o.type ht hi hown.1
    unfold Oper.wp
    simp only [execOp, ho, resolve, invoke, builtin, Sem.run_bind, Sem.run_pure, Result.andThen_ok, List.map_toArray, List.map_cons, List.map_nil, hs, hx, hrun]
    exact h v w (by rw [List.append_nil]; exact hown) (Kept.refl _ _)
  obtain ⟨v', w', hr, ho', hg, -⟩ := run_append_own (P := Tryz.prog) w B t o.type e i z k bytes ht hi' hz h1 h2 hzs hk v n xs hown.1 ad m c us hus.1
    (by intro j u hj
        rcases hus.2 with rfl | ⟨g, o, e, hc⟩
        · simp at hj
        · cases e
          rw [show (⟨g, o, none⟩ : Addr).add j = ⟨g, o + j, none⟩ by unfold Addr.add; split <;> simp_all]
          exact hc j u hj) hu (by unfold maxLen; omega) hb hown.2
  unfold Oper.wp execOp
  simp only [ho, resolve, invoke, builtin, Sem.run_bind, Sem.run_pure, Result.andThen_ok, List.map_toArray, List.map_cons, List.map_nil, hs, hx, hr]
  exact h v' w' ⟨ho', Nat.le_trans hown.2 hg.size⟩ ⟨hg.os, hg.tape, hg.output, hg.size, fun i hi hs => hg.block i hi (fun e => hs e.symm)⟩
/-- 'copy(whole block, src)'. -/
theorem run_copyw (w : World) (dT sT ty e : TypeId) {k : Nat} (n c c' : Nat) (g : Nat) (A : Option Addr) (cur : List Value) (us : List Value)
    (hu : Tryz.prog.underlying dT = some (.slice e)) (hs : (Tryz.prog.info? e).map (·.size) = some k) (hg : w.heap[g]? = some (.cells cur.toArray e (0, 0))) (hl : cur.length = n * k) (hus : Rs k w A n us) (h1 : ∀ v ∈ us, v.oneCell' = true) :
    (Builtin.copy_ #[dT, sT] ty #[.slice (some ⟨g, 0, none⟩) n c, .slice A n c']).run Tryz.prog w = .ok (goInt n) (w.setRow g us.toArray) := by
  have hmin : Nat.min n n = n := Nat.min_self n
  cases hq : Tryz.prog.info? e with
  | none => simp [hq] at hs
  | some i =>
    have hi : i.size = k := by simpa [hq] using hs
    have hst := run_storeCells_at Tryz.prog g 0 e us 0 cur.toArray w hg (by simp [hl, hus.1]) h1
    have hdr : cur.drop (n * k) = [] := List.drop_eq_nil_of_le (by omega)
    simp [hus.1, hdr] at hst
    rcases hus.2 with rfl | ⟨b, off, rfl, hc⟩
    · have h0 : n * k = 0 := by simpa using hus.1.symm
      have hl0 : ∀ (x : Addr), (loadCells x 0).run Tryz.prog w = .ok #[] w := fun x => by simpa using run_loadCells_list (P := Tryz.prog) w x [] (by simp)
      cases A <;> simp [Builtin.copy_, run_underlying hu, Builtin.lenOf, Builtin.firstCells, sizeOf, typeInfo, hq, hi, h0, hl0, hst]
    · have hld := run_loadCells_list (P := Tryz.prog) w ⟨b, off, none⟩ us (by
        intro j u hj
        rw [show (⟨b, off, none⟩ : Addr).add j = ⟨b, off + j, none⟩ by unfold Addr.add; split <;> simp_all]
        exact hc j u hj)
      rw [hus.1] at hld
      simp [Builtin.copy_, run_underlying hu, Builtin.lenOf, Builtin.firstCells, sizeOf, typeInfo, hq, hi, hld, hst]
end Go.Proofs.YtgenmebmdpnjhaaGreat

namespace Go.Proofs.YtgenmebmdpnjhaaGreat
open Go.RowKit

theorem addr_at (g o j : Nat) : (⟨g, o, none⟩ : Addr).add j = ⟨g, o + j, none⟩ := by unfold Addr.add; split <;> simp_all
theorem run_loadVar_at (w : World) (g o : Nat) (ty : TypeId) (cs : List Value) (d : TypeDesc) (hc : ∀ j v, cs[j]? = some v → w.cell? ⟨g, o + j, none⟩ = some v)
    (hu : Tryz.prog.underlying ty = some d) (hd : (match d with | .struct _ | .array _ _ => true | _ => false) = true) (hi : (Tryz.prog.info? ty).map (·.size) = some cs.length) :
    (loadVar ty ⟨g, o, none⟩).run Tryz.prog w = .ok (.agg cs.toArray) w := by
  have hl : (loadCells ⟨g, o, none⟩ cs.length).run Tryz.prog w = .ok cs.toArray w := run_loadCells_list (P := Tryz.prog) w ⟨g, o, none⟩ cs (fun j v hv => by rw [addr_at]; exact hc j v hv)
  cases hq : Tryz.prog.info? ty with
  | none => simp [hq] at hi
  | some i =>
    have hs : i.size = cs.length := by simpa [hq] using hi
    have hagg : (isAgg ty).run Tryz.prog w = .ok true w := by
      unfold isAgg
      rw [Sem.run_bind, run_underlying hu w]
      cases d <;> simp_all
    simp [loadVar, Sem.run_bind, hagg, sizeOf, typeInfo, hq, hs, hl]
theorem load_run {w : World} {o : Oper} {e : Operand → Value} {v : Value} {ty : TypeId} {x : Operand} {g p : Nat} {cs : List Value} {d : TypeDesc} (ho : o.op = .load ty x) (hx : e x = .pointer (some ⟨g, p, none⟩)) (hc : ∀ j v, cs[j]? = some v → w.cell? ⟨g, p + j, none⟩ = some v)
    (hu : Tryz.prog.underlying ty = some d) (hd : (match d with | .struct _ | .array _ _ => true | _ => false) = true) (hi : (Tryz.prog.info? ty).map (·.size) = some cs.length) (hv : v = .agg cs.toArray) : (execOp e o).run Tryz.prog w = .ok (.value v) w := by
  subst hv
  unfold execOp
  simp only [ho, hx, Instr.loadAt, Instr.sureAddr, Sem.run_bind, Sem.run_pure, Result.andThen_ok, run_loadVar_at w g p ty cs d hc hu hd hi]
/-- A struct is loaded. -/
theorem step_load_at {w : World} {o : Oper} {a : Act} {K : Act → World → Prop} {Q : Exit → Act → World → Prop} (ty : TypeId) (x : Operand) (ho : o.op = .load ty x) (g p : Nat) (cs : List Value) (d : TypeDesc) (hx : a.eval x = .pointer (some ⟨g, p, none⟩)) (hc : ∀ j v, cs[j]? = some v → w.cell? ⟨g, p + j, none⟩ = some v)
    (hu : Tryz.prog.underlying ty = some d) (hd : (match d with | .struct _ | .array _ _ => true | _ => false) = true) (hi : (Tryz.prog.info? ty).map (·.size) = some cs.length) (h : K (a.put o.dst (.agg cs.toArray)) w) : o.wp Tryz.prog a w K Q := by
  unfold Oper.wp execOp
  simp only [ho, hx, Instr.loadAt, Instr.sureAddr, Sem.run_bind, Sem.run_pure, Result.andThen_ok, run_loadVar_at w g p ty cs d hc hu hd hi]
  exact h
theorem wpList_load_at {ops : Array Oper} {rest : List Oper} {w : World} {o : Oper} {a : Act} {Q : Exit → Act → World → Prop} (hgd : o.guard = none) (ty : TypeId) (x : Operand) (ho : o.op = .load ty x) (g p : Nat) (cs : List Value) (d : TypeDesc) (hx : a.eval x = .pointer (some ⟨g, p, none⟩)) (hc : ∀ j v, cs[j]? = some v → w.cell? ⟨g, p + j, none⟩ = some v)
    (hu : Tryz.prog.underlying ty = some d) (hd : (match d with | .struct _ | .array _ _ => true | _ => false) = true) (hi : (Tryz.prog.info? ty).map (·.size) = some cs.length) (h : wpList Tryz.prog ops Q rest (a.put o.dst (.agg cs.toArray)) w) : wpList Tryz.prog ops Q (o :: rest) a w :=
  wpList_plain hgd fun _ hK => step_load_at ty x ho g p cs d hx hc hu hd hi (hK _ _ h)
/-- A row with a part of it turned. -/
abbrev part (old : List Value) (p : Nat) (cs : List Value) : List Value := old.take p ++ cs ++ old.drop (p + cs.length)
theorem run_storeVar_part (w : World) (g p : Nat) (t ty : TypeId) (old : List Value) (v : Value) (cs : List Value) (hv : v.cells.toList = cs) (hg : w.heap[g]? = some (.cells old.toArray t (0, 0))) (hi : (Tryz.prog.info? ty).map (·.size) = some cs.length)
    (ho : p + cs.length ≤ old.length) (h1 : ∀ u ∈ cs, u.oneCell' = true) : (storeVar ty ⟨g, p, none⟩ v).run Tryz.prog w = .ok () (w.setRow g (part old p cs).toArray) := by
  have := run_storeCells_at Tryz.prog g p t cs 0 old.toArray w hg (by simp; omega) h1
  simp only [Nat.add_zero] at this
  cases hq : Tryz.prog.info? ty with
  | none => simp [hq] at hi
  | some i =>
    have hs : v.cells.size = i.size := by
      have : v.cells.size = cs.length := by rw [← hv]; simp
      simp [hq] at hi; omega
    simp [storeVar, sizeOf, typeInfo, hq, Sem.run_bind, hs, hv, this, part]
/-- A part of a row is stored to. -/
theorem step_store_part {w : World} {o : Oper} {a : Act} {K : Act → World → Prop} {Q : Exit → Act → World → Prop} (ty : TypeId) (x y : Operand) (ho : o.op = .store ty x y) (g p : Nat) (v : Value) (cs : List Value) (hx : a.eval x = .pointer (some ⟨g, p, none⟩)) (hy : a.eval y = v) (hv : v.cells.toList = cs)
    (t : TypeId) (old : List Value) (hg : w.heap[g]? = some (.cells old.toArray t (0, 0))) (hi : (Tryz.prog.info? ty).map (·.size) = some cs.length) (hold : p + cs.length ≤ old.length) (h1 : ∀ u ∈ cs, u.oneCell' = true)
    (h : K (a.put o.dst undef) (w.setRow g (part old p cs).toArray)) : o.wp Tryz.prog a w K Q := by
  unfold Oper.wp execOp
  simp only [ho, hx, hy, Instr.storeAt, Instr.sureAddr, Sem.run_bind, Sem.run_pure, Result.andThen_ok, run_storeVar_part w g p t ty old v cs hv hg hi hold h1]
  exact h
theorem wpList_store_part {ops : Array Oper} {rest : List Oper} {w : World} {o : Oper} {a : Act} {Q : Exit → Act → World → Prop} (hgd : o.guard = none) (ty : TypeId) (x y : Operand) (ho : o.op = .store ty x y) (g p : Nat) (v : Value) (cs : List Value) (hx : a.eval x = .pointer (some ⟨g, p, none⟩)) (hy : a.eval y = v) (hv : v.cells.toList = cs)
    (t : TypeId) (old : List Value) (hg : w.heap[g]? = some (.cells old.toArray t (0, 0))) (hi : (Tryz.prog.info? ty).map (·.size) = some cs.length) (hold : p + cs.length ≤ old.length) (h1 : ∀ u ∈ cs, u.oneCell' = true)
    (h : wpList Tryz.prog ops Q rest (a.put o.dst undef) (w.setRow g (part old p cs).toArray)) : wpList Tryz.prog ops Q (o :: rest) a w :=
  wpList_plain hgd fun _ hK => step_store_part ty x y ho g p v cs hx hy hv t old hg hi hold h1 (hK _ _ h)
theorem Kept.setRow (w : World) (g : Nat) (cs : Array Value) : Kept (· = g) w (w.setRow g cs) :=
  ⟨rfl, rfl, rfl, by simp, fun k _ hs => setRow_other w g k cs hs⟩
/-- A row's cells, of a block. -/
theorem cells_row {w : World} {g : Nat} {cs : List Value} {t : TypeId} {fr : Nat × Nat} (hg : w.heap[g]? = some (.cells cs.toArray t fr)) : ∀ j v, cs[j]? = some v → w.cell? ⟨g, 0 + j, none⟩ = some v := by
  intro j v hj
  rw [Nat.zero_add, cell_of_row _ _ _ _ _ _ hg]
  simpa using hj
/-- Two results, each in a cell. -/
theorem results_two_rows {fn : Func} {p q : Tmp} {ty : TypeId} (h : fn.results = #[.cell p ty, .cell q ty]) (tmps : Array Value) (w : World) (g k : Nat) (t : TypeId) (cs ds : Array Value) (fs : Array Field)
    (hp : tmps.getD p undef = .pointer (some ⟨g, 0, none⟩)) (hq : tmps.getD q undef = .pointer (some ⟨k, 0, none⟩)) (hg : w.heap[g]? = some (.cells cs t (0, 0))) (hk : w.heap[k]? = some (.cells ds t (0, 0)))
    (hu : Tryz.prog.underlying ty = some (.struct fs)) (hi : (Tryz.prog.info? ty).map (·.size) = some cs.size) (hj : (Tryz.prog.info? ty).map (·.size) = some ds.size) :
    (results fn tmps).run Tryz.prog w = .ok (.tuple #[.agg cs, .agg ds]) w := by
  have hp' : tmps[p]?.getD undef = .pointer (some ⟨g, 0, none⟩) := by simpa using hp
  have hq' : tmps[q]?.getD undef = .pointer (some ⟨k, 0, none⟩) := by simpa using hq
  simp only [results, h]
  simp [Sem.run_bind, hp', hq', asAddr, Result.andThen, run_loadVar_row w g t ty cs (0, 0) (.struct fs) hg hu rfl hi, run_loadVar_row w k t ty ds (0, 0) (.struct fs) hk hu rfl hj]
/-- Rows of elements of two types do not share a block. -/
theorem ownw_types {k k' B B' n n' : Nat} {e e' : TypeId} {w : World} {v v' : Value} {xs xs' : List Value} (h : OwnW k B e w v n xs) (h' : OwnW k' B' e' w v' n' xs') (ne : e ≠ e') : ∀ i, v.ownBlock = some i → ¬ v'.ownBlock = some i := by
  intro i hi hi'
  rcases h.1.2 with ⟨rfl, -⟩ | ⟨g, cap, cur, rfl, -, hg, -⟩
  · cases hi
  · rcases h'.1.2 with ⟨rfl, -⟩ | ⟨g', cap', cur', rfl, -, hg', -⟩
    · cases hi'
    · cases hi; cases hi'
      rw [hg] at hg'
      cases hg'
      exact ne rfl
theorem ownw_not {k B n : Nat} {e e' : TypeId} {w : World} {v : Value} {xs : List Value} {g : Nat} {cs : Array Value} {fr : Nat × Nat} (h : OwnW k B e w v n xs) (hg : w.heap[g]? = some (.cells cs e' fr)) (ne : e ≠ e') : ∀ i, v.ownBlock = some i → ¬ i = g := by
  intro i hi he
  subst he
  rcases h.1.2 with ⟨rfl, -⟩ | ⟨g, cap, cur, rfl, -, hg', -⟩
  · cases hi
  · cases hi
    rw [hg] at hg'
    cases hg'
    exact ne rfl
theorem ownw_lt {k B n : Nat} {e : TypeId} {w : World} {v : Value} {xs : List Value} (h : OwnW k B e w v n xs) : ∀ i, v.ownBlock = some i → i < w.heap.size := by
  obtain ⟨A, c, rfl, -, -, -, hA, hb, -⟩ := h.reads
  intro i hi
  rw [hb] at hi
  obtain ⟨x, hx, rfl⟩ := Option.map_eq_some_iff.1 hi
  exact (hA x hx).2
/-- 'append(own, src...)' of what is not empty: where the new row lies is told, too. -/
theorem step_ownl {w : World} {o : Oper} {a : Act} {K : Act → World → Prop} {Q : Exit → Act → World → Prop} (s x : Operand) (t : TypeId)
    (ho : o.op = .call { callee := .builtin .append, args := #[s, x], argTypes := #[t, t] })
    {e : TypeId} {z : Value} {k bytes : Nat} (ht : Tryz.prog.underlying t = some (.slice e)) (hi : (Tryz.prog.info? e).map (fun i => (i.zero, i.size, i.bytes)) = some (some z, k, bytes)) (hzs : z.cells.size = k) (hk : 0 < k)
    (B : Nat) (v : Value) (n : Nat) (xs : List Value) (hs : a.eval s = v) (hown : OwnW k B e w v n xs) (ad : Addr) (m c : Nat) (hx : a.eval x = .slice (some ad) m c) (us : List Value) (hus : Rs k w (some ad) m us) (hu : ∀ u ∈ us, u.oneCell' = true) (hm : 0 < m) (hlen : n + m ≤ 1000000) (hbs : bytes ≤ 1000)
    (h : ∀ g cap w', OwnW k B e w' (.slice (some ⟨g, 0, none⟩) (n + m) cap) (n + m) (xs ++ us) → Kept (fun i => v.ownBlock = some i) w w' → (v.ownBlock = some g ∨ g = w.heap.size) → K (a.put o.dst (.slice (some ⟨g, 0, none⟩) (n + m) cap)) w') : Oper.wp Tryz.prog o a w K Q := by
  obtain ⟨i, hi', hz, h1, h2⟩ := info_at hi
  have hb : (n + m) * bytes ≤ 140737488355328 := by
    have : (n + m) * bytes ≤ 1000000 * 1000 := Nat.mul_le_mul hlen hbs
    omega
  refine wp_append_lies w s x t ho B e i z k bytes ht hi' hz h1 h2 hzs hk v n xs hs hown.1 ad m c us hx hus.1 ?_ hu hm (by unfold maxLen; omega) hb hown.2 _ rfl ?_
  · intro j u hj
    rcases hus.2 with rfl | ⟨g, o, e, hc⟩
    · simp at hj
    · cases e
      rw [addr_at]
      exact hc j u hj
  · intro g cap w' ho' hg hat _
    exact h g cap w' ⟨ho', Nat.le_trans hown.2 hg.size⟩ ⟨hg.os, hg.tape, hg.output, hg.size, fun i hi hs => hg.block i hi (fun e => hs e.symm)⟩ hat
theorem below_row {w w' : World} {g : Nat} {o : Obj} (k : Below w.heap.size w w') (h : w.heap[g]? = some o) : w'.heap[g]? = some o := (k.block g (Array.getElem?_eq_some_iff.1 h).1).trans h
end Go.Proofs.YtgenmebmdpnjhaaGreat

namespace Go.Proofs.YtgenmebmdpnjhaaGreat
open Go.RowKit

section
variable {P : Program} {ops : Array Oper} {Q : Exit → Act → World → Prop} {C : World → Prop}
theorem wpList_of_quiet {R : Act → Prop} (hQ : ∀ a w, C w → R a → Q .normal a w) : ∀ (rest : List Oper) (a : Act) (w : World), C w → wpQuiet P ops C R rest a → wpList P ops Q rest a w
  | [], a, w, hw, h => hQ a w hw h
  | o :: rest, a, w, hw, h => by
    unfold wpList
    unfold wpQuiet at h
    split at h
    · rename_i hwant
      rw [if_pos hwant]
      exact .inl (Oper.wp_of_quiet hw (fun a w' hc hk => wpList_of_quiet hQ rest a w' hc hk) h)
    · rename_i hwant
      rw [if_neg hwant]
      exact wpList_of_quiet hQ rest _ w hw h
/-- A plain region whose callees make memory but turn nothing that was there: as wp_region_later. -/
theorem wp_plain_later {id : Nat} {a : Act} {W w : World} {l : List Oper} (hw : Below W.heap.size W w)
    (h : wpQuiet P l.toArray (fun w' => ∃ x : Later W, w' = x.at_) (fun a' => ∀ w', (∃ x : Later W, w' = x.at_) → Q .normal a' w') l a) : (Code.region id l.toArray false).wp P Q a w :=
  wp_region_lit (wpList_of_quiet (fun _ w hc hr => hr w hc) l a w ⟨⟨w, hw⟩, rfl⟩ h)
end
/-- A struct is loaded, in a region that is walked in the order of the text. -/
theorem quiet_load {C : World → Prop} {a : Act} {o : Oper} {K : Act → Prop} (ty : TypeId) (x : Operand) (ho : o.op = .load ty x) (g p : Nat) (cs : List Value) (d : TypeDesc) (hx : a.eval x = .pointer (some ⟨g, p, none⟩)) (hc : ∀ w, C w → ∀ j v, cs[j]? = some v → w.cell? ⟨g, p + j, none⟩ = some v)
    (hu : Tryz.prog.underlying ty = some d) (hd : (match d with | .struct _ | .array _ _ => true | _ => false) = true) (hi : (Tryz.prog.info? ty).map (·.size) = some cs.length) (h : K (a.put o.dst (.agg cs.toArray))) : o.quiet Tryz.prog a C K :=
  ⟨_, fun w hw => by unfold Oper.quietAt; rw [load_run ho hx (hc w hw) hu hd hi rfl]; exact ⟨rfl, rfl⟩, h⟩
/-- Cells of a block, in each later world. -/
theorem later_cells {W : World} {g p : Nat} {cs : List Value} (h : ∀ j v, cs[j]? = some v → W.cell? ⟨g, p + j, none⟩ = some v) : ∀ w, (∃ x : Later W, w = x.at_) → ∀ j v, cs[j]? = some v → w.cell? ⟨g, p + j, none⟩ = some v := by
  rintro _ ⟨x, rfl⟩ j v hj
  exact later_cell (h j v hj) x
/-- A part of them. -/
theorem cells_part {W : World} {g p q n : Nat} {cs ds : List Value} (h : ∀ j v, cs[j]? = some v → W.cell? ⟨g, p + j, none⟩ = some v) (hp : p + n = q) (hd : ∀ j v, ds[j]? = some v → cs[n + j]? = some v) : ∀ j v, ds[j]? = some v → W.cell? ⟨g, q + j, none⟩ = some v := by
  intro j v hj
  have := h (n + j) v (hd j v hj)
  rw [← Nat.add_assoc, hp] at this
  exact this
end Go.Proofs.YtgenmebmdpnjhaaGreat

namespace Go.Proofs.YtgenmebmdpnjhaaGreat
open Go.RowKit

section
variable {P : Program} {md : Region.Mode} {ops : Array Oper} {Q : Exit → Act → World → Prop} {S : World → Prop}

theorem held_begin {id : Nat} {a : Act} {w : World} (S : World → Prop) (hm : P.follows .mixedOrders = true) (h : wpAnyH P .any ops Q S ops.size (Array.replicate ops.size false) a w.drew) : (Code.region id ops true).wp P Q a w :=
  wp_region_held hm h
theorem held_read {i : Nat} {o : Oper} {v : Value} {fuel : Nat} {listed : Array Bool} {a : Act} {w : World} (hi : ops[i]? = some o) (hs : Region.noSelect ops = true) (hf : Region.free md ops listed i = true)
    (hr : (Region.ready md ops listed).contains i = true) (hQ : ∀ c a w, Q (.panic c) (a.put o.dst v) w → Q (.panic c) a w) (hw : Region.wanted o (yielded ops a.tmps) = true) (hS : S w)
    (hv : ∀ x : World, S x → (execOp a.eval o).run P x = .ok (.value v) x) (h : wpAnyH P md ops Q S fuel (listed.setIfInBounds i true) (a.put o.dst v) w) : wpAnyH P md ops Q S (fuel + 1) listed a w :=
  wpAnyH_take hi hs hf hr hQ (Or.inl ⟨hw, hv⟩) hS h
theorem held_skip {i : Nat} {o : Oper} {fuel : Nat} {listed : Array Bool} {a : Act} {w : World} (hi : ops[i]? = some o) (hs : Region.noSelect ops = true) (hf : Region.free md ops listed i = true)
    (hr : (Region.ready md ops listed).contains i = true) (hQ : ∀ c a w, Q (.panic c) (a.put o.dst undef) w → Q (.panic c) a w) (hw : Region.wanted o (yielded ops a.tmps) = false) (hS : S w)
    (h : wpAnyH P md ops Q S fuel (listed.setIfInBounds i true) (a.put o.dst undef) w) : wpAnyH P md ops Q S (fuel + 1) listed a w :=
  wpAnyH_take hi hs hf hr hQ (Or.inr ⟨hw, rfl⟩) hS h
/-- The one operation that may come up. -/
theorem held_call {i : Nat} {o : Oper} {fuel : Nat} {listed : Array Bool} {a : Act} {w : World} (hi : ops[i]? = some o) (hr : Region.ready md ops listed = [i]) (hw : Region.wanted o (yielded ops a.tmps) = true)
    (h : ∀ K' : Act → World → Prop, Shut (∀ a' w', S w' → wpAnyH P md ops Q S fuel (listed.setIfInBounds i true) a' w' → K' a' w') → Oper.wp P o a w K' Q) : wpAnyH P md ops Q S (fuel + 1) listed a w := by
  refine wpAnyH_ready hr (by simp) (AllReadyH.cons hi (fun K' hK => ?_) AllReadyH.nil)
  rw [if_pos hw]
  exact h K' (fun a' w' hb hn => hK.out a' w' hb fun _ => hn)
/-- Two operations that may come up. -/
theorem held_two {i j : Nat} {o p : Oper} {fuel : Nat} {listed : Array Bool} {a : Act} {w : World} (hi : ops[i]? = some o) (hj : ops[j]? = some p) (hr : Region.ready md ops listed = [i, j]) (hw : Region.wanted o (yielded ops a.tmps) = true) (hw2 : Region.wanted p (yielded ops a.tmps) = true)
    (h : ∀ K' : Act → World → Prop, Shut (∀ a' w', S w' → wpAnyH P md ops Q S fuel (listed.setIfInBounds i true) a' w' → K' a' w') → Oper.wp P o a w K' Q)
    (h2 : ∀ K' : Act → World → Prop, Shut (∀ a' w', S w' → wpAnyH P md ops Q S fuel (listed.setIfInBounds j true) a' w' → K' a' w') → Oper.wp P p a w K' Q) : wpAnyH P md ops Q S (fuel + 1) listed a w := by
  refine wpAnyH_ready hr (by simp) (AllReadyH.cons hi (fun K' hK => ?_) (AllReadyH.cons hj (fun K' hK => ?_) AllReadyH.nil))
  · rw [if_pos hw]
    exact h K' (fun a' w' hb hn => hK.out a' w' hb fun _ => hn)
  · rw [if_pos hw2]
    exact h2 K' (fun a' w' hb hn => hK.out a' w' hb fun _ => hn)
end
theorem load_at {W x : World} (hx : Below W.heap.size W x) {p : Addr} {v : Value} (h : W.cell? p = some v) : x.cell? p = some v := (hx.cell (World.block_lt_of_cell? W _ h)).trans h
theorem drew_below (w : World) : Below w.heap.size w w.drew := ⟨rfl, rfl, rfl, Nat.le_refl _, fun _ _ => rfl⟩
/-- A new block of one cell in such a region. -/
theorem alloc_out {K X : Act → World → Prop} {w W : World} {B : Nat} {a : Act} {v : Value} {t : TypeId} (hK : Shut (∀ a' w', Below B W w' → X a' w' → K a' w')) (hb : Below B W w) (hB : B ≤ w.heap.size)
    (h : ∀ w', Below B W w' → w'.cell? ⟨w.heap.size, 0, none⟩ = some v ∧ w'.frozen? ⟨w.heap.size, 0, none⟩ = false → Below w.heap.size w w' → X a w') : K a (w.alloc (.cells #[v] t)) :=
  hK.out _ _ (hb.alloc hB _) (h _ (hb.alloc hB _) (by simp) ((Below.refl _ _).alloc (Nat.le_refl _) _))
end Go.Proofs.YtgenmebmdpnjhaaGreat

namespace Go.Proofs.YtgenmebmdpnjhaaGreat
open Go.RowKit

section
variable {P : Program} {ops : Array Oper} {Q : Exit → Act → World → Prop}
/-- Behind the first part: the second. -/
def Second (P : Program) (ops : Array Oper) (Q : Exit → Act → World → Prop) (l : List Oper) : Exit → Act → World → Prop
  | .normal, a, w => wpList P ops Q l a w
  | e, a, w => Q e a w
theorem second_lets {l : List Oper} (h : LetsOut (Second P ops Q l)) : LetsOut Q := h
theorem second_op {l : List Oper} {o : Oper} {a : Act} {w : World} {K : Act → World → Prop} (hh : o.wp P a w K (Second P ops Q l)) : o.wp P a w K Q := by
  unfold Oper.wp at *
  generalize (execOp a.eval o).run P w = r at *
  cases r with
  | ok n w' =>
    cases n <;> simp only [Oper.upon] at hh ⊢ <;>
      first
        | exact hh
        | exact Calls.mono hh (fun e w'' he => by cases e <;> exact he)
  | halt x w' => cases x <;> simp only [Oper.upon] at hh ⊢ <;> exact hh
theorem wpList_split (l2 : List Oper) : ∀ (l1 : List Oper) (a : Act) (w : World), wpList P ops (Second P ops Q l2) l1 a w → wpList P ops Q (l1 ++ l2) a w
  | [], _, _, h => h
  | o :: l, a, w, h => by
    rw [List.cons_append]
    unfold wpList at h ⊢
    split at h
    · rename_i hw
      rw [if_pos hw]
      rcases h with h | h
      · exact .inl (second_op (Oper.wp_mono (fun a w h => wpList_split l2 l a w h) h))
      · exact .inr ⟨h.1, second_lets h.2⟩
    · rename_i hw
      rw [if_neg hw]
      exact wpList_split l2 l _ _ h
/-- A plain region, its first n operations apart. -/
theorem region_split {id : Nat} {l : List Oper} {a : Act} {w : World} (n : Nat) (h : wpList P l.toArray (Second P l.toArray Q (l.drop n)) (l.take n) a w) : (Code.region id l.toArray false).wp P Q a w := by
  refine wp_region_lit ?_
  have := wpList_split (l.drop n) (l.take n) a w h
  rw [List.take_append_drop] at this
  exact this
end
end Go.Proofs.YtgenmebmdpnjhaaGreat

namespace Go.Proofs.YtgenmebmdpnjhaaGreat
open Go.RowKit

section
variable {P : Program} {md : Region.Mode} {ops : Array Oper} {Q : Exit → Act → World → Prop}

abbrev since (w : World) : World → Prop := fun x => Below w.heap.size w x

theorem any_strong {S S' : World → Prop} (h : ∀ w, S' w → S w) : ∀ (fuel : Nat) (listed : Array Bool) (a : Act) (w : World), wpAnyH P md ops Q S' fuel listed a w → wpAnyH P md ops Q S fuel listed a w
  | 0, _, _, _, hw => hw
  | fuel + 1, _, _, _, hw => ⟨hw.1, fun i hi => wpOp_mono (fun a' w' h' => ⟨h w' h'.1, any_strong h fuel _ a' w' h'.2⟩) (hw.2 i hi)⟩

/-- The beginning. -/
theorem any_begin {id : Nat} {a : Act} {w : World} (hm : P.follows .mixedOrders = true) (h : wpAnyH P .any ops Q (since w.drew) ops.size (Array.replicate ops.size false) a w.drew) : (Code.region id ops true).wp P Q a w :=
  wp_region_held hm h
/-- A read that may come up is taken first: in every later world it yields the same. -/
theorem any_read {i : Nat} {o : Oper} {v : Value} {fuel : Nat} {listed : Array Bool} {a : Act} {w : World} (hi : ops[i]? = some o) (hs : Region.noSelect ops = true) (hf : Region.free md ops listed i = true)
    (hr : (Region.ready md ops listed).contains i = true) (hQ : ∀ c a w, Q (.panic c) (a.put o.dst v) w → Q (.panic c) a w) (hw : Region.wanted o (yielded ops a.tmps) = true)
    (hv : ∀ x : Later w, (execOp a.eval o).run P x.at_ = .ok (.value v) x.at_) (h : wpAnyH P md ops Q (since w) fuel (listed.setIfInBounds i true) (a.put o.dst v) w) : wpAnyH P md ops Q (since w) (fuel + 1) listed a w :=
  wpAnyH_take hi hs hf hr hQ (Or.inl ⟨hw, fun x hx => hv ⟨x, hx⟩⟩) (Below.refl _ _) h
/-- An operation that its guard forbids. -/
theorem any_skip {i : Nat} {o : Oper} {fuel : Nat} {listed : Array Bool} {a : Act} {w : World} (hi : ops[i]? = some o) (hs : Region.noSelect ops = true) (hf : Region.free md ops listed i = true)
    (hr : (Region.ready md ops listed).contains i = true) (hQ : ∀ c a w, Q (.panic c) (a.put o.dst undef) w → Q (.panic c) a w) (hw : Region.wanted o (yielded ops a.tmps) = false)
    (h : wpAnyH P md ops Q (since w) fuel (listed.setIfInBounds i true) (a.put o.dst undef) w) : wpAnyH P md ops Q (since w) (fuel + 1) listed a w :=
  wpAnyH_take hi hs hf hr hQ (Or.inr ⟨hw, rfl⟩) (Below.refl _ _) h
/-- The one call that may come up. -/
theorem any_call {i : Nat} {o : Oper} {fuel : Nat} {listed : Array Bool} {a : Act} {w : World} (hi : ops[i]? = some o) (hr : Region.ready md ops listed = [i]) (hw : Region.wanted o (yielded ops a.tmps) = true)
    (h : ∀ K' : Act → World → Prop, Shut (∀ a' w', Below w.heap.size w w' → wpAnyH P md ops Q (since w') fuel (listed.setIfInBounds i true) a' w' → K' a' w') → Oper.wp P o a w K' Q) : wpAnyH P md ops Q (since w) (fuel + 1) listed a w := by
  refine wpAnyH_ready hr (by simp) (AllReadyH.cons hi (fun K' hK => ?_) AllReadyH.nil)
  rw [if_pos hw]
  refine h K' (fun a' w' hb hn => hK.out a' w' hb fun _ => ?_)
  exact any_strong (fun x hx => hb.trans ⟨hx.os, hx.tape, hx.output, hx.size, fun k hk => hx.block k (Nat.lt_of_lt_of_le hk hb.size)⟩) _ _ _ _ hn
end
end Go.Proofs.YtgenmebmdpnjhaaGreat
