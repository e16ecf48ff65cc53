
/- Rows of elements of k cells each: how they read, those that the call itself made, what append and copy do. Nothing of the program's functions. -/
import Derived.Test.YtegkphbnedbgfaaOwnRow
import Derived.Laws.CopyOwn
import Derived.Laws.OwnMore
import Derived.OwnWalk
import Derived.Laws.AppendOwn
namespace Go.Proofs.Ytegkphbnedbgfaa
open Go.RowKit

theorem flat_len {α : Type} (f : α → List Value) {k : Nat} (hf : ∀ a, (f a).length = k) (l : List α) : (l.flatMap f).length = l.length * k := by
  induction l with
  | nil => simp
  | cons a l ih => rw [List.flatMap_cons, List.length_append, ih, hf, List.length_cons, Nat.add_mul]; omega
theorem flat_get {α : Type} (f : α → List Value) {k : Nat} (hf : ∀ a, (f a).length = k) : ∀ (l : List α) (i j : Nat) (a : α), l[i]? = some a → j < k → (l.flatMap f)[i * k + j]? = (f a)[j]?
  | [], _, _, _, h, _ => by simp at h
  | b :: l, 0, j, a, h, hj => by
    simp at h; subst h
    rw [List.flatMap_cons, List.getElem?_append_left (by rw [hf]; omega)]; simp
  | b :: l, i + 1, j, a, h, hj => by
    rw [List.flatMap_cons, List.getElem?_append_right (by rw [hf, Nat.add_mul]; omega), hf, show (i + 1) * k + j - k = i * k + j by rw [Nat.add_mul]; omega]
    exact flat_get f hf l i j a (by simpa using h) hj
theorem flat_take {α : Type} (f : α → List Value) {k : Nat} (hf : ∀ a, (f a).length = k) : ∀ (l : List α) (n : Nat), (l.flatMap f).take (n * k) = (l.take n).flatMap f
  | [], n => by simp
  | b :: l, 0 => by simp
  | b :: l, n + 1 => by
    rw [List.flatMap_cons, List.take_succ_cons, List.flatMap_cons, ← flat_take f hf l n, List.take_append, List.take_of_length_le (by rw [hf, Nat.add_mul]; omega), hf, show (n + 1) * k - k = n * k by rw [Nat.add_mul]; omega]

/-- A slice of n elements of k cells reads as the cells xs. -/
def Rs (k : Nat) (w : World) (A : Option Addr) (n : Nat) (xs : List Value) : Prop :=
  xs.length = n * k ∧ (xs = [] ∨ ∃ g o, A = some ⟨g, o, none⟩ ∧ ∀ j u, xs[j]? = some u → w.cell? ⟨g, o + j, none⟩ = some u)
theorem Rs.nil (k : Nat) (w : World) (A : Option Addr) : Rs k w A 0 [] := ⟨by simp, .inl rfl⟩
theorem Rs.kept {S : Nat → Prop} {k : Nat} {w w' : World} {A : Option Addr} {n : Nat} {xs : List Value} (h : Rs k w A n xs) (q : Kept S w w') (hs : ∀ x, A = some x → ¬ S x.block) : Rs k w' A n xs := by
  refine ⟨h.1, ?_⟩
  rcases h.2 with rfl | ⟨g, o, rfl, hc⟩
  · exact .inl rfl
  · refine .inr ⟨g, o, rfl, fun j u hj => ?_⟩
    have := hc j u hj
    rw [q.cell (p := ⟨g, o + j, none⟩) (cell_lt this) (show ¬ S g from hs ⟨g, o, none⟩ rfl)]
    exact this
theorem Rs.later {k : Nat} {w w' : World} {A : Option Addr} {n : Nat} {xs : List Value} (h : Rs k w A n xs) (q : Below w.heap.size w w') : Rs k w' A n xs :=
  h.kept (S := fun _ => False) (Kept.ofBelow q) (fun _ _ => id)

/-- v is a row of n elements (cells xs, k each) of type e in a block not younger than B (or nil). -/
def OwnW (k B : Nat) (e : TypeId) (w : World) (v : Value) (n : Nat) (xs : List Value) : Prop := w.ownsRow B e k v n xs ∧ B ≤ w.heap.size
theorem OwnW.nil (k : Nat) (e : TypeId) (w : World) {B : Nat} (hB : B ≤ w.heap.size) : OwnW k B e w (.slice none 0 0) 0 [] := ⟨World.ownsRow_nil _ _ _ _, hB⟩
theorem OwnW.kept {k B : Nat} {e : TypeId} {w w' : World} {v : Value} {n : Nat} {xs : List Value} {S : Nat → Prop} (h : OwnW k B e w v n xs) (q : Kept S w w') (hs : ∀ i, v.ownBlock = some i → ¬ S i) : OwnW k B e w' v n xs := by
  refine ⟨⟨h.1.1, ?_⟩, Nat.le_trans h.2 q.size⟩
  rcases h.1.2 with hn | ⟨g, cap, cur, rfl, hb, hg, rest⟩
  · exact .inl hn
  · have hlt : g < w.heap.size := (Array.getElem?_eq_some_iff.1 hg).1
    exact .inr ⟨g, cap, cur, rfl, hb, by rw [q.block g hlt (hs g rfl)]; exact hg, rest⟩
theorem OwnW.later {k B : Nat} {e : TypeId} {w w' : World} {v : Value} {n : Nat} {xs : List Value} (h : OwnW k B e w v n xs) (q : Below w.heap.size w w') : OwnW k B e w' v n xs :=
  h.kept (S := fun _ => False) (Kept.ofBelow q) (fun _ _ => id)
/-- A block that holds just such cells. -/
theorem OwnW.of_row {k B : Nat} {e : TypeId} {w : World} {g n : Nat} {xs : List Value} (hB : B ≤ g) (hg : w.heap[g]? = some (.cells xs.toArray e (0, 0))) (hl : xs.length = n * k) (hn : n ≤ maxLen) : OwnW k B e w (.slice (some ⟨g, 0, none⟩) n n) n xs := by
  have hlt : g < w.heap.size := (Array.getElem?_eq_some_iff.1 hg).1
  exact ⟨⟨hl, .inr ⟨g, n, xs.toArray, rfl, hB, hg, Nat.le_refl _, hn, by simp [hl], by simp [List.take_of_length_le, hl]⟩⟩, by omega⟩
/-- How such a row reads. -/
theorem OwnW.reads {k B : Nat} {e : TypeId} {w : World} {v : Value} {n : Nat} {xs : List Value} (h : OwnW k B e w v n xs) :
    ∃ A c, v = .slice A n c ∧ n ≤ c ∧ c ≤ maxLen ∧ Rs k w A n xs ∧ (∀ x, A = some x → B ≤ x.block ∧ x.block < w.heap.size) ∧ v.ownBlock = A.map (·.block) ∧ (A = none → n = 0 ∧ c = 0) := by
  rcases h.1.2 with ⟨rfl, rfl⟩ | ⟨g, cap, cur, rfl, hb, hg, hc, hm, rest⟩
  · have : xs = [] := List.eq_nil_of_length_eq_zero (by rw [h.1.1]; simp)
    subst this
    exact ⟨none, 0, rfl, Nat.le_refl _, by unfold maxLen; omega, Rs.nil _ _ _, (fun _ e => by cases e), rfl, fun _ => ⟨rfl, rfl⟩⟩
  · have hlt : g < w.heap.size := (Array.getElem?_eq_some_iff.1 hg).1
    refine ⟨_, cap, rfl, hc, hm, ⟨h.1.1, .inr ⟨g, 0, rfl, fun j u hj => ?_⟩⟩, fun x e => by cases e; exact ⟨hb, hlt⟩, rfl, fun e => by cases e⟩
    have := h.1.cells (g := g) rfl j u hj
    rw [show (⟨g, 0, none⟩ : Addr).add j = ⟨g, j, none⟩ by unfold Addr.add; split <;> simp_all] at this
    rw [Nat.zero_add]
    exact this
/-- A cell of it is stored to. -/
theorem OwnW.store {k B : Nat} {e : TypeId} {w : World} {g n c : Nat} {xs : List Value} (h : OwnW k B e w (.slice (some ⟨g, 0, none⟩) n c) n xs) (j : Nat) (u : Value) (_ : j < n * k) : OwnW k B e (w.setCell ⟨g, j, none⟩ u) (.slice (some ⟨g, 0, none⟩) n c) n (xs.set j u) := by
  rcases h.1.2 with ⟨h0, -⟩ | ⟨g', cap, cur, hv, hb, hg, hc, hm, hs, ht⟩
  · cases h0
  · cases hv
    refine ⟨⟨by simp [h.1.1], .inr ⟨g, c, cur.setIfInBounds j u, rfl, hb, ?_, hc, hm, by simp [hs], ?_⟩⟩, by simpa [World.setCell] using h.2⟩
    · obtain ⟨hlt, he⟩ := Array.getElem?_eq_some_iff.1 hg
      simp [World.setCell, hlt, Array.getElem_modify, he]
    · rw [Array.toList_setIfInBounds, List.take_set, ht]
/-- No cell of it is frozen. -/
theorem OwnW.thaw {k B : Nat} {e : TypeId} {w : World} {g n c : Nat} {xs : List Value} (h : OwnW k B e w (.slice (some ⟨g, 0, none⟩) n c) n xs) (j : Nat) : w.frozen? ⟨g, j, none⟩ = false := h.1.frozenAt j
theorem info_at {e : TypeId} {z : Value} {k b : Nat} (h : (Try.prog.info? e).map (fun i => (i.zero, i.size, i.bytes)) = some (some z, k, b)) : ∃ i, Try.prog.info? e = some i ∧ i.zero = some z ∧ i.size = k ∧ i.bytes = b := by
  cases hi : Try.prog.info? e with
  | none => rw [hi] at h; cases h
  | some i => rw [hi] at h; simp at h; exact ⟨i, rfl, h⟩
theorem append_nil_run {w : World} {B : Nat} {v : Value} {n : Nat} {xs : List Value} {e t : TypeId} {z : Value} {k bytes : Nat} (ty : TypeId) (ht : Try.prog.underlying t = some (.slice e)) (hi : (Try.prog.info? e).map (fun i => (i.zero, i.size, i.bytes)) = some (some z, k, bytes)) (hown : w.ownsRow B e k v n xs) : (Builtin.append_ #[t, t] ty #[v, .slice none 0 0]).run Try.prog w = .ok v w := by
  obtain ⟨i, hi, _, _, _⟩ := info_at hi
  rcases hown.2 with ⟨rfl, rfl⟩ | ⟨g, cap, cur, rfl, _, _, hnc, _⟩
  · simp [Builtin.append_, run_underlying ht, sizeOf, typeInfo, hi, Builtin.lenOf, Builtin.firstCells]
  · simp [Builtin.append_, run_underlying ht, sizeOf, typeInfo, hi, Builtin.lenOf, Builtin.firstCells, hnc, storeCells]
/-- 'append(own, src...)': what src reads as behind what own had, within what memory bears. -/
theorem wpList_ownb {w : World} {ops : Array Oper} {rest : List Oper} {o : Oper} {a : Act} {Q : Exit → Act → World → Prop} (hgd : o.guard = none) (s x : Operand) (t : TypeId)
    (ho : o.op = .call { callee := .builtin .append, args := #[s, x], argTypes := #[t, t] })
    {e : TypeId} {z : Value} {k bytes : Nat} (ht : Try.prog.underlying t = some (.slice e)) (hi : (Try.prog.info? e).map (fun i => (i.zero, i.size, i.bytes)) = some (some z, k, bytes)) (hzs : z.cells.size = k) (hk : 0 < k)
    (B : Nat) (v : Value) (n : Nat) (xs : List Value) (hs : a.eval s = v) (hown : OwnW k B e w v n xs) (A : Option Addr) (m c : Nat) (hx : a.eval x = .slice A m c) (hA : A = none → m = 0 ∧ c = 0) (us : List Value) (hus : Rs k w A m us) (hu : ∀ u ∈ us, u.oneCell' = true) (hlen : n + m ≤ maxLen) (hb : (n + m) * bytes ≤ 140737488355328)
    (h : ∀ v' w', OwnW k B e w' v' (n + m) (xs ++ us) → Kept (fun i => v.ownBlock = some i) w w' → wpList Try.prog ops Q rest (a.put o.dst v') w') : wpList Try.prog ops Q (o :: rest) a w := by
  obtain ⟨i, hi', hz, h1, h2⟩ := info_at hi
  rcases A with - | ad
  · obtain ⟨rfl, rfl⟩ := hA rfl
    have e0 : us = [] := List.eq_nil_of_length_eq_zero (by rw [hus.1]; simp)
    subst e0
    refine wpList_plain hgd fun K hK => ?_
    have hrun := append_nil_run (w := w) (B := B) (v := v) (n := n) (xs := xs) o.type ht hi hown.1
    unfold Oper.wp
    simp only [execOp, ho, resolve, invoke, builtin, Sem.run_bind, Sem.run_pure, Result.andThen_ok, List.map_toArray, List.map_cons, List.map_nil, hs, hx, hrun]
    exact hK _ _ (h v w (by rw [List.append_nil]; exact hown) (Kept.refl _ _))
  refine wpList_append_own w hgd s x t ho B e i z k bytes ht hi' hz h1 h2 hzs hk v n xs hs hown.1 ad m c us hx hus.1 ?_ hu hlen hb hown.2 ?_
  · intro j u hj
    rcases hus.2 with rfl | ⟨g, o, e, hc⟩
    · simp at hj
    · cases e
      rw [show (⟨g, o, none⟩ : Addr).add j = ⟨g, o + j, none⟩ by unfold Addr.add; split <;> simp_all]
      exact hc j u hj
  · intro v' w' ho' hg _
    exact h v' w' ⟨ho', Nat.le_trans hown.2 hg.size⟩ ⟨hg.os, hg.tape, hg.output, hg.size, fun i hi hs => hg.block i hi (fun e => hs e.symm)⟩
/-- The same, where both are few. -/
theorem wpList_ownw {w : World} {ops : Array Oper} {rest : List Oper} {o : Oper} {a : Act} {Q : Exit → Act → World → Prop} (hgd : o.guard = none) (s x : Operand) (t : TypeId)
    (ho : o.op = .call { callee := .builtin .append, args := #[s, x], argTypes := #[t, t] })
    {e : TypeId} {z : Value} {k bytes : Nat} (ht : Try.prog.underlying t = some (.slice e)) (hi : (Try.prog.info? e).map (fun i => (i.zero, i.size, i.bytes)) = some (some z, k, bytes)) (hzs : z.cells.size = k) (hk : 0 < k)
    (B : Nat) (v : Value) (n : Nat) (xs : List Value) (hs : a.eval s = v) (hown : OwnW k B e w v n xs) (A : Option Addr) (m c : Nat) (hx : a.eval x = .slice A m c) (hA : A = none → m = 0 ∧ c = 0) (us : List Value) (hus : Rs k w A m us) (hu : ∀ u ∈ us, u.oneCell' = true) (hlen : n + m ≤ 1000000) (hbs : bytes ≤ 1000)
    (h : ∀ v' w', OwnW k B e w' v' (n + m) (xs ++ us) → Kept (fun i => v.ownBlock = some i) w w' → wpList Try.prog ops Q rest (a.put o.dst v') w') : wpList Try.prog ops Q (o :: rest) a w := by
  refine wpList_ownb hgd s x t ho ht hi hzs hk B v n xs hs hown A m c hx hA us hus hu (by unfold maxLen; omega) ?_ h
  have : (n + m) * bytes ≤ 1000000 * 1000 := Nat.mul_le_mul hlen hbs
  omega
/-- 'append(own, src...)' in a region that draws its order: the one step. -/
theorem step_ownw {w : World} {o : Oper} {a : Act} {K : Act → World → Prop} {Q : Exit → Act → World → Prop} (s x : Operand) (t : TypeId)
    (ho : o.op = .call { callee := .builtin .append, args := #[s, x], argTypes := #[t, t] })
    {e : TypeId} {z : Value} {k bytes : Nat} (ht : Try.prog.underlying t = some (.slice e)) (hi : (Try.prog.info? e).map (fun i => (i.zero, i.size, i.bytes)) = some (some z, k, bytes)) (hzs : z.cells.size = k) (hk : 0 < k)
    (B : Nat) (v : Value) (n : Nat) (xs : List Value) (hs : a.eval s = v) (hown : OwnW k B e w v n xs) (A : Option Addr) (m c : Nat) (hx : a.eval x = .slice A m c) (hA : A = none → m = 0 ∧ c = 0) (us : List Value) (hus : Rs k w A m us) (hu : ∀ u ∈ us, u.oneCell' = true) (hlen : n + m ≤ 1000000) (hbs : bytes ≤ 1000)
    (h : ∀ v' w', OwnW k B e w' v' (n + m) (xs ++ us) → Kept (fun i => v.ownBlock = some i) w w' → K (a.put o.dst v') w') : Oper.wp Try.prog o a w K Q := by
  obtain ⟨i, hi', hz, h1, h2⟩ := info_at hi
  have hb : (n + m) * bytes ≤ 140737488355328 := by
    have : (n + m) * bytes ≤ 1000000 * 1000 := Nat.mul_le_mul hlen hbs
    omega
  rcases A with - | ad
  · obtain ⟨rfl, rfl⟩ := hA rfl
    have e0 : us = [] := List.eq_nil_of_length_eq_zero (by rw [hus.1]; simp)
    subst e0
    have hrun := append_nil_run (w := w) (B := B) (v := v) (n := n) (xs := xs) o.type ht hi hown.1
    unfold Oper.wp
    simp only [execOp, ho, resolve, invoke, builtin, Sem.run_bind, Sem.run_pure, Result.andThen_ok, List.map_toArray, List.map_cons, List.map_nil, hs, hx, hrun]
    exact h v w (by rw [List.append_nil]; exact hown) (Kept.refl _ _)
  obtain ⟨v', w', hr, ho', hg, -⟩ := run_append_own (P := Try.prog) w B t o.type e i z k bytes ht hi' hz h1 h2 hzs hk v n xs hown.1 ad m c us hus.1
    (by intro j u hj
        rcases hus.2 with rfl | ⟨g, o, e, hc⟩
        · simp at hj
        · cases e
          rw [show (⟨g, o, none⟩ : Addr).add j = ⟨g, o + j, none⟩ by unfold Addr.add; split <;> simp_all]
          exact hc j u hj) hu (by unfold maxLen; omega) hb hown.2
  unfold Oper.wp execOp
  simp only [ho, resolve, invoke, builtin, Sem.run_bind, Sem.run_pure, Result.andThen_ok, List.map_toArray, List.map_cons, List.map_nil, hs, hx, hr]
  exact h v' w' ⟨ho', Nat.le_trans hown.2 hg.size⟩ ⟨hg.os, hg.tape, hg.output, hg.size, fun i hi hs => hg.block i hi (fun e => hs e.symm)⟩
/-- 'copy(whole block, src)'. -/
theorem run_copyw (w : World) (dT sT ty e : TypeId) {k : Nat} (n c c' : Nat) (g : Nat) (A : Option Addr) (cur : List Value) (us : List Value)
    (hu : Try.prog.underlying dT = some (.slice e)) (hs : (Try.prog.info? e).map (·.size) = some k) (hg : w.heap[g]? = some (.cells cur.toArray e (0, 0))) (hl : cur.length = n * k) (hus : Rs k w A n us) (h1 : ∀ v ∈ us, v.oneCell' = true) :
    (Builtin.copy_ #[dT, sT] ty #[.slice (some ⟨g, 0, none⟩) n c, .slice A n c']).run Try.prog w = .ok (goInt n) (w.setRow g us.toArray) := by
  have hmin : Nat.min n n = n := Nat.min_self n
  cases hq : Try.prog.info? e with
  | none => simp [hq] at hs
  | some i =>
    have hi : i.size = k := by simpa [hq] using hs
    have hst := run_storeCells_at Try.prog g 0 e us 0 cur.toArray w hg (by simp [hl, hus.1]) h1
    have hdr : cur.drop (n * k) = [] := List.drop_eq_nil_of_le (by omega)
    simp [hus.1, hdr] at hst
    rcases hus.2 with rfl | ⟨b, off, rfl, hc⟩
    · have h0 : n * k = 0 := by simpa using hus.1.symm
      have hl0 : ∀ (x : Addr), (loadCells x 0).run Try.prog w = .ok #[] w := fun x => by simpa using run_loadCells_list (P := Try.prog) w x [] (by simp)
      cases A <;> simp [Builtin.copy_, run_underlying hu, Builtin.lenOf, Builtin.firstCells, sizeOf, typeInfo, hq, hi, h0, hl0, hst]
    · have hld := run_loadCells_list (P := Try.prog) w ⟨b, off, none⟩ us (by
        intro j u hj
        rw [show (⟨b, off, none⟩ : Addr).add j = ⟨b, off + j, none⟩ by unfold Addr.add; split <;> simp_all]
        exact hc j u hj)
      rw [hus.1] at hld
      simp [Builtin.copy_, run_underlying hu, Builtin.lenOf, Builtin.firstCells, sizeOf, typeInfo, hq, hi, hld, hst]
end Go.Proofs.Ytegkphbnedbgfaa
