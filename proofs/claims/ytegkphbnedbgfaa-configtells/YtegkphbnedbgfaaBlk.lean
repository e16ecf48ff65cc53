
/- Blocks of several cells, loaded and stored at once, in part too. Nothing of the program's functions. -/
import Derived.Test.YtegkphbnedbgfaaWide
import Derived.Laws.CopyRow
import Derived.Deep.AppendLies
namespace Go.Proofs.Ytegkphbnedbgfaa
open Go.RowKit

theorem addr_at (g o j : Nat) : (⟨g, o, none⟩ : Addr).add j = ⟨g, o + j, none⟩ := by unfold Addr.add; split <;> simp_all
theorem run_loadVar_at (w : World) (g o : Nat) (ty : TypeId) (cs : List Value) (d : TypeDesc) (hc : ∀ j v, cs[j]? = some v → w.cell? ⟨g, o + j, none⟩ = some v)
    (hu : Try.prog.underlying ty = some d) (hd : (match d with | .struct _ | .array _ _ => true | _ => false) = true) (hi : (Try.prog.info? ty).map (·.size) = some cs.length) :
    (loadVar ty ⟨g, o, none⟩).run Try.prog w = .ok (.agg cs.toArray) w := by
  have hl : (loadCells ⟨g, o, none⟩ cs.length).run Try.prog w = .ok cs.toArray w := run_loadCells_list (P := Try.prog) w ⟨g, o, none⟩ cs (fun j v hv => by rw [addr_at]; exact hc j v hv)
  cases hq : Try.prog.info? ty with
  | none => simp [hq] at hi
  | some i =>
    have hs : i.size = cs.length := by simpa [hq] using hi
    have hagg : (isAgg ty).run Try.prog w = .ok true w := by
      unfold isAgg
      rw [Sem.run_bind, run_underlying hu w]
      cases d <;> simp_all
    simp [loadVar, Sem.run_bind, hagg, sizeOf, typeInfo, hq, hs, hl]
theorem load_run {w : World} {o : Oper} {e : Operand → Value} {v : Value} {ty : TypeId} {x : Operand} {g p : Nat} {cs : List Value} {d : TypeDesc} (ho : o.op = .load ty x) (hx : e x = .pointer (some ⟨g, p, none⟩)) (hc : ∀ j v, cs[j]? = some v → w.cell? ⟨g, p + j, none⟩ = some v)
    (hu : Try.prog.underlying ty = some d) (hd : (match d with | .struct _ | .array _ _ => true | _ => false) = true) (hi : (Try.prog.info? ty).map (·.size) = some cs.length) (hv : v = .agg cs.toArray) : (execOp e o).run Try.prog w = .ok (.value v) w := by
  subst hv
  unfold execOp
  simp only [ho, hx, Instr.loadAt, Instr.sureAddr, Sem.run_bind, Sem.run_pure, Result.andThen_ok, run_loadVar_at w g p ty cs d hc hu hd hi]
/-- A struct is loaded. -/
theorem step_load_at {w : World} {o : Oper} {a : Act} {K : Act → World → Prop} {Q : Exit → Act → World → Prop} (ty : TypeId) (x : Operand) (ho : o.op = .load ty x) (g p : Nat) (cs : List Value) (d : TypeDesc) (hx : a.eval x = .pointer (some ⟨g, p, none⟩)) (hc : ∀ j v, cs[j]? = some v → w.cell? ⟨g, p + j, none⟩ = some v)
    (hu : Try.prog.underlying ty = some d) (hd : (match d with | .struct _ | .array _ _ => true | _ => false) = true) (hi : (Try.prog.info? ty).map (·.size) = some cs.length) (h : K (a.put o.dst (.agg cs.toArray)) w) : o.wp Try.prog a w K Q := by
  unfold Oper.wp execOp
  simp only [ho, hx, Instr.loadAt, Instr.sureAddr, Sem.run_bind, Sem.run_pure, Result.andThen_ok, run_loadVar_at w g p ty cs d hc hu hd hi]
  exact h
theorem wpList_load_at {ops : Array Oper} {rest : List Oper} {w : World} {o : Oper} {a : Act} {Q : Exit → Act → World → Prop} (hgd : o.guard = none) (ty : TypeId) (x : Operand) (ho : o.op = .load ty x) (g p : Nat) (cs : List Value) (d : TypeDesc) (hx : a.eval x = .pointer (some ⟨g, p, none⟩)) (hc : ∀ j v, cs[j]? = some v → w.cell? ⟨g, p + j, none⟩ = some v)
    (hu : Try.prog.underlying ty = some d) (hd : (match d with | .struct _ | .array _ _ => true | _ => false) = true) (hi : (Try.prog.info? ty).map (·.size) = some cs.length) (h : wpList Try.prog ops Q rest (a.put o.dst (.agg cs.toArray)) w) : wpList Try.prog ops Q (o :: rest) a w :=
  wpList_plain hgd fun _ hK => step_load_at ty x ho g p cs d hx hc hu hd hi (hK _ _ h)
/-- A row with a part of it turned. -/
abbrev part (old : List Value) (p : Nat) (cs : List Value) : List Value := old.take p ++ cs ++ old.drop (p + cs.length)
theorem run_storeVar_part (w : World) (g p : Nat) (t ty : TypeId) (old : List Value) (v : Value) (cs : List Value) (hv : v.cells.toList = cs) (hg : w.heap[g]? = some (.cells old.toArray t (0, 0))) (hi : (Try.prog.info? ty).map (·.size) = some cs.length)
    (ho : p + cs.length ≤ old.length) (h1 : ∀ u ∈ cs, u.oneCell' = true) : (storeVar ty ⟨g, p, none⟩ v).run Try.prog w = .ok () (w.setRow g (part old p cs).toArray) := by
  have := run_storeCells_at Try.prog g p t cs 0 old.toArray w hg (by simp; omega) h1
  simp only [Nat.add_zero] at this
  cases hq : Try.prog.info? ty with
  | none => simp [hq] at hi
  | some i =>
    have hs : v.cells.size = i.size := by
      have : v.cells.size = cs.length := by rw [← hv]; simp
      simp [hq] at hi; omega
    simp [storeVar, sizeOf, typeInfo, hq, Sem.run_bind, hs, hv, this, part]
/-- A part of a row is stored to. -/
theorem step_store_part {w : World} {o : Oper} {a : Act} {K : Act → World → Prop} {Q : Exit → Act → World → Prop} (ty : TypeId) (x y : Operand) (ho : o.op = .store ty x y) (g p : Nat) (v : Value) (cs : List Value) (hx : a.eval x = .pointer (some ⟨g, p, none⟩)) (hy : a.eval y = v) (hv : v.cells.toList = cs)
    (t : TypeId) (old : List Value) (hg : w.heap[g]? = some (.cells old.toArray t (0, 0))) (hi : (Try.prog.info? ty).map (·.size) = some cs.length) (hold : p + cs.length ≤ old.length) (h1 : ∀ u ∈ cs, u.oneCell' = true)
    (h : K (a.put o.dst undef) (w.setRow g (part old p cs).toArray)) : o.wp Try.prog a w K Q := by
  unfold Oper.wp execOp
  simp only [ho, hx, hy, Instr.storeAt, Instr.sureAddr, Sem.run_bind, Sem.run_pure, Result.andThen_ok, run_storeVar_part w g p t ty old v cs hv hg hi hold h1]
  exact h
theorem wpList_store_part {ops : Array Oper} {rest : List Oper} {w : World} {o : Oper} {a : Act} {Q : Exit → Act → World → Prop} (hgd : o.guard = none) (ty : TypeId) (x y : Operand) (ho : o.op = .store ty x y) (g p : Nat) (v : Value) (cs : List Value) (hx : a.eval x = .pointer (some ⟨g, p, none⟩)) (hy : a.eval y = v) (hv : v.cells.toList = cs)
    (t : TypeId) (old : List Value) (hg : w.heap[g]? = some (.cells old.toArray t (0, 0))) (hi : (Try.prog.info? ty).map (·.size) = some cs.length) (hold : p + cs.length ≤ old.length) (h1 : ∀ u ∈ cs, u.oneCell' = true)
    (h : wpList Try.prog ops Q rest (a.put o.dst undef) (w.setRow g (part old p cs).toArray)) : wpList Try.prog ops Q (o :: rest) a w :=
  wpList_plain hgd fun _ hK => step_store_part ty x y ho g p v cs hx hy hv t old hg hi hold h1 (hK _ _ h)
theorem Kept.setRow (w : World) (g : Nat) (cs : Array Value) : Kept (· = g) w (w.setRow g cs) :=
  ⟨rfl, rfl, rfl, by simp, fun k _ hs => setRow_other w g k cs hs⟩
/-- A row's cells, of a block. -/
theorem cells_row {w : World} {g : Nat} {cs : List Value} {t : TypeId} {fr : Nat × Nat} (hg : w.heap[g]? = some (.cells cs.toArray t fr)) : ∀ j v, cs[j]? = some v → w.cell? ⟨g, 0 + j, none⟩ = some v := by
  intro j v hj
  rw [Nat.zero_add, cell_of_row _ _ _ _ _ _ hg]
  simpa using hj
/-- Two results, each in a cell. -/
theorem results_two_rows {fn : Func} {p q : Tmp} {ty : TypeId} (h : fn.results = #[.cell p ty, .cell q ty]) (tmps : Array Value) (w : World) (g k : Nat) (t : TypeId) (cs ds : Array Value) (fs : Array Field)
    (hp : tmps.getD p undef = .pointer (some ⟨g, 0, none⟩)) (hq : tmps.getD q undef = .pointer (some ⟨k, 0, none⟩)) (hg : w.heap[g]? = some (.cells cs t (0, 0))) (hk : w.heap[k]? = some (.cells ds t (0, 0)))
    (hu : Try.prog.underlying ty = some (.struct fs)) (hi : (Try.prog.info? ty).map (·.size) = some cs.size) (hj : (Try.prog.info? ty).map (·.size) = some ds.size) :
    (results fn tmps).run Try.prog w = .ok (.tuple #[.agg cs, .agg ds]) w := by
  have hp' : tmps[p]?.getD undef = .pointer (some ⟨g, 0, none⟩) := by simpa using hp
  have hq' : tmps[q]?.getD undef = .pointer (some ⟨k, 0, none⟩) := by simpa using hq
  simp only [results, h]
  simp [Sem.run_bind, hp', hq', asAddr, Result.andThen, run_loadVar_row w g t ty cs (0, 0) (.struct fs) hg hu rfl hi, run_loadVar_row w k t ty ds (0, 0) (.struct fs) hk hu rfl hj]
/-- Rows of elements of two types do not share a block. -/
theorem ownw_types {k k' B B' n n' : Nat} {e e' : TypeId} {w : World} {v v' : Value} {xs xs' : List Value} (h : OwnW k B e w v n xs) (h' : OwnW k' B' e' w v' n' xs') (ne : e ≠ e') : ∀ i, v.ownBlock = some i → ¬ v'.ownBlock = some i := by
  intro i hi hi'
  rcases h.1.2 with ⟨rfl, -⟩ | ⟨g, cap, cur, rfl, -, hg, -⟩
  · cases hi
  · rcases h'.1.2 with ⟨rfl, -⟩ | ⟨g', cap', cur', rfl, -, hg', -⟩
    · cases hi'
    · cases hi; cases hi'
      rw [hg] at hg'
      cases hg'
      exact ne rfl
theorem ownw_not {k B n : Nat} {e e' : TypeId} {w : World} {v : Value} {xs : List Value} {g : Nat} {cs : Array Value} {fr : Nat × Nat} (h : OwnW k B e w v n xs) (hg : w.heap[g]? = some (.cells cs e' fr)) (ne : e ≠ e') : ∀ i, v.ownBlock = some i → ¬ i = g := by
  intro i hi he
  subst he
  rcases h.1.2 with ⟨rfl, -⟩ | ⟨g, cap, cur, rfl, -, hg', -⟩
  · cases hi
  · cases hi
    rw [hg] at hg'
    cases hg'
    exact ne rfl
theorem ownw_lt {k B n : Nat} {e : TypeId} {w : World} {v : Value} {xs : List Value} (h : OwnW k B e w v n xs) : ∀ i, v.ownBlock = some i → i < w.heap.size := by
  obtain ⟨A, c, rfl, -, -, -, hA, hb, -⟩ := h.reads
  intro i hi
  rw [hb] at hi
  obtain ⟨x, hx, rfl⟩ := Option.map_eq_some_iff.1 hi
  exact (hA x hx).2
/-- 'append(own, src...)' of what is not empty: where the new row lies is told, too. -/
theorem step_ownl {w : World} {o : Oper} {a : Act} {K : Act → World → Prop} {Q : Exit → Act → World → Prop} (s x : Operand) (t : TypeId)
    (ho : o.op = .call { callee := .builtin .append, args := #[s, x], argTypes := #[t, t] })
    {e : TypeId} {z : Value} {k bytes : Nat} (ht : Try.prog.underlying t = some (.slice e)) (hi : (Try.prog.info? e).map (fun i => (i.zero, i.size, i.bytes)) = some (some z, k, bytes)) (hzs : z.cells.size = k) (hk : 0 < k)
    (B : Nat) (v : Value) (n : Nat) (xs : List Value) (hs : a.eval s = v) (hown : OwnW k B e w v n xs) (ad : Addr) (m c : Nat) (hx : a.eval x = .slice (some ad) m c) (us : List Value) (hus : Rs k w (some ad) m us) (hu : ∀ u ∈ us, u.oneCell' = true) (hm : 0 < m) (hlen : n + m ≤ 1000000) (hbs : bytes ≤ 1000)
    (h : ∀ g cap w', OwnW k B e w' (.slice (some ⟨g, 0, none⟩) (n + m) cap) (n + m) (xs ++ us) → Kept (fun i => v.ownBlock = some i) w w' → (v.ownBlock = some g ∨ g = w.heap.size) → K (a.put o.dst (.slice (some ⟨g, 0, none⟩) (n + m) cap)) w') : Oper.wp Try.prog o a w K Q := by
  obtain ⟨i, hi', hz, h1, h2⟩ := info_at hi
  have hb : (n + m) * bytes ≤ 140737488355328 := by
    have : (n + m) * bytes ≤ 1000000 * 1000 := Nat.mul_le_mul hlen hbs
    omega
  refine wp_append_lies w s x t ho B e i z k bytes ht hi' hz h1 h2 hzs hk v n xs hs hown.1 ad m c us hx hus.1 ?_ hu hm (by unfold maxLen; omega) hb hown.2 _ rfl ?_
  · intro j u hj
    rcases hus.2 with rfl | ⟨g, o, e, hc⟩
    · simp at hj
    · cases e
      rw [addr_at]
      exact hc j u hj
  · intro g cap w' ho' hg hat _
    exact h g cap w' ⟨ho', Nat.le_trans hown.2 hg.size⟩ ⟨hg.os, hg.tape, hg.output, hg.size, fun i hi hs => hg.block i hi (fun e => hs e.symm)⟩ hat
theorem below_row {w w' : World} {g : Nat} {o : Obj} (k : Below w.heap.size w w') (h : w.heap[g]? = some o) : w'.heap[g]? = some o := (k.block g (Array.getElem?_eq_some_iff.1 h).1).trans h
end Go.Proofs.Ytegkphbnedbgfaa
