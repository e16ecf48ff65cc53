
/- Rows of one-cell elements that the call itself made, in memory not younger than block B: what append does to them. -/
import Derived.Test.YtegkphbnedbgfaaKept
import Derived.Lib.Hide
import Derived.Lib.FrozenHead2
import Derived.Test.YtegkphbnedbgfaaChecked
import Derived.KernelRfl
namespace Go.Proofs.Ytegkphbnedbgfaa
open Go.RowKit

/-- v is a row of cells xs of type e in a block not younger than B (or nil). -/
def Own (B : Nat) (e : TypeId) (w : World) (v : Value) (xs : List Value) : Prop := w.ownsRowF B e 1 v xs.length xs ∧ B ≤ w.heap.size
theorem Own.nil (e : TypeId) (w : World) {B : Nat} (hB : B ≤ w.heap.size) : Own B e w (.slice none 0 0) [] := ⟨World.ownsRowF_nil _ _ _ _, hB⟩
theorem Own.kept {B : Nat} {e : TypeId} {w w' : World} {v : Value} {xs : List Value} {S : Nat → Prop} (h : Own B e w v xs) (k : Kept S w w') (hs : ∀ i, B ≤ i → ¬ S i) : Own B e w' v xs := by
  refine ⟨⟨h.1.1, ?_⟩, Nat.le_trans h.2 k.size⟩
  rcases h.1.2 with hn | ⟨g, cap, cur, fz, rfl, hb, hg, rest⟩
  · exact .inl hn
  · have hlt : g < w.heap.size := (Array.getElem?_eq_some_iff.1 hg).1
    exact .inr ⟨g, cap, cur, fz, rfl, hb, by rw [k.block g hlt (hs g hb)]; exact hg, rest⟩
theorem Own.later {B : Nat} {e : TypeId} {w w' : World} {v : Value} {xs : List Value} (h : Own B e w v xs) (k : Below w.heap.size w w') : Own B e w' v xs :=
  h.kept (S := fun _ => False) (Kept.ofBelow k) (fun _ _ => id)
/-- How such a row reads. -/
theorem Own.reads {B : Nat} {e : TypeId} {w : World} {v : Value} {xs : List Value} (h : Own B e w v xs) :
    ∃ A n c, v = .slice A n c ∧ n = xs.length ∧ n ≤ c ∧ ((A = none ∧ n = 0) ∨ ∃ g, A = some ⟨g, 0, none⟩ ∧ B ≤ g ∧ g < w.heap.size ∧ ∀ j u, xs[j]? = some u → w.cell? ⟨g, j, none⟩ = some u) := by
  rcases h.1.2 with ⟨rfl, h0⟩ | ⟨g, cap, cur, fz, rfl, hb, hg, hf, hc, rest⟩
  · exact ⟨none, 0, 0, rfl, h0.symm, Nat.le_refl _, .inl ⟨rfl, rfl⟩⟩
  · refine ⟨_, _, _, rfl, rfl, hc, .inr ⟨g, rfl, hb, (Array.getElem?_eq_some_iff.1 hg).1, fun j u hj => ?_⟩⟩
    have := h.1.cells (g := g) rfl j u hj
    rw [show (⟨g, 0, none⟩ : Addr).add j = ⟨g, j, none⟩ by unfold Addr.add; split <;> simp_all] at this
    exact this
theorem kept_grown {w w' : World} {v : Value} {B : Nat} (hg : w.grownBy w' v.ownBlock) (hb : ∀ k, v.ownBlock = some k → B ≤ k) : Kept (fun k => B ≤ k) w w' := by
  refine ⟨hg.os, hg.tape, hg.output, hg.size, fun k hk hs => hg.block k hk (fun e => hs (hb k e.symm))⟩

/-- 'append(own, x)'. -/
theorem wpList_own1 {w : World} {ops : Array Oper} {rest : List Oper} {o : Oper} {a : Act} {Q : Exit → Act → World → Prop} (hgd : o.guard = none) (s x : Operand) (t : TypeId)
    (ho : o.op = .call { callee := .builtin .append, args := #[s, x], argTypes := #[t, t] })
    {e : TypeId} {i : TypeInfo} {z : Value} (bytes : Nat) (ht : Try.prog.underlying t = some (.slice e)) (hi : Try.prog.info? e = some i) (hz : i.zero = some z) (hsize : i.size = 1) (hby : i.bytes = bytes) (hzs : z.cells.size = 1)
    (B : Nat) (v : Value) (xs : List Value) (hs : a.eval s = v) (hown : Own B e w v xs) (u : Value) (hu : u.oneCell' = true) (hx : a.eval x = .slice (some ⟨w.heap.size, 0, none⟩) 1 1) (hlen : xs.length ≤ 1000000) (hbs : bytes ≤ 100)
    (h : ∀ v' w', Own B e w' v' (xs ++ [u]) → Kept (fun k => B ≤ k) w w' → wpList Try.prog ops Q rest (a.put o.dst v') w') : wpList Try.prog ops Q (o :: rest) a (w.alloc (.cells #[u] e)) := by
  have hown' : Own B e (w.alloc (.cells #[u] e)) v xs := hown.later ((Below.refl _ _).alloc (Nat.le_refl _) _)
  have hb : (xs.length + 1) * bytes ≤ 140737488355328 := by
    have : (xs.length + 1) * bytes ≤ 1000001 * 100 := Nat.mul_le_mul (by omega) hbs
    omega
  refine wpList_append_ownF (w.alloc (.cells #[u] e)) hgd s x t ho B e i z 1 bytes ht hi hz hsize hby hzs (by decide) v xs.length xs hs hown'.1 ⟨w.heap.size, 0, none⟩ 1 1 [u] hx rfl ?_ ?_ (by unfold maxLen; omega) hb hown'.2 ?_
  · intro j y hj
    match j, hj with
    | 0, hj => cases hj; simp [Addr.add]
  · intro y hy
    rw [List.mem_singleton.1 hy]; exact hu
  · intro v' w' ho' hg _
    have k1 : Kept (fun k => B ≤ k) w (w.alloc (.cells #[u] e)) := Kept.alloc _ _ _
    have k2 := kept_grown (B := B) hg (fun k hk => (hown'.1.lt k hk).1)
    refine h v' w' ⟨?_, Nat.le_trans hown.2 (k1.then k2).size⟩ (k1.then k2)
    rw [List.length_append]
    exact ho'

/-- 'append(own, x)' in a region that draws its order: the one step. -/
theorem step_own1 {w : World} {o : Oper} {a : Act} {K : Act → World → Prop} {Q : Exit → Act → World → Prop} (s x : Operand) (t : TypeId)
    (ho : o.op = .call { callee := .builtin .append, args := #[s, x], argTypes := #[t, t] })
    {e : TypeId} {i : TypeInfo} {z : Value} (bytes : Nat) (ht : Try.prog.underlying t = some (.slice e)) (hi : Try.prog.info? e = some i) (hz : i.zero = some z) (hsize : i.size = 1) (hby : i.bytes = bytes) (hzs : z.cells.size = 1)
    (B : Nat) (v : Value) (xs : List Value) (hs : a.eval s = v) (hown : Own B e w v xs) (u : Value) (hu : u.oneCell' = true) (hx : a.eval x = .slice (some ⟨w.heap.size, 0, none⟩) 1 1) (hlen : xs.length ≤ 1000000) (hbs : bytes ≤ 100)
    (h : ∀ v' w', Own B e w' v' (xs ++ [u]) → Kept (fun k => B ≤ k) w w' → K (a.put o.dst v') w') : Oper.wp Try.prog o a (w.alloc (.cells #[u] e)) K Q := by
  have hown' : Own B e (w.alloc (.cells #[u] e)) v xs := hown.later ((Below.refl _ _).alloc (Nat.le_refl _) _)
  have hb : (xs.length + 1) * bytes ≤ 140737488355328 := by
    have : (xs.length + 1) * bytes ≤ 1000001 * 100 := Nat.mul_le_mul (by omega) hbs
    omega
  obtain ⟨v', w', hr, h2, h3, h4⟩ := run_append_ownF (P := Try.prog) (w.alloc (.cells #[u] e)) B t o.type e i z 1 bytes ht hi hz hsize hby hzs (by decide) v xs.length xs hown'.1 ⟨w.heap.size, 0, none⟩ 1 1 [u] rfl
    (by intro j y hj
        match j, hj with
        | 0, hj => cases hj; simp [Addr.add]) (by intro y hy; rw [List.mem_singleton.1 hy]; exact hu) (by unfold maxLen; omega) hb hown'.2
  unfold Oper.wp execOp
  simp only [ho, resolve, invoke, builtin, Sem.run_bind, Sem.run_pure, Result.andThen_ok, List.map_toArray, List.map_cons, List.map_nil, hs, hx, hr]
  have k1 : Kept (fun k => B ≤ k) w (w.alloc (.cells #[u] e)) := Kept.alloc _ _ _
  have k2 := kept_grown (B := B) h3 (fun k hk => (hown'.1.lt k hk).1)
  refine h v' w' ⟨?_, Nat.le_trans hown.2 (k1.then k2).size⟩ (k1.then k2)
  rw [List.length_append]
  exact h2

abbrev ucell (b : Nat) : Value := .int .u64 (b : Int)
end Go.Proofs.Ytegkphbnedbgfaa
