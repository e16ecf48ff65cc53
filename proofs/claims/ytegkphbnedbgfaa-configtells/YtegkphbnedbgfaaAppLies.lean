
/- 'append(own, src...)', where the new row lies told even if nothing is appended; 'append(append([]int{}, l...), u)' in a region that draws its order. -/
import Derived.Test.YtegkphbnedbgfaaTreeMake
import Derived.Test.YtegkphbnedbgfaaHeld
namespace Go.Proofs.Ytegkphbnedbgfaa
open Go.RowKit
set_option linter.unusedVariables false

theorem kept_setrow (w : World) (g : Nat) (cs : Array Value) : Kept (· = g) w (w.setRow g cs) :=
  ⟨rfl, rfl, rfl, by simp, fun k _ hs => setRow_other w g k cs hs⟩
theorem run_ownw_lies {w : World} (t ty : TypeId) {e : TypeId} {z : Value} {k bytes : Nat} (ht : Try.prog.underlying t = some (.slice e)) (hi : (Try.prog.info? e).map (fun i => (i.zero, i.size, i.bytes)) = some (some z, k, bytes)) (hzs : z.cells.size = k) (hk : 0 < k)
    (B : Nat) (v : Value) (n : Nat) (xs : List Value) (hown : OwnW k B e w v n xs) (A : Option Addr) (m c : Nat) (hA : A = none → m = 0 ∧ c = 0) (us : List Value) (hus : Rs k w A m us) (hu : ∀ u ∈ us, u.oneCell' = true) (hlen : n + m ≤ 1000000) (hbs : bytes ≤ 1000) :
    ∃ v' w', (Builtin.append_ #[t, t] ty #[v, .slice A m c]).run Try.prog w = .ok v' w' ∧ OwnW k B e w' v' (n + m) (xs ++ us) ∧ Kept (fun i => v.ownBlock = some i) w w' ∧ (v'.ownBlock = v.ownBlock ∨ v'.ownBlock = some w.heap.size) := by
  obtain ⟨i, hi', hz, h1, h2⟩ := info_at hi
  have hb : (n + m) * bytes ≤ 140737488355328 := by
    have : (n + m) * bytes ≤ 1000000 * 1000 := Nat.mul_le_mul hlen hbs
    omega
  rcases A with - | ad
  · obtain ⟨rfl, rfl⟩ := hA rfl
    have e0 : us = [] := List.eq_nil_of_length_eq_zero (by rw [hus.1]; simp)
    subst e0
    exact ⟨v, w, append_nil_run (w := w) (B := B) (v := v) (n := n) (xs := xs) ty ht hi hown.1, by rw [List.append_nil]; exact hown, Kept.refl _ _, .inl rfl⟩
  have hcells : ∀ j u, us[j]? = some u → w.cell? (ad.add j) = some u := by
    intro j u hj
    rcases hus.2 with rfl | ⟨g, o, e, hc⟩
    · simp at hj
    · cases e
      rw [show (⟨g, o, none⟩ : Addr).add j = ⟨g, o + j, none⟩ by unfold Addr.add; split <;> simp_all]
      exact hc j u hj
  by_cases hm : 0 < m
  · obtain ⟨g, cap, w', hr, ho', hg, hl, -⟩ := run_append_lies (P := Try.prog) w t ty B e i z k bytes ht hi' hz h1 h2 hzs hk v n xs hown.1 ad m c us hus.1 hcells hu hm (by unfold maxLen; omega) hb hown.2 _ rfl
    exact ⟨_, w', hr, ⟨ho', Nat.le_trans hown.2 hg.size⟩, ⟨hg.os, hg.tape, hg.output, hg.size, fun i hi hs => hg.block i hi (fun e => hs e.symm)⟩, hl.elim (fun h => .inl (by rw [h]; rfl)) (fun h => .inr (by rw [h]; rfl))⟩
  · obtain rfl : m = 0 := by omega
    have e0 : us = [] := List.eq_nil_of_length_eq_zero (by rw [hus.1]; simp)
    subst e0
    rcases hown.1.2 with ⟨rfl, rfl⟩ | ⟨g, cap, cur, rfl, hbg, hg, hnc, hcm, hcs, htake⟩
    · have hx : xs = [] := List.eq_nil_of_length_eq_zero (by simpa using hown.1.1)
      subst hx
      refine ⟨.slice none 0 0, w, ?_, hown, Kept.refl _ _, .inl rfl⟩
      simp [Builtin.append_, run_underlying ht, sizeOf, typeInfo, hi', Builtin.lenOf, Builtin.firstCells, loadCells, loadCellsFrom]
    · have hr := run_append_room (P := Try.prog) w t ty e i ht hi' g n cap cur hg ad 0 c [] (by simp) hcells (by simp) (by omega) (by simp only [List.length_nil, Nat.add_zero]; rw [hcs, h1]; exact Nat.mul_le_mul_right _ hnc)
      have hcur : (cur.toList.take (n * i.size) ++ [] ++ cur.toList.drop (n * i.size + ([] : List Value).length)).toArray = cur := by simp
      rw [hcur] at hr
      refine ⟨_, _, hr, ⟨⟨by rw [List.append_nil]; exact hown.1.1, .inr ⟨g, cap, cur, rfl, hbg, setRow_heap w g cur cur e _ hg, hnc, hcm, hcs, by rw [List.append_nil]; exact htake⟩⟩, Nat.le_trans hown.2 (by simp)⟩, (kept_setrow w g cur).mono fun k _ e => by subst e; rfl, .inl rfl⟩
theorem step_ownw_lies {w : World} {o : Oper} {a : Act} {K : Act → World → Prop} {Q : Exit → Act → World → Prop} (s x : Operand) (t : TypeId)
    (ho : o.op = .call { callee := .builtin .append, args := #[s, x], argTypes := #[t, t] })
    {e : TypeId} {z : Value} {k bytes : Nat} (ht : Try.prog.underlying t = some (.slice e)) (hi : (Try.prog.info? e).map (fun i => (i.zero, i.size, i.bytes)) = some (some z, k, bytes)) (hzs : z.cells.size = k) (hk : 0 < k)
    (B : Nat) (v : Value) (n : Nat) (xs : List Value) (hs : a.eval s = v) (hown : OwnW k B e w v n xs) (A : Option Addr) (m c : Nat) (hx : a.eval x = .slice A m c) (hA : A = none → m = 0 ∧ c = 0) (us : List Value) (hus : Rs k w A m us) (hu : ∀ u ∈ us, u.oneCell' = true) (hlen : n + m ≤ 1000000) (hbs : bytes ≤ 1000)
    (h : ∀ v' w', OwnW k B e w' v' (n + m) (xs ++ us) → Kept (fun i => v.ownBlock = some i) w w' → (v'.ownBlock = v.ownBlock ∨ v'.ownBlock = some w.heap.size) → K (a.put o.dst v') w') : Oper.wp Try.prog o a w K Q := by
  obtain ⟨v', w', hr, h1, h2, h3⟩ := run_ownw_lies t o.type ht hi hzs hk B v n xs hown A m c hA us hus hu hlen hbs
  unfold Oper.wp execOp
  simp only [ho, resolve, invoke, builtin, Sem.run_bind, Sem.run_pure, Result.andThen_ok, List.map_toArray, List.map_cons, List.map_nil, hs, hx, hr]
  exact h v' w' h1 h2 h3
theorem wpList_ownw_lies {w : World} {ops : Array Oper} {rest : List Oper} {o : Oper} {a : Act} {Q : Exit → Act → World → Prop} (hgd : o.guard = none) (s x : Operand) (t : TypeId)
    (ho : o.op = .call { callee := .builtin .append, args := #[s, x], argTypes := #[t, t] })
    {e : TypeId} {z : Value} {k bytes : Nat} (ht : Try.prog.underlying t = some (.slice e)) (hi : (Try.prog.info? e).map (fun i => (i.zero, i.size, i.bytes)) = some (some z, k, bytes)) (hzs : z.cells.size = k) (hk : 0 < k)
    (B : Nat) (v : Value) (n : Nat) (xs : List Value) (hs : a.eval s = v) (hown : OwnW k B e w v n xs) (A : Option Addr) (m c : Nat) (hx : a.eval x = .slice A m c) (hA : A = none → m = 0 ∧ c = 0) (us : List Value) (hus : Rs k w A m us) (hu : ∀ u ∈ us, u.oneCell' = true) (hlen : n + m ≤ 1000000) (hbs : bytes ≤ 1000)
    (h : ∀ v' w', OwnW k B e w' v' (n + m) (xs ++ us) → Kept (fun i => v.ownBlock = some i) w w' → (v'.ownBlock = v.ownBlock ∨ v'.ownBlock = some w.heap.size) → wpList Try.prog ops Q rest (a.put o.dst v') w') : wpList Try.prog ops Q (o :: rest) a w :=
  wpList_plain hgd fun _ hK => step_ownw_lies s x t ho ht hi hzs hk B v n xs hs hown A m c hx hA us hus hu hlen hbs fun v' w' h1 h2 h3 => hK _ _ (h v' w' h1 h2 h3)
/-- A row of whole numbers as cells. -/
theorem Ri.rs {w : World} {A : Option Addr} {n : Nat} {l : List Int} (h : Ri w A n l) : Rs 1 w A n (l.map icell) := by
  refine ⟨by rw [List.length_map, h.1, Nat.mul_one], ?_⟩
  rcases h.2 with h0 | ⟨b, off, e, hc⟩
  · exact .inl (by rw [List.eq_nil_of_length_eq_zero (h.1.trans h0)]; rfl)
  · refine .inr ⟨b, off, e, fun j u hj => ?_⟩
    rw [List.getElem?_map] at hj
    obtain ⟨x, hx, rfl⟩ := Option.map_eq_some_iff.1 hj
    exact hc j x hx
theorem icells_one (l : List Int) : ∀ u ∈ l.map icell, u.oneCell' = true := by
  intro u hu
  obtain ⟨b, _, rfl⟩ := List.mem_map.1 hu
  rfl
theorem int_info3 : (Try.prog.info? 3).map (fun i => (i.zero, i.size, i.bytes)) = some (some (.int .i64 0), 1, 8) := by kernel_rfl
theorem step_owni_row {w : World} {o : Oper} {a : Act} {K : Act → World → Prop} {Q : Exit → Act → World → Prop} (s x : Operand)
    (ho : o.op = .call { callee := .builtin .append, args := #[s, x], argTypes := #[22, 22] })
    (B : Nat) (v : Value) (l : List Int) (hs : a.eval s = v) (hown : OwnI B w v l) (A : Option Addr) (m c : Nat) (hx : a.eval x = .slice A m c) (hA : A = none → m = 0 ∧ c = 0) (q : List Int) (hq : Ri w A m q) (hlen : l.length + m ≤ 1000000)
    (h : ∀ v' w', OwnI B w' v' (l ++ q) → Kept (fun i => v.ownBlock = some i) w w' → (v'.ownBlock = v.ownBlock ∨ v'.ownBlock = some w.heap.size) → K (a.put o.dst v') w') : Oper.wp Try.prog o a w K Q :=
  step_ownw_lies s x 22 ho Try.underlying22 int_info3 rfl (by decide) B v l.length (l.map icell) hs hown A m c hx hA (q.map icell) hq.rs (icells_one q) hlen (by decide) fun v' w' h1 h2 h3 =>
    h v' w' (by rw [OwnI, List.map_append, List.length_append, hq.1]; exact h1) h2 h3
theorem wpList_owni_row {w : World} {ops : Array Oper} {rest : List Oper} {o : Oper} {a : Act} {Q : Exit → Act → World → Prop} (hgd : o.guard = none) (s x : Operand)
    (ho : o.op = .call { callee := .builtin .append, args := #[s, x], argTypes := #[22, 22] })
    (B : Nat) (v : Value) (l : List Int) (hs : a.eval s = v) (hown : OwnI B w v l) (A : Option Addr) (m c : Nat) (hx : a.eval x = .slice A m c) (hA : A = none → m = 0 ∧ c = 0) (q : List Int) (hq : Ri w A m q) (hlen : l.length + m ≤ 1000000)
    (h : ∀ v' w', OwnI B w' v' (l ++ q) → Kept (fun i => v.ownBlock = some i) w w' → (v'.ownBlock = v.ownBlock ∨ v'.ownBlock = some w.heap.size) → wpList Try.prog ops Q rest (a.put o.dst v') w') : wpList Try.prog ops Q (o :: rest) a w :=
  wpList_plain hgd fun _ hK => step_owni_row s x ho B v l hs hown A m c hx hA q hq hlen fun v' w' h1 h2 h3 => hK _ _ (h v' w' h1 h2 h3)
/-- The state of such a region: W is the world at its start, b a block that others may turn (a Feed's); R the row as far as it is made, U the new cell, if it is made. -/
structure Gs (W : World) (b : Nat) (z : World) (R : Option (Value × List Int)) (U : Option (Nat × Int)) : Prop where
  keep : Kept (fun i => i = b ∨ W.heap.size ≤ i) W z
  b_lt : b < W.heap.size
  row : ∀ v L, R = some (v, L) → OwnI W.heap.size z v L
  one : ∀ h u, U = some (h, u) → W.heap.size ≤ h ∧ Ri z (some ⟨h, 0, none⟩) 1 [u]
  apart : ∀ v L h u, R = some (v, L) → U = some (h, u) → ¬ v.ownBlock = some h
theorem Gs.start {W : World} {b : Nat} (hb : b < W.heap.size) : Gs W b W.drew none none :=
  ⟨Kept.ofBelow (drew_below W), hb, fun _ _ h => (by cases h), fun _ _ h => (by cases h), fun _ _ _ _ h => (by cases h)⟩
/-- What others do to b. -/
theorem Gs.next {W z z' : World} {b : Nat} {R : Option (Value × List Int)} {U : Option (Nat × Int)} (h : Gs W b z R U) (k : Kept (· = b) z z') : Gs W b z' R U :=
  ⟨h.keep.trans k (fun i _ e => .inl e), h.b_lt, fun v L e => OwnW.kept (h.row v L e) k (fun i hi e2 => by have := ((h.row v L e).base hi).1; have := h.b_lt; omega), fun g u e => ⟨(h.one g u e).1, (h.one g u e).2.kept k (fun ad e2 e3 => by cases e2; have := (h.one g u e).1; have := h.b_lt; dsimp only at e3; omega)⟩, h.apart⟩
theorem ri_single (w : World) (u : Int) : Ri (w.alloc (.cells #[.int .i64 u] 3)) (some ⟨w.heap.size, 0, none⟩) 1 [u] :=
  ⟨rfl, .inr ⟨_, _, rfl, fun j v hj => by
    match j, hj with
    | 0, hj => cases hj; rw [World.cell?_alloc_new]; rfl⟩⟩
/-- The new row, empty. -/
theorem Gs.new0 {W z : World} {b : Nat} {U : Option (Nat × Int)} (h : Gs W b z none U) : Gs W b (z.alloc (.cells #[] 3)) (some (.slice (some ⟨z.heap.size, 0, none⟩) 0 0, [])) U := by
  have hn := new_below z (.cells #[] 3)
  refine ⟨h.keep.then (Kept.ofBelow hn), h.b_lt, fun v L e => ?_, fun g u e => ⟨(h.one g u e).1, (h.one g u e).2.later hn⟩, fun v L g u e e2 e3 => ?_⟩
  · cases e
    exact OwnW.of_row (xs := []) h.keep.size (heap_alloc_new _ _) rfl (by unfold maxLen; omega)
  · cases e
    cases e3
    obtain ⟨h1, h2⟩ := h.one _ _ e2
    obtain ⟨rb, ro, u', e4, -, hc⟩ := h2.at_ (j := 0) (by omega)
    cases e4
    have := cell_lt hc
    dsimp only at this
    omega
/-- The new cell. -/
theorem Gs.newu {W z : World} {b : Nat} {R : Option (Value × List Int)} (h : Gs W b z R none) (u : Int) : Gs W b (z.alloc (.cells #[.int .i64 u] 3)) R (some (z.heap.size, u)) := by
  have hn := new_below z (.cells #[.int .i64 u] 3)
  refine ⟨h.keep.then (Kept.ofBelow hn), h.b_lt, fun v L e => OwnW.later (h.row v L e) hn, fun g x e => ?_, fun v L g x e e2 e3 => ?_⟩
  · cases e
    exact ⟨h.keep.size, ri_single z u⟩
  · cases e2
    have := ((h.row v L e).base e3).2
    omega
/-- The row grows. -/
theorem Gs.grow {W z z' : World} {b : Nat} {v v' : Value} {L L' : List Int} {U : Option (Nat × Int)} (h : Gs W b z (some (v, L)) U) (hv : OwnI W.heap.size z' v' L') (hk : Kept (fun i => v.ownBlock = some i) z z') (hl : v'.ownBlock = v.ownBlock ∨ v'.ownBlock = some z.heap.size) : Gs W b z' (some (v', L')) U := by
  refine ⟨h.keep.trans hk (fun i _ e => .inr ((h.row v L rfl).base e).1), h.b_lt, fun y M e => by cases e; exact hv, fun g u e => ⟨(h.one g u e).1, (h.one g u e).2.kept hk (fun ad e2 e3 => by cases e2; exact h.apart v L g u rfl e e3)⟩, fun y M g u e e2 e3 => ?_⟩
  cases e
  rcases hl with e4 | e4
  · exact h.apart v L g u rfl e2 (e4 ▸ e3)
  · rw [e4] at e3
    cases e3
    obtain ⟨rb, ro, u', e5, -, hc⟩ := (h.one _ _ e2).2.at_ (j := 0) (by omega)
    cases e5
    have := cell_lt hc
    dsimp only at this
    omega
theorem Gs.load {W z : World} {b : Nat} {R : Option (Value × List Int)} {U : Option (Nat × Int)} (h : Gs W b z R U) {p : Addr} {v : Value} (hc : W.cell? p = some v) (hp : p.block ≠ b) : z.cell? p = some v :=
  (h.keep.cell (cell_lt hc) (fun e => by have := cell_lt hc; rcases e with e | e <;> omega)).trans hc
theorem kept_read {W z : World} {b : Nat} (h : Kept (fun i => i = b ∨ W.heap.size ≤ i) W z) {p : Addr} {v : Value} (hc : W.cell? p = some v) (hp : p.block ≠ b) : z.cell? p = some v :=
  (h.cell (cell_lt hc) (fun e => by have := cell_lt hc; rcases e with e | e <;> omega)).trans hc
theorem Gs.ri {W z : World} {b : Nat} {R : Option (Value × List Int)} {U : Option (Nat × Int)} (h : Gs W b z R U) {A : Option Addr} {n : Nat} {l : List Int} (hr : Ri W A n l) (hA : ∀ ad, A = some ad → n ≠ 0 → ad.block ≠ b) : Ri z A n l := by
  rcases hr.2 with h0 | ⟨rb, off, e, hc⟩
  · exact ⟨hr.1, .inl h0⟩
  · by_cases hn : n = 0
    · exact ⟨hr.1, .inl hn⟩
    · exact ⟨hr.1, .inr ⟨rb, off, e, fun j u hj => h.load (hc j u hj) (show rb ≠ b from hA _ e hn)⟩⟩
theorem Gs.feed {W z z' : World} {B b a : Nat} {v : Value} {L : List Int} {U : Option (Nat × Int)} (h : Gs W b z (some (v, L)) U) (hf : IsFeed B z b a) (hB : B ≤ W.heap.size) (hk : Kept (fun i => v.ownBlock = some i) z z') : IsFeed B z' b a :=
  hf.kept hk (fun e => by have := ((h.row v L rfl).base e).1; have := h.b_lt; omega) (fun i hi e => by have := ((h.row v L rfl).base e).1; omega)
end Go.Proofs.Ytegkphbnedbgfaa
