
/- Rows of whole numbers: read, and laid by the call itself. -/
import Derived.Test.YtegkphbnedbgfaaWide
import Derived.Deep.AppendLies
import Derived.Test.YtegkphbnedbgfaaTreeFn
import Derived.Test.YtegkphbnedbgfaaHand
import Derived.Test.YtegkphbnedbgfaaLater
import Derived.Deep.DeepCutAuto
namespace Go.Proofs.Ytegkphbnedbgfaa
open Go.RowKit
set_option linter.unusedVariables false

abbrev icell (n : Int) : Value := .int .i64 n
/-- A row of whole numbers that reads so. -/
def Ri (w : World) (A : Option Addr) (n : Nat) (l : List Int) : Prop :=
  l.length = n ∧ (n = 0 ∨ ∃ rb ro, A = some ⟨rb, ro, none⟩ ∧ ∀ j u, l[j]? = some u → w.cell? ⟨rb, ro + j, none⟩ = some (icell u))
theorem Ri.later {w w' : World} {A : Option Addr} {n : Nat} {l : List Int} (h : Ri w A n l) (hb : Below w.heap.size w w') : Ri w' A n l := by
  refine ⟨h.1, ?_⟩
  rcases h.2 with h0 | ⟨rb, ro, e, hc⟩
  · exact .inl h0
  · exact .inr ⟨rb, ro, e, fun j u hj => by have hh := hc j u hj; rw [hb.cell (World.block_lt_of_cell? w _ hh)]; exact hh⟩
theorem Ri.kept {S : Nat → Prop} {w w' : World} {A : Option Addr} {n : Nat} {l : List Int} (h : Ri w A n l) (k : Kept S w w') (hs : ∀ ad, A = some ad → ¬ S ad.block) : Ri w' A n l := by
  refine ⟨h.1, ?_⟩
  rcases h.2 with h0 | ⟨rb, ro, e, hc⟩
  · exact .inl h0
  · refine .inr ⟨rb, ro, e, fun j u hj => ?_⟩
    have hh := hc j u hj
    have hb : ¬ S rb := hs _ e
    rw [k.cell (p := ⟨rb, ro + j, none⟩) (cell_lt hh) hb]
    exact hh
theorem Ri.at_ {w : World} {A : Option Addr} {n : Nat} {l : List Int} (h : Ri w A n l) {j : Nat} (hj : j < n) : ∃ rb ro u, A = some ⟨rb, ro, none⟩ ∧ l[j]? = some u ∧ w.cell? ⟨rb, ro + j, none⟩ = some (icell u) := by
  rcases h.2 with h0 | ⟨rb, ro, e, hc⟩
  · omega
  · have hl : j < l.length := by have := h.1; omega
    exact ⟨rb, ro, _, e, List.getElem?_eq_getElem hl, hc j _ (List.getElem?_eq_getElem hl)⟩
theorem Ri.empty (w : World) (A : Option Addr) : Ri w A 0 [] := ⟨rfl, .inl rfl⟩
theorem Ri.take {w : World} {A : Option Addr} {n : Nat} {l : List Int} (h : Ri w A n l) {k : Nat} (hk : k ≤ n) : Ri w A k (l.take k) := by
  refine ⟨by rw [List.length_take, h.1]; omega, ?_⟩
  rcases h.2 with h0 | ⟨rb, ro, e, hc⟩
  · exact .inl (by omega)
  · refine .inr ⟨rb, ro, e, fun j u hj => hc j u ?_⟩
    rw [List.getElem?_take] at hj
    split at hj
    · exact hj
    · cases hj

theorem int_info : ∃ i, Try.prog.info? 3 = some i ∧ i.zero = some (.int .i64 0) ∧ i.size = 1 ∧ i.bytes = 8 := by
  have h : (Try.prog.info? 3).map (fun i => (i.zero, i.size, i.bytes)) = some (some (.int .i64 0), 1, 8) := by kernel_rfl
  cases hi : Try.prog.info? 3 with
  | none => rw [hi] at h; cases h
  | some i => rw [hi] at h; simp at h; exact ⟨i, rfl, h⟩
/-- A row of own whole numbers. -/
abbrev OwnI (B : Nat) (w : World) (v : Value) (l : List Int) : Prop := OwnW 1 B 3 w v l.length (l.map icell)
theorem OwnI.nil (w : World) {B : Nat} (hB : B ≤ w.heap.size) : OwnI B w (.slice none 0 0) [] := OwnW.nil _ _ _ hB
theorem OwnI.later {B : Nat} {w w' : World} {v : Value} {l : List Int} (h : OwnI B w v l) (k : Below w.heap.size w w') : OwnI B w' v l := OwnW.later h k
theorem OwnI.reads {B : Nat} {w : World} {v : Value} {l : List Int} (h : OwnI B w v l) :
    ∃ A c, v = .slice A l.length c ∧ l.length ≤ c ∧ Ri w A l.length l ∧ ((A = none ∧ l.length = 0) ∨ ∃ g, A = some ⟨g, 0, none⟩ ∧ B ≤ g ∧ g < w.heap.size) := by
  rcases h.1.2 with ⟨rfl, h0⟩ | ⟨g, cap, cur, rfl, hb, hg, hc, rest⟩
  · exact ⟨none, 0, by rw [h0], by omega, ⟨rfl, .inl h0⟩, .inl ⟨rfl, h0⟩⟩
  · refine ⟨_, cap, rfl, hc, ⟨rfl, .inr ⟨g, 0, rfl, fun j u hj => ?_⟩⟩, .inr ⟨g, rfl, hb, (Array.getElem?_eq_some_iff.1 hg).1⟩⟩
    have := h.1.cells (g := g) rfl j (icell u) (by rw [List.getElem?_map, hj]; rfl)
    rw [show (⟨g, 0, none⟩ : Addr).add j = ⟨g, j, none⟩ by unfold Addr.add; split <;> simp_all] at this
    rw [Nat.zero_add]
    exact this
theorem OwnI.base {B : Nat} {w : World} {v : Value} {l : List Int} (h : OwnI B w v l) {i : Nat} (hi : v.ownBlock = some i) : B ≤ i ∧ i < w.heap.size := by
  rcases h.1.2 with ⟨rfl, h0⟩ | ⟨g, cap, cur, rfl, hb, hg, hc, rest⟩
  · cases hi
  · cases hi; exact ⟨hb, (Array.getElem?_eq_some_iff.1 hg).1⟩
/-- 'append(own, x)': where it lies, and what may have turned. -/
theorem wpList_owni_lies {w : World} {ops : Array Oper} {rest : List Oper} {o : Oper} {a : Act} {Q : Exit → Act → World → Prop} (hgd : o.guard = none) (s x : Operand)
    (ho : o.op = .call { callee := .builtin .append, args := #[s, x], argTypes := #[22, 22] })
    (B : Nat) (v : Value) (l : List Int) (hs : a.eval s = v) (hown : OwnI B w v l) (z : Int) (hx : a.eval x = .slice (some ⟨w.heap.size, 0, none⟩) 1 1) (hlen : l.length ≤ 1000000)
    (h : ∀ g cap w', OwnI B w' (.slice (some ⟨g, 0, none⟩) (l.length + 1) cap) (l ++ [z]) → Kept (fun i => v.ownBlock = some i) w w' → (v.ownBlock = some g ∨ w.heap.size ≤ g) → wpList Try.prog ops Q rest (a.put o.dst (.slice (some ⟨g, 0, none⟩) (l.length + 1) cap)) w') : wpList Try.prog ops Q (o :: rest) a (w.alloc (.cells #[.int .i64 z] 3)) := by
  obtain ⟨i, hi, hz', h1, h2⟩ := int_info
  have hown' : OwnI B (w.alloc (.cells #[icell z] 3)) v l := hown.later ((Below.refl _ _).alloc (Nat.le_refl _) _)
  refine wpList_append_lies (w := w.alloc (.cells #[.int .i64 z] 3)) hgd s x 22 ho B 3 i (.int .i64 0) 1 8 Try.underlying22 hi hz' h1 h2 rfl (by decide) v l.length (l.map icell) hs hown'.1 ⟨w.heap.size, 0, none⟩ 1 1 [icell z] hx rfl ?_ ?_ (by omega) (by unfold maxLen; omega) (by omega) hown'.2 _ rfl ?_
  · intro j y hj
    match j, hj with
    | 0, hj => cases hj; simp [Addr.add]
  · intro y hy
    rw [List.mem_singleton.1 hy]; rfl
  · intro g cap w' ho' hg hl hlt
    have k1 : Kept (fun i => v.ownBlock = some i) w (w.alloc (.cells #[icell z] 3)) := Kept.alloc _ _ _
    have k2 : Kept (fun i => v.ownBlock = some i) (w.alloc (.cells #[icell z] 3)) w' := ⟨hg.os, hg.tape, hg.output, hg.size, fun i hi hs => hg.block i hi (fun e => hs e.symm)⟩
    refine h g cap w' ⟨?_, Nat.le_trans hown.2 (k1.then k2).size⟩ (k1.then k2) (hl.imp id fun e => ?_)
    · rw [List.map_append, List.length_append]
      exact ho'
    · rw [e]; exact k1.size
theorem wpList_owni {w : World} {ops : Array Oper} {rest : List Oper} {o : Oper} {a : Act} {Q : Exit → Act → World → Prop} (hgd : o.guard = none) (s x : Operand)
    (ho : o.op = .call { callee := .builtin .append, args := #[s, x], argTypes := #[22, 22] })
    (B : Nat) (v : Value) (l : List Int) (hs : a.eval s = v) (hown : OwnI B w v l) (z : Int) (hx : a.eval x = .slice (some ⟨w.heap.size, 0, none⟩) 1 1) (hlen : l.length ≤ 1000000)
    (h : ∀ v' w', OwnI B w' v' (l ++ [z]) → Kept (fun k => B ≤ k) w w' → wpList Try.prog ops Q rest (a.put o.dst v') w') : wpList Try.prog ops Q (o :: rest) a (w.alloc (.cells #[.int .i64 z] 3)) :=
  wpList_owni_lies hgd s x ho B v l hs hown z hx hlen fun g cap w' h1 h2 _ => h _ w' h1 (h2.mono fun i _ hi => (hown.base hi).1)
/-- 'append(own, row...)' of another own row. -/
theorem wpList_ownis {w : World} {ops : Array Oper} {rest : List Oper} {o : Oper} {a : Act} {Q : Exit → Act → World → Prop} (hgd : o.guard = none) (s x : Operand)
    (ho : o.op = .call { callee := .builtin .append, args := #[s, x], argTypes := #[22, 22] })
    (B B' : Nat) (v v2 : Value) (l news : List Int) (hs : a.eval s = v) (hown : OwnI B w v l) (hx : a.eval x = v2) (hown2 : OwnI B' w v2 news) (hlen : l.length + news.length ≤ 1000000)
    (h : ∀ v' w', OwnI B w' v' (l ++ news) → Kept (fun k => B ≤ k) w w' → wpList Try.prog ops Q rest (a.put o.dst v') w') : wpList Try.prog ops Q (o :: rest) a w := by
  obtain ⟨A, c, rfl, -, -, hr, -, -, hA⟩ := OwnW.reads hown2
  refine wpList_ownw hgd s x 22 ho (z := .int .i64 0) (bytes := 8) Try.underlying22 (by kernel_rfl) rfl (by decide) B v l.length (l.map icell) hs hown A news.length c hx hA (news.map icell) hr ?_ hlen (by decide) ?_
  · intro u hu
    obtain ⟨b, _, rfl⟩ := List.mem_map.1 hu
    rfl
  · intro v' w' h1 h2
    refine h v' w' ?_ (h2.mono fun i _ hi => (hown.base hi).1)
    rw [OwnI, List.map_append, List.length_append]
    exact h1
/-- A new row of one. -/
theorem owni_new (w : World) {B : Nat} (hB : B ≤ w.heap.size) (z : Int) : OwnI B (w.alloc (.cells #[.int .i64 z] 3)) (.slice (some ⟨w.heap.size, 0, none⟩) 1 1) [z] :=
  OwnW.of_row (xs := [icell z]) hB (heap_alloc_new _ _) rfl (by unfold maxLen; omega)
/-- The first k of them. -/
theorem OwnI.cut {B : Nat} {w : World} {A : Option Addr} {n c : Nat} {l : List Int} (h : OwnI B w (.slice A n c) l) {k : Nat} (hk : k ≤ n) (hA : A ≠ none) : OwnI B w (.slice A k c) (l.take k) := by
  rcases h.1.2 with ⟨e, h0⟩ | ⟨g, cap, cur, e, hb, hg, hc, hm, hs, ht⟩
  · cases e; exact absurd rfl hA
  · cases e
    have hl : (l.take k).length = k := by rw [List.length_take]; omega
    refine ⟨⟨by simp, .inr ⟨g, c, cur, by rw [hl], hb, hg, by omega, hm, hs, ?_⟩⟩, h.2⟩
    rw [hl, Nat.mul_one, List.map_take, ← ht, List.take_take]
    congr 1; omega
end Go.Proofs.Ytegkphbnedbgfaa
