
/- Feed.Name and Feed.Filter: some right filter, in memory of its own. -/
import Derived.Test.YtgenmebmdpnjhaaGreatG6
import Derived.Test.YtgenmebmdpnjhaaGreatFeedPred
import Derived.Test.YtgenmebmdpnjhaaGreatG1c
import Derived.Deep.CutBlock
import Derived.Deep.DeepCutAuto
namespace Go.Proofs.YtgenmebmdpnjhaaGreat
open Go.RowKit
set_option linter.unusedVariables false

namespace Fi
def names : List ByteArray := [⟨#[97]⟩, ⟨#[98]⟩, ⟨#[99]⟩, ⟨#[108, 111, 110, 103]⟩]
theorem names_word : ∀ s, s ∈ names → At.word s = true := by
  intro s hs
  simp only [names, List.mem_cons, List.not_mem_nil, or_false] at hs
  rcases hs with rfl | rfl | rfl | rfl <;> decide +kernel
theorem names_size : ∀ s, s ∈ names → s.size ≤ 4 := by
  intro s hs
  simp only [names, List.mem_cons, List.not_mem_nil, or_false] at hs
  rcases hs with rfl | rfl | rfl | rfl <;> decide
/-- No Name falls. -/
def Sorted (l : List Pt) : Prop := ∀ i x y, l[i]? = some x → l[i + 1]? = some y → Op.bytesLess y.p.name.toList x.p.name.toList = false
/-- A filter such as a Feed gives. -/
structure Fine (l : List Pt) : Prop where
  few : l.length ≤ 3
  fed : ∀ x, x ∈ l → x.p.name ∈ names ∧ Pd.Fed x.p.name x.p
  sorted : Sorted l
theorem Fine.isright {l : List Pt} (h : Fine l) : Fi.right l = true := by
  unfold Fi.right
  rw [decide_eq_true h.few, Bool.true_and, List.all_eq_true]
  intro k hk
  have hk : k < l.length := List.mem_range.1 hk
  obtain ⟨x, hx⟩ : ∃ x, l[k]? = some x := ⟨_, List.getElem?_eq_getElem hk⟩
  have hr : Pd.right x.p = true := by
    obtain ⟨h1, h2⟩ := h.fed x (List.mem_of_getElem? hx)
    exact h2.right (names_word _ h1)
  cases k with
  | zero => rw [at_zero hx, hr]
  | succ j =>
    obtain ⟨y, hy⟩ : ∃ y, l[j]? = some y := ⟨_, List.getElem?_eq_getElem (by omega)⟩
    rw [at_next hx hy, hr, h.sorted j y x hy hx]
    rfl
theorem Fine.fits {l : List Pt} (h : Fine l) : ∀ p, p ∈ l.map (·.p) → Pd.Fits p := by
  intro p hp
  obtain ⟨x, hx, rfl⟩ := List.mem_map.1 hp
  obtain ⟨h1, h2⟩ := h.fed x hx
  have := names_size _ h1
  exact ⟨by omega, h2.v.fit, h2.w.fit, fun a ha => (h2.set a ha).fit⟩
theorem less_gt (a b : List UInt8) : (!Op.bytesLess a b && !(a == b)) = Op.bytesLess b a := by
  have := At.less_or a b
  cases h1 : Op.bytesLess a b <;> cases h2 : (a == b) <;> rw [h1, h2] at this <;> simp at this ⊢ <;> rw [this]
theorem less_not {a b : List UInt8} (h : Op.bytesLess a b = true) : Op.bytesLess b a = false := by
  have := At.less_or a b
  rw [h] at this
  simpa using this.symm
/-- One is laid in at k. -/
theorem Fine.insert {l : List Pt} {x : Pt} {k : Nat} (h : Fine l) (hl : l.length < 3) (hk : k ≤ l.length) (hx : x.p.name ∈ names ∧ Pd.Fed x.p.name x.p) (hlo : ∀ y, k ≠ 0 → l[k - 1]? = some y → Op.bytesLess x.p.name.toList y.p.name.toList = false) (hhi : ∀ j y, k ≤ j → l[j]? = some y → Op.bytesLess x.p.name.toList y.p.name.toList = true) : Fine (l.take k ++ x :: l.drop k) := by
  have hlen : (l.take k).length = k := by rw [List.length_take]; omega
  refine ⟨by rw [List.length_append, List.length_cons, List.length_drop, hlen]; omega, ?_, ?_⟩
  · intro y hy
    rcases List.mem_append.1 hy with hy | hy
    · exact h.fed y (List.mem_of_mem_take hy)
    · rcases List.mem_cons.1 hy with rfl | hy
      · exact hx
      · exact h.fed y (List.mem_of_mem_drop hy)
  · intro i y z hy hz
    rcases Nat.lt_trichotomy (i + 1) k with h1 | h1 | h1
    · rw [List.getElem?_append_left (by omega), List.getElem?_take_of_lt (by omega)] at hy hz
      exact h.sorted i y z hy hz
    · rw [List.getElem?_append_left (by omega), List.getElem?_take_of_lt (by omega)] at hy
      rw [List.getElem?_append_right (by omega), hlen, show i + 1 - k = 0 by omega] at hz
      simp only [List.getElem?_cons_zero, Option.some.injEq] at hz
      subst hz
      exact hlo y (by omega) (by rw [show k - 1 = i by omega]; exact hy)
    · rcases Nat.lt_or_ge k i with h2 | h2
      · rw [List.getElem?_append_right (by omega), hlen] at hy hz
        rw [show i - k = (i - k - 1) + 1 by omega, List.getElem?_cons_succ, List.getElem?_drop] at hy
        rw [show i + 1 - k = (i - k - 1) + 1 + 1 by omega, List.getElem?_cons_succ, List.getElem?_drop] at hz
        exact h.sorted (k + (i - k - 1)) y z hy (by rw [show k + (i - k - 1) + 1 = k + (i - k - 1 + 1) by omega]; exact hz)
      · obtain rfl : i = k := by omega
        rw [List.getElem?_append_right (by omega), hlen, Nat.sub_self] at hy
        rw [List.getElem?_append_right (by omega), hlen, show i + 1 - i = 0 + 1 by omega, List.getElem?_cons_succ, List.getElem?_drop] at hz
        simp only [List.getElem?_cons_zero, Option.some.injEq] at hy
        subst hy
        exact less_not (hhi _ z (by omega) hz)
end Fi
theorem four_at (w : World) (q : Nat) (hq : q < 4) : ∃ s : ByteArray, s ∈ Fi.names ∧
    (Instr.index 125 (Value.agg #[Value.string ⟨#[97]⟩, Value.string ⟨#[98]⟩, Value.string ⟨#[99]⟩, Value.string ⟨#[108, 111, 110, 103]⟩]) (Value.int IntKind.i64 (q : Int))).run Tryz.prog w = .ok (.string s) w := by
  match q, hq with
  | 0, _ => exact ⟨⟨#[97]⟩, by simp [Fi.names], by kernel_rfl⟩
  | 1, _ => exact ⟨⟨#[98]⟩, by simp [Fi.names], by kernel_rfl⟩
  | 2, _ => exact ⟨⟨#[99]⟩, by simp [Fi.names], by kernel_rfl⟩
  | 3, _ => exact ⟨⟨#[108, 111, 110, 103]⟩, by simp [Fi.names], by kernel_rfl⟩
/-- What Feed.Name tells. -/
def NamePost (B b a : Nat) (w : World) (e : Ending) (w' : World) : Prop := ∃ s : ByteArray, e = .returned (.string s) ∧ s ∈ Fi.names ∧ IsFeed B w' b (a + 1) ∧ Kept (· = b) w w'
set_option maxRecDepth 100000 in
set_option maxHeartbeats 4000000 in
theorem name_any {B b a : Nat} (w : World) (ha : a < 4611686018427386000) (hf : IsFeed B w b a) :
    Calls Tryz.prog 59 #[.pointer (some ⟨b, 0, none⟩)] w (NamePost B b a w) := by
  have HF := Lib.hid hf
  clear hf
  go_enter Tryz.func59, Tryz.ntmps59
  go_wp2_with fail
  refine (next_any (a := a) 12 (by omega) (by omega) _ (by omega) HF.out).mono ?_
  rintro e w1 ⟨k, hk, rfl, hF1, hK1, hs1⟩
  have HF1 := Lib.hid hF1
  have HK1 := Lib.hid hK1
  clear hF1 hK1 HF hs1
  have q3 : ((k : Nat) : Int).tdiv 3 = ((k / 3 : Nat) : Int) := by rw [Int.tdiv_eq_ediv_of_nonneg (by omega)]; rfl
  have hq : k / 3 < 4 := by omega
  generalize k / 3 = q at q3 hq
  have uq : IntKind.i64.wrap ((q : Nat) : Int) = q := IntWalk.i64_in _ (by omega)
  have q4 : ((q : Nat) : Int).tmod 4 = (q : Int) := by rw [Int.tmod_eq_emod_of_nonneg (by omega)]; omega
  obtain ⟨s, hs, hix⟩ := four_at w1 q hq
  go_wp2_with fail
  go_ret
  exact ⟨s, rfl, hs, HF1.out, HK1.out⟩
theorem Pt.cells_len' {x : Pt} : x.cells.length = 13 := rfl
theorem slice_from (g L c k : Nat) (hk : k ≤ L) : ∃ A1 : Option Addr, (∀ w : World, (Instr.slice 31 (.slice (some ⟨g, 0, none⟩) L c) (some (.int .i64 (k : Int))) none none).run Tryz.prog w = .ok (.slice A1 (L - k) (c - k)) w) ∧ (k < c → A1 = some ⟨g, k * 13, none⟩) := by
  obtain ⟨i, hi, -, h1, -⟩ := info_at prd_info
  have he : Tryz.prog.elem 31 = 98 := by kernel_rfl
  refine ⟨if c = k then some ⟨g, 0, none⟩ else some ⟨g, k * 13, none⟩, fun w => ?_, fun h => by rw [if_neg (by omega)]⟩
  rw [run_slice_l (P := Tryz.prog) w 31 (some ⟨g, 0, none⟩) L c (by rw [he]; exact Tryz.underlying31) .i64 (k : Int) (by omega) (by omega), he]
  by_cases hc : c = k
  · simp [sizeOf, typeInfo, hi, h1, sliced, hc]
  · simp [sizeOf, typeInfo, hi, h1, sliced, hc, addr_at]
theorem shift_lists (P D Z tail x : List Value) (hZ : Z.length = 13) (hx : x.length = 13) : part (part (P ++ (D ++ (Z ++ tail))) (P.length + 13) D) P.length x = P ++ (x ++ (D ++ tail)) := by
  have e1 : (P ++ (D ++ (Z ++ tail))).drop (P.length + 13 + D.length) = tail := by
    rw [← List.append_assoc, ← List.append_assoc, List.drop_append, List.drop_eq_nil_of_le (by simp; omega)]
    simp [show P.length + 13 + D.length - (P.length + (D.length + Z.length)) = 0 by omega]
  have e2 : (P ++ (D ++ (Z ++ tail))).take (P.length + 13) = P ++ (D ++ (Z ++ tail)).take 13 := by
    rw [List.take_append, List.take_of_length_le (by omega), show P.length + 13 - P.length = 13 by omega]
  have e3 : ((D ++ (Z ++ tail)).take 13).length = 13 := by simp; omega
  unfold part
  rw [e1, e2]
  generalize (D ++ (Z ++ tail)).take 13 = X at e3
  have e4 : P ++ X ++ D ++ tail = P ++ (X ++ (D ++ tail)) := by simp
  rw [e4, List.take_left, hx, ← List.drop_drop, List.drop_left, List.drop_left' e3, List.append_assoc]
/-- 'copy(l[k+1:], l[k:])' of a row that has one more at its end. -/
theorem copy_shift {w : World} {g k c1 c2 : Nat} {P D Z tail : List Value} {A1 A2 : Option Addr} {q : Nat} (hg : w.heap[g]? = some (.cells (P ++ (D ++ (Z ++ tail))).toArray 98 (0, 0))) (hP : P.length = k * 13) (hD : D.length = q * 13) (hZ : Z.length = 13) (h1 : 0 < q → A1 = some ⟨g, (k + 1) * 13, none⟩) (h2 : 0 < q → A2 = some ⟨g, k * 13, none⟩) (hone : ∀ u ∈ D, u.oneCell' = true) :
    ∃ w', (∀ ty, (Builtin.copy_ #[31, 31] ty #[.slice A1 q c1, .slice A2 (q + 1) c2]).run Tryz.prog w = .ok (goInt q) w') ∧ w'.heap[g]? = some (.cells (part (P ++ (D ++ (Z ++ tail))) (P.length + 13) D).toArray 98 (0, 0)) ∧ Kept (· = g) w w' := by
  obtain ⟨i, hi, -, hs, -⟩ := info_at prd_info
  have hmin : Nat.min (q + 1) q = q := Nat.min_eq_right (by omega)
  rcases Nat.eq_zero_or_pos q with rfl | hq
  · have hD0 : D = [] := List.eq_nil_of_length_eq_zero (by omega)
    subst hD0
    refine ⟨w, fun ty => ?_, by rw [hg]; rw [show part (P ++ ([] ++ (Z ++ tail))) (P.length + 13) [] = P ++ ([] ++ (Z ++ tail)) by unfold part; rw [List.append_nil, List.length_nil, Nat.add_zero, List.take_append_drop]], Kept.refl _ _⟩
    have hl0 : ∀ (x : Addr), (loadCells x 0).run Tryz.prog w = .ok #[] w := fun x => by simpa using run_loadCells_list (P := Tryz.prog) w x [] (by simp)
    cases A1 <;> cases A2 <;> simp [Builtin.copy_, run_underlying Tryz.underlying31, Builtin.lenOf, Builtin.firstCells, sizeOf, typeInfo, hi, hl0, storeCells]
  · obtain rfl := h1 hq
    obtain rfl := h2 hq
    refine ⟨w.setRow g (part (P ++ (D ++ (Z ++ tail))) (P.length + 13) D).toArray, fun ty => ?_, setRow_heap _ _ _ _ _ _ hg, Kept.setRow _ _ _⟩
    have hld := run_loadCells_list (P := Tryz.prog) w ⟨g, k * 13, none⟩ D (by
      intro j u hj
      rw [addr_at, cell_of_row _ _ _ _ _ _ hg]
      have hjl := (List.getElem?_eq_some_iff.1 hj).1
      have : (P ++ (D ++ (Z ++ tail)))[k * 13 + j]? = some u := by
        rw [List.getElem?_append_right (by omega), hP, show k * 13 + j - k * 13 = j by omega, List.getElem?_append_left hjl]
        exact hj
      simpa using this)
    rw [hD] at hld
    have hst := run_storeCells_at Tryz.prog g ((k + 1) * 13) 98 D 0 (P ++ (D ++ (Z ++ tail))).toArray w hg (by simp; omega) hone
    rw [Nat.add_zero, show (k + 1) * 13 = P.length + 13 by omega] at hst
    have e : (⟨g, (k + 1) * 13, none⟩ : Addr) = ⟨g, P.length + 13, none⟩ := by rw [show (k + 1) * 13 = P.length + 13 by omega]
    rw [e]
    simp [Builtin.copy_, run_underlying Tryz.underlying31, Builtin.lenOf, Builtin.firstCells, sizeOf, typeInfo, hi, hs, hmin, hld, hst, part]
/-- 'append(own, src...)' of what is not empty, at a list of operations: where the new row lies is told. -/
theorem wpList_ownl {w : World} {ops : Array Oper} {rest : List Oper} {o : Oper} {a : Act} {Q : Exit → Act → World → Prop} (hgd : o.guard = none) (s x : Operand) (t : TypeId)
    (ho : o.op = .call { callee := .builtin .append, args := #[s, x], argTypes := #[t, t] })
    {e : TypeId} {z : Value} {k bytes : Nat} (ht : Tryz.prog.underlying t = some (.slice e)) (hi : (Tryz.prog.info? e).map (fun i => (i.zero, i.size, i.bytes)) = some (some z, k, bytes)) (hzs : z.cells.size = k) (hk : 0 < k)
    (B : Nat) (v : Value) (n : Nat) (xs : List Value) (hs : a.eval s = v) (hown : OwnW k B e w v n xs) (ad : Addr) (m c : Nat) (hx : a.eval x = .slice (some ad) m c) (us : List Value) (hus : Rs k w (some ad) m us) (hu : ∀ u ∈ us, u.oneCell' = true) (hm : 0 < m) (hlen : n + m ≤ 1000000) (hbs : bytes ≤ 1000)
    (h : ∀ g cap w', OwnW k B e w' (.slice (some ⟨g, 0, none⟩) (n + m) cap) (n + m) (xs ++ us) → Kept (fun i => v.ownBlock = some i) w w' → (v.ownBlock = some g ∨ g = w.heap.size) → wpList Tryz.prog ops Q rest (a.put o.dst (.slice (some ⟨g, 0, none⟩) (n + m) cap)) w') : wpList Tryz.prog ops Q (o :: rest) a w :=
  wpList_plain hgd fun _ hK => step_ownl s x t ho ht hi hzs hk B v n xs hs hown ad m c hx us hus hu hm hlen hbs (fun g cap w' h1 h2 h3 => hK _ _ (h g cap w' h1 h2 h3))
abbrev zp : Pt := ⟨⟨⟨#[]⟩, 0, ⟨0, 0, 0, ⟨#[]⟩, false⟩, ⟨0, 0, 0, ⟨#[]⟩, false⟩, []⟩, none, 0⟩
/-- Feed.Filter on its way. -/
structure FFs (B b a : Nat) (w wr : World) (v : Value) (l : List Pt) : Prop where
  fine : Fi.Fine l
  own : OwnP w.heap.size wr v l
  sets : ∀ x, x ∈ l → OwnS w.heap.size wr x
  feed : IsFeed B wr b (a + 1 + 11 * l.length)
  kept : Kept (· = b) w wr
  hb : b < w.heap.size
theorem FFs.next {B b a a' : Nat} {w wr wx : World} {v : Value} {l : List Pt} (h : FFs B b a w wr v l) (k : Kept (· = b) wr wx) (f : IsFeed B wx b a') : Fi.Fine l ∧ OwnP w.heap.size wx v l ∧ (∀ x, x ∈ l → OwnS w.heap.size wx x) ∧ Kept (· = b) w wx :=
  ⟨h.fine, h.own.kept k (ownw_apart h.own h.hb), fun x hx => (h.sets x hx).kept k (ownw_apart (h.sets x hx) h.hb), h.kept.then k⟩
theorem ff_round {B b a k g c : Nat} {w w6 : World} {l : List Pt} {x : Pt} {tail : List Value} (hrow : w6.heap[g]? = some (.cells (part (pflat (l.take k) ++ (pflat (l.drop k) ++ (zp.cells ++ tail))) ((pflat (l.take k)).length + 13) (pflat (l.drop k))).toArray 98 (0, 0))) (ht : ∀ y, y ∈ l → OwnS w.heap.size w6 y) (hx : OwnS w.heap.size w6 x) (hf : IsFeed B w6 b (a + 1 + 11 * l.length + 1 + 10)) (hk : Kept (· = b) w w6)
    (hP : (pflat (l.take k)).length = k * 13) (htail : tail.length = (c - (l.length + 1)) * 13) (hg : w.heap.size ≤ g) (hl : l.length + 1 ≤ c) (hm : c ≤ maxLen) (hkl : k ≤ l.length) (hb : b < w.heap.size) (hfine : Fi.Fine (l.take k ++ x :: l.drop k)) :
    FFs B b a w (w6.setRow g (part (part (pflat (l.take k) ++ (pflat (l.drop k) ++ (zp.cells ++ tail))) ((pflat (l.take k)).length + 13) (pflat (l.drop k))) (k * 13) x.cells).toArray) (.slice (some ⟨g, 0, none⟩) (l.length + 1) c) (l.take k ++ x :: l.drop k) := by
  have hlen : (l.take k ++ x :: l.drop k).length = l.length + 1 := by rw [List.length_append, List.length_cons, List.length_take, List.length_drop]; omega
  have hB := hf.1
  have kr := Kept.setRow w6 g (part (part (pflat (l.take k) ++ (pflat (l.drop k) ++ (zp.cells ++ tail))) ((pflat (l.take k)).length + 13) (pflat (l.drop k))) (k * 13) x.cells).toArray
  have hset := setRow_heap w6 g _ (part (part (pflat (l.take k) ++ (pflat (l.drop k) ++ (zp.cells ++ tail))) ((pflat (l.take k)).length + 13) (pflat (l.drop k))) (k * 13) x.cells).toArray _ _ hrow
  have he : part (part (pflat (l.take k) ++ (pflat (l.drop k) ++ (zp.cells ++ tail))) ((pflat (l.take k)).length + 13) (pflat (l.drop k))) (k * 13) x.cells = pflat (l.take k ++ x :: l.drop k) ++ tail := by
    rw [← hP, shift_lists _ _ _ _ _ Pt.cells_len' Pt.cells_len']
    simp [pflat]
  rw [he] at hset kr ⊢
  have hp : (pflat (l.take k ++ x :: l.drop k)).length = (l.length + 1) * 13 := by rw [flat_len _ Pt.cells_len, hlen]
  refine ⟨hfine, ?_, fun y hy => ?_, ?_, hk.trans kr (fun i hi e => by omega), hb⟩
  · unfold OwnP
    rw [hlen]
    refine ⟨⟨hp, .inr ⟨g, c, _, rfl, hg, hset, hl, hm, ?_, ?_⟩⟩, by have := (Array.getElem?_eq_some_iff.1 hset).1; omega⟩
    · rw [List.size_toArray, List.length_append, hp, htail]; omega
    · show List.take ((l.length + 1) * 13) (pflat (l.take k ++ x :: l.drop k) ++ tail) = _
      rw [← hp, List.take_left]
  · have hy' : OwnS w.heap.size w6 y := by
      rcases List.mem_append.1 hy with hy | hy
      · exact ht y (List.mem_of_mem_take hy)
      · rcases List.mem_cons.1 hy with rfl | hy
        · exact hx
        · exact ht y (List.mem_of_mem_drop hy)
    exact hy'.kept kr (ownw_not hy' hrow val_pred)
  · rw [hlen]
    exact (hf.kept kr (by show ¬ b = g; omega) (by intro i hi e; omega)).more (by omega)
/-- What Feed.Filter tells. -/
def FFPost (B b a : Nat) (w : World) (e : Ending) (w' : World) : Prop :=
  ∃ f : Ft, e = .returned (.slice f.A f.l.length f.c) ∧ Fi.Fine f.l ∧ Owned w.heap.size w' f ∧ IsFeed B w' b (a + 34) ∧ Kept (· = b) w w'
set_option maxRecDepth 100000 in
set_option maxHeartbeats 16000000 in
theorem feedfilter_any {B b a : Nat} (w : World) (ha : a < 4611686018427385000) (hf : IsFeed B w b a) :
    Calls Tryz.prog 21 #[.pointer (some ⟨b, 0, none⟩)] w (FFPost B b a w) := by
  have hlt := hf.lt
  have HF := Lib.hid hf
  have hst := store_float
  clear hf
  go_enter Tryz.func21, Tryz.ntmps21
  go_wp2_with fail
  refine (next_any (a := a) 4 (by omega) (by omega) _ (by omega) HF.out).mono ?_
  rintro e w1 ⟨n, hn, rfl, hF1, hK1, hs1⟩
  have H0 : Hid (FFs B b a w w1 (.slice none 0 0) []) := ⟨⟨by simp, by simp, fun i x y h => by simp at h⟩, OwnW.nil _ _ _ hK1.size, by simp, hF1, hK1, hlt⟩
  clear hF1 hK1 hs1 HF
  go_wp2_with fail
  go_loopw [3, 4] (fun v ii wr => ∃ (z : Int) (l : List Pt), ii = .int .i64 z ∧ 0 ≤ z ∧ z + (l.length : Int) ≤ 3 ∧ FFs B b a w wr v l) (fun _ ii _ => (intOf ii).toNat)
  case atStart => exact ⟨n, [], rfl, by omega, by simp; omega, H0.out⟩
  case round =>
    obtain ⟨z, l, rfl, hz, hzl, hS⟩ := hrel
    have HS := Lib.hid hS
    obtain ⟨A, c, hv, hc, hm, -, -, -, -⟩ := hS.own.reads
    clear hS H0
    subst hv
    by_cases h0 : z > 0
    · have hl3 : (l.length : Int) < 3 := by omega
      go_wp2_with fail
      refine (name_any (a := a + 1 + 11 * l.length) _ (by omega) HS.out.feed).mono ?_
      rintro e w2 ⟨s, rfl, hs, hF2, hK2⟩
      obtain ⟨n1, n2, n3, n4⟩ := HS.out.next hK2 hF2
      have HSN := Lib.hid hs
      have HF2 := Lib.hid hF2
      have HN := Lib.hid n1
      have HO2 := Lib.hid n2
      have HT2 := Lib.hid n3
      have HK2 := Lib.hid n4
      clear hs hF2 hK2 n1 n2 n3 n4 HS
      go_wp2_with fail
      refine (feedpred_any (a := a + 1 + 11 * l.length + 1) s _ (by omega) HF2.out).mono ?_
      rintro e w3 ⟨p, Ap, cp, rfl, hfed, hOp, hF3, hK3⟩
      have hap := ownw_apart HO2.out hlt
      have HO3 := Lib.hid (HO2.out.kept hK3 hap)
      have HT3 : Hid (∀ x, x ∈ l → OwnS w.heap.size w3 x) := fun x hx => (HT2.out x hx).kept hK3 (ownw_apart (HT2.out x hx) hlt)
      have HP3 : Hid (OwnS w.heap.size w3 ⟨p, Ap, cp⟩) := ownw_sub hOp HK2.out.size
      have HK3 := Lib.hid (HK2.out.then hK3)
      have HF3 := Lib.hid hF3
      have HFed : Hid (p.name ∈ Fi.names ∧ Pd.Fed p.name p) := by rw [hfed.name]; exact ⟨HSN.out, hfed⟩
      have hnm : p.name = s := hfed.name
      have HNM := Lib.hid hnm
      clear hfed hOp hF3 hK3 HO2 HT2 HK2 HF2 hap hnm
      go_upto_region 7 with fail
      have HLt := Lib.hid (ownw_lt HO3.out)
      have hn1 := one_new w3 (Pt.box ⟨p, Ap, cp⟩)
      have HR4 := Lib.hid (heap_alloc_new w3 (Pt.box ⟨p, Ap, cp⟩))
      have hgp : w.heap.size ≤ w3.heap.size := HK3.out.size
      have hgb : ¬ w3.heap.size = b := by omega
      replace HO3 := Lib.hid (HO3.out.later hn1)
      replace HT3 : Hid (∀ x, x ∈ l → OwnS w.heap.size (w3.alloc (Pt.box ⟨p, Ap, cp⟩)) x) := fun x hx => (HT3.out x hx).later hn1
      replace HP3 := Lib.hid (HP3.out.later hn1)
      replace HK3 := Lib.hid (HK3.out.then (Kept.ofBelow hn1))
      replace HF3 := Lib.hid (HF3.out.below hn1)
      clear hn1
      dsimp only [Pt.box, Pt.cells] at HR4 HO3 HT3 HP3 HK3 HF3
      generalize w3.heap.size = gp at HR4 hgp hgb HLt ⊢
      generalize w3.alloc _ = w4 at HR4 HO3 HT3 HP3 HK3 HF3 ⊢
      have HR4 : Hid (w4.heap[gp]? = some (Pt.box ⟨p, Ap, cp⟩)) := HR4
      have HRs := Lib.hid (OwnW.reads HO3.out)
      go_upto_block 2 with fail
      go_cut [7] (fun kk wx => ∃ k : Nat, k ≤ l.length ∧ kk = .int .i64 (k : Int) ∧ (∀ y, k ≠ 0 → l[k - 1]? = some y → Op.bytesLess s.toList y.p.name.toList = false) ∧ (∀ j y, k ≤ j → l[j]? = some y → Op.bytesLess s.toList y.p.name.toList = true) ∧ w4 = wx)
      case first =>
        go_wp2_with fail
        go_loopw [7] (fun ii wx => ∃ k : Nat, k ≤ l.length ∧ ii = .int .i64 (k : Int) ∧ (∀ j y, k ≤ j → l[j]? = some y → Op.bytesLess s.toList y.p.name.toList = true) ∧ w4 = wx) (fun ii _ => (intOf ii).toNat)
        case atStart => exact ⟨l.length, Nat.le_refl _, rfl, fun j y hj hy => by have := (List.getElem?_eq_some_iff.1 hy).1; omega, rfl⟩
        case round =>
          obtain ⟨k, hk, rfl, hhi, rfl⟩ := hrel
          have HH := Lib.hid hhi
          clear hhi
          rcases k with - | k
          · go_wp2_with fail
            go_meet
            exact ⟨0, by omega, rfl, fun y h => absurd rfl h, HH.out, rfl⟩
          · obtain ⟨y, hy⟩ : ∃ y, l[k]? = some y := ⟨_, List.getElem?_eq_getElem (by omega)⟩
            have HY := Lib.hid hy
            obtain ⟨g, cc, e, -, hgl, -, -, hcell⟩ := ownp_at HO3.out (by omega)
            cases e
            have c0 : w4.cell? ⟨g, k * 13, none⟩ = some (.string y.p.name) := by
              have := hcell (k * 13) (.string y.p.name) (by rw [show k * 13 = k * 13 + 0 by omega, flat_get _ Pt.cells_len l k 0 y hy (by omega)]; rfl)
              rw [Nat.zero_add] at this
              exact this
            have uk : IntKind.i64.wrap (((k + 1 : Nat) : Int) - 1) = (k : Int) := by rw [show ((k + 1 : Nat) : Int) - 1 = (k : Int) by omega]; exact IntWalk.i64_in _ (by omega)
            have hgt := Fi.less_gt y.p.name.toList s.toList
            clear hy hcell
            cases hw : Op.bytesLess s.toList y.p.name.toList
            · rw [hw] at hgt
              go_wp2_with fail
              go_meet
              exact ⟨k + 1, by omega, rfl, fun y' _ hy' => by rw [Nat.add_sub_cancel, HY.out] at hy'; cases hy'; exact hw, HH.out, rfl⟩
            · rw [hw] at hgt
              go_wp2_with fail
              exact ⟨⟨k, by omega, rfl, fun j y' hj hy' => by
                rcases Nat.lt_or_ge k j with h | h
                · exact HH.out j y' (by omega) hy'
                · obtain rfl : j = k := by omega
                  rw [HY.out] at hy'; cases hy'; exact hw, trivial⟩, by simp [intOf]⟩
      case rest =>
      obtain ⟨k, hk, rfl, hlo, hhi, rfl⟩ := hcut
      have HLo := Lib.hid hlo
      have HHi := Lib.hid hhi
      clear hlo hhi
      have hnew := one_new w4 zp.box
      go_upto_region 11 with (first | (at_builtin; refine wpList_ownl (k := 13) rfl _ _ 31 rfl Tryz.underlying31 prd_info rfl (by decide) w.heap.size _ l.length (pflat l) rfl (HO3.out.later hnew) _ 1 1 rfl (pflat [zp]) (new_pt w4 zp) (pflat_one _) (by decide) (by omega) (by decide) ?_; intro g5 c5 w5 hO5 hK5 hat; have HO5 := Lib.hid hO5; have HK5 := Lib.hid hK5; have HAT := Lib.hid hat; clear hO5 hK5 hat))
      obtain ⟨hrow, hBg, hl1, hm5⟩ : (∃ tail : List Value, w5.heap[g5]? = some (.cells (pflat (l.take k) ++ (pflat (l.drop k) ++ (zp.cells ++ tail))).toArray 98 (0, 0)) ∧ tail.length = (c5 - (l.length + 1)) * 13) ∧ w.heap.size ≤ g5 ∧ l.length + 1 ≤ c5 ∧ c5 ≤ maxLen := by
        rcases HO5.out.1.2 with ⟨h, -⟩ | ⟨g, cap, cur, e, hb, hg, hc1, hm1, hsz, htk⟩
        · cases h
        · cases e
          refine ⟨⟨cur.toList.drop ((l.length + 1) * 13), ?_, ?_⟩, hb, hc1, hm1⟩
          · rw [hg]
            have e1 : cur.toList = pflat l ++ pflat [zp] ++ cur.toList.drop ((l.length + 1) * 13) := by rw [← htk, List.take_append_drop]
            have e2 : cur = cur.toList.toArray := by simp
            have e3 : pflat l = pflat (l.take k) ++ pflat (l.drop k) := by rw [← List.flatMap_append, List.take_append_drop]
            have e4 : pflat [zp] = zp.cells := by simp [pflat]
            conv => lhs; rw [e2, e1, e3, e4]
            simp only [List.append_assoc]
          · rw [List.length_drop, Array.length_toList, hsz]; omega
      obtain ⟨tail, hrow, htail⟩ := hrow
      have hgg : ¬ gp = g5 := by
        have hlt4 : gp < w4.heap.size := row_lt HR4.out
        rcases HAT.out with h | h
        · have := HLt.out _ h; omega
        · rw [h]; simp; omega
      have hnb : ∀ i, (Value.slice A l.length c).ownBlock = some i → ¬ i = b := ownw_apart HO3.out hlt
      have hbase := ownw_base HO3.out
      have hd := drew_below w5
      have HRow := Lib.hid (below_row hd hrow)
      have HR5 := Lib.hid (below_row hd (HK5.out.row (below_row hnew HR4.out) (fun e => by have := HLt.out _ e; omega)))
      have HT5 : Hid (∀ x, x ∈ l → OwnS w.heap.size w5.drew x) := fun x hx => (((HT3.out x hx).later hnew).kept HK5.out (fun i hi e => ownw_types ((HT3.out x hx).later hnew) (HO3.out.later hnew) val_pred i hi e)).later hd
      have HP5 : Hid (OwnS w.heap.size w5.drew ⟨p, Ap, cp⟩) := ((HP3.out.later hnew).kept HK5.out (fun i hi e => ownw_types (HP3.out.later hnew) (HO3.out.later hnew) val_pred i hi e)).later hd
      have HF5 := Lib.hid (((HF3.out.below hnew).kept HK5.out (fun e => hnb _ e rfl) (fun i hi e => by have := hbase i e; have := HF3.out.1; omega)).below hd)
      have HK6 := Lib.hid ((((HK3.out.then (Kept.ofBelow hnew)).trans HK5.out (fun i hi e => by have := hbase i e; omega))).then (Kept.ofBelow hd))
      clear hrow hd hnb hbase HO3 HT3 HP3 HK3 HF3 HR4 HK5 HO5 HAT HLt hnew HRs
      obtain ⟨q, hq⟩ : ∃ q, l.length + 1 - (k + 1) = q := ⟨_, rfl⟩
      obtain ⟨A1, f1, f2⟩ := slice_from g5 (l.length + 1) c5 (k + 1) (by omega)
      obtain ⟨A2, f3, f4⟩ := slice_from g5 (l.length + 1) c5 k (by omega)
      rw [hq] at f1
      rw [show l.length + 1 - k = q + 1 by omega] at f3
      have hP : (pflat (l.take k)).length = k * 13 := by rw [flat_len _ Pt.cells_len, List.length_take, Nat.min_eq_left hk]
      have hD : (pflat (l.drop k)).length = q * 13 := by rw [flat_len _ Pt.cells_len, List.length_drop]; omega
      obtain ⟨w6, hcp, hrow6, hk6⟩ := copy_shift (c1 := c5 - (k + 1)) (c2 := c5 - k) HRow.out hP hD Pt.cells_len' (fun h => f2 (by omega)) (fun h => f4 (by omega)) (pflat_one _)
      have HCP := Lib.hid hcp
      have HR6 := Lib.hid (hk6.row HR5.out hgg)
      have HT6 : Hid (∀ x, x ∈ l → OwnS w.heap.size w6 x) := fun x hx => (HT5.out x hx).kept hk6 (ownw_not (HT5.out x hx) HRow.out val_pred)
      have HP6 : Hid (OwnS w.heap.size w6 ⟨p, Ap, cp⟩) := HP5.out.kept hk6 (ownw_not HP5.out HRow.out val_pred)
      have HF6 := Lib.hid (HF5.out.kept hk6 (by show ¬ b = g5; omega) (by intro i hi e; have := HF5.out.1; omega))
      have HK7 := Lib.hid (HK6.out.trans hk6 (fun i hi e => by omega))
      have HRow6 := Lib.hid hrow6
      have uk1 : IntKind.i64.wrap ((k : Int) + 1) = (k : Int) + 1 := IntWalk.i64_in _ (by omega)
      have hs1 : ∀ w : World, (Instr.slice 31 (.slice (some ⟨g5, 0, none⟩) (l.length + 1) c5) (some (.int .i64 ((k : Int) + 1))) none none).run Tryz.prog w = .ok (.slice A1 q (c5 - (k + 1))) w := f1
      clear hcp hrow6 hk6 HR5 HT5 HP5 HF5 HK6 HRow f1 f2 f4
      generalize c5 - (k + 1) = d1 at hs1 HCP
      generalize hd2 : c5 - k = d2 at f3 HCP
      clear hd2
      have hk13 : k * 13 + (Pt.cells ⟨p, Ap, cp⟩).length ≤ (part (pflat (l.take k) ++ (pflat (l.drop k) ++ (zp.cells ++ tail))) ((pflat (l.take k)).length + 13) (pflat (l.drop k))).length := by
        unfold part
        simp only [List.length_append, List.length_take, List.length_drop, hP, hD, Pt.cells_len]
        omega
      have hin : (k : Int) < ((l.length + 1 : Nat) : Int) := by omega
      refine held_begin (fun _ => True) (by kernel_rfl) ?_
      generalize w5.drew = wd at HCP ⊢
      refine held_read (i := 0) (o := { dst := some 44, op := Op.move (Operand.tmp 3), type := 31, pos := "hand.go:103", after := #[], guard := none }) (v := ?_) rfl (by kernel_rfl) (by kernel_rfl) (by kernel_rfl) (fun _ _ _ h => h) (by rfl) trivial ?_ ?_
      rotate_left
      · (intro x hx; go_simp; try with_reducible rfl)
      try simp only [Act.put, List.setIfInBounds_toArray, List.set_cons_zero, List.set_cons_succ]
      refine held_read (i := 1) (o := { dst := some 45, op := Op.move (Operand.tmp 7), type := 3, pos := "hand.go:103", after := #[], guard := none }) (v := ?_) rfl (by kernel_rfl) (by kernel_rfl) (by kernel_rfl) (fun _ _ _ h => h) (by rfl) trivial ?_ ?_
      rotate_left
      · (intro x hx; go_simp; try with_reducible rfl)
      try simp only [Act.put, List.setIfInBounds_toArray, List.set_cons_zero, List.set_cons_succ]
      refine held_read (i := 2) (o := { dst := some 46, op := Op.binOp BinOp.add 3 (Operand.tmp 45) (Operand.const (Value.int IntKind.i64 1)) 3, type := 3, pos := "hand.go:103", after := #[{ on := 1, ground := Ground.data }], guard := none }) (v := ?_) rfl (by kernel_rfl) (by kernel_rfl) (by kernel_rfl) (fun _ _ _ h => h) (by rfl) trivial ?_ ?_
      rotate_left
      · (intro x hx; go_simp; try with_reducible rfl)
      try simp only [Act.put, List.setIfInBounds_toArray, List.set_cons_zero, List.set_cons_succ]
      refine held_read (i := 3) (o := { dst := some 47, op := Op.slice 31 (Operand.tmp 44) (some (Operand.tmp 46)) none none, type := 31, pos := "hand.go:103", after := #[{ on := 0, ground := Ground.data }, { on := 2, ground := Ground.data }], guard := none }) (v := ?_) rfl (by kernel_rfl) (by kernel_rfl) (by kernel_rfl) (fun _ _ _ h => h) (by rfl) trivial ?_ ?_
      rotate_left
      · (intro x hx; go_simp; try with_reducible rfl)
      try simp only [Act.put, List.setIfInBounds_toArray, List.set_cons_zero, List.set_cons_succ]
      refine held_read (i := 4) (o := { dst := some 48, op := Op.move (Operand.tmp 3), type := 31, pos := "hand.go:103", after := #[], guard := none }) (v := ?_) rfl (by kernel_rfl) (by kernel_rfl) (by kernel_rfl) (fun _ _ _ h => h) (by rfl) trivial ?_ ?_
      rotate_left
      · (intro x hx; go_simp; try with_reducible rfl)
      try simp only [Act.put, List.setIfInBounds_toArray, List.set_cons_zero, List.set_cons_succ]
      refine held_read (i := 5) (o := { dst := some 49, op := Op.move (Operand.tmp 7), type := 3, pos := "hand.go:103", after := #[], guard := none }) (v := ?_) rfl (by kernel_rfl) (by kernel_rfl) (by kernel_rfl) (fun _ _ _ h => h) (by rfl) trivial ?_ ?_
      rotate_left
      · (intro x hx; go_simp; try with_reducible rfl)
      try simp only [Act.put, List.setIfInBounds_toArray, List.set_cons_zero, List.set_cons_succ]
      refine held_read (i := 6) (o := { dst := some 50, op := Op.slice 31 (Operand.tmp 48) (some (Operand.tmp 49)) none none, type := 31, pos := "hand.go:103", after := #[{ on := 4, ground := Ground.data }, { on := 5, ground := Ground.data }], guard := none }) (v := ?_) rfl (by kernel_rfl) (by kernel_rfl) (by kernel_rfl) (fun _ _ _ h => h) (by rfl) trivial ?_ ?_
      rotate_left
      · (intro x hx; go_simp; try with_reducible rfl)
      try simp only [Act.put, List.setIfInBounds_toArray, List.set_cons_zero, List.set_cons_succ]
      refine held_call (i := 7) (o := { dst := some 51, op := Op.call { callee := Callee.builtin Builtin.copy, args := #[Operand.tmp 47, Operand.tmp 50], argTypes := #[31, 31] }, type := 3, pos := "hand.go:103", after := #[{ on := 3, ground := Ground.data }, { on := 6, ground := Ground.data }], guard := none }) rfl (by kernel_rfl) (by rfl) (fun K hK => ?_)
      have hcp := HCP.out
      go_simp
      refine hK.out _ _ trivial ?_
      clear hK K hcp HCP hs1 f3 uk1
      try simp only [Act.put, List.setIfInBounds_toArray, List.set_cons_zero, List.set_cons_succ]
      refine wpAnyH_done (by kernel_rfl) ?_ _
      have HGP := Lib.hid (cells_row HR6.out)
      go_wp2_with (first | (refine wpList_load_at rfl 98 _ rfl gp 0 (Pt.cells ⟨p, Ap, cp⟩) _ rfl HGP.out Tryz.underlying98 rfl prd_size ?_; dsimp only [Pt.cells]) | (refine wpList_store_part rfl 98 _ _ rfl g5 (k * 13) _ (Pt.cells ⟨p, Ap, cp⟩) rfl rfl rfl 98 _ HRow6.out prd_size hk13 (Pt.one _) ?_; have HEND := Lib.hid (ff_round HRow6.out HT6.out HP6.out HF6.out HK7.out hP htail hBg hl1 hm5 hk hlt (HN.out.insert (x := ⟨p, Ap, cp⟩) (by omega) hk HFed.out (fun y h1 h2 => by rw [HNM.out]; exact HLo.out y h1 h2) (fun j y h1 h2 => by rw [HNM.out]; exact HHi.out j y h1 h2))); generalize World.setRow w6 _ _ = w7 at HEND ⊢) | fail)
      exact ⟨⟨z - 1, l.take k ++ (⟨p, Ap, cp⟩ : Pt) :: l.drop k, rfl, by omega, by rw [List.length_append, List.length_cons, List.length_take, List.length_drop]; omega, HEND.out⟩, by simp [intOf]; omega⟩
    · go_wp2_with fail
      go_ret
      exact ⟨⟨A, c, l⟩, rfl, HS.out.fine, ⟨HS.out.own, HS.out.sets⟩, HS.out.feed.more (by omega), HS.out.kept⟩
end Go.Proofs.YtgenmebmdpnjhaaGreat
