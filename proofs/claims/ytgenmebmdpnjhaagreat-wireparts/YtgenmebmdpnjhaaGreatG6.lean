/- G6: FeedAttrs, AttFacts, FilTests in one text. -/
import Derived.Test.YtgenmebmdpnjhaaGreatG4
import Derived.Test.YtgenmebmdpnjhaaGreatG1c
import Derived.Test.YtgenmebmdpnjhaaGreatG1b
import Derived.Test.YtgenmebmdpnjhaaGreatG5
import Derived.Laws.Append
import Derived.Deep.AppendSrc
namespace Go.Proofs.YtgenmebmdpnjhaaGreat
open Go.RowKit

namespace At
/-- The names that a Feed gives. -/
def nm : List ByteArray := [⟨#[97]⟩, ⟨#[98]⟩, ⟨#[99]⟩, ⟨#[100]⟩, ⟨#[108, 111, 110, 103]⟩]
def less (a b : Att) : Prop := Op.bytesLess a.name.toList b.name.toList = true
/-- Such attributes as the first k names give. -/
structure Fed (k : Nat) (l : List Att) : Prop where
  len : l.length ≤ k
  names : ∀ a, a ∈ l → ∃ i, i < k ∧ nm[i]? = some a.name
  rise : l.Pairwise less
  right : ∀ a, a ∈ l → Vl.right a.v = true
  num : ∀ a, a ∈ l → -9223372036854775808 ≤ a.v.n ∧ a.v.n ≤ 9223372036854775807 ∧ a.v.x < 2 ^ 64
theorem Fed.nil : Fed 0 [] := ⟨by simp, by simp, by simp, by simp, by simp⟩
theorem Fed.skip {k : Nat} {l : List Att} (h : Fed k l) : Fed (k + 1) l := ⟨by have := h.len; omega, fun a ha => by obtain ⟨i, hi, e⟩ := h.names a ha; exact ⟨i, by omega, e⟩, h.rise, h.right, h.num⟩
theorem nm_less : ∀ i j : Nat, i < j → j < 5 → ∀ a b, nm[i]? = some a → nm[j]? = some b → Op.bytesLess a.toList b.toList = true := by
  intro i j hij hj a b ha hb
  match j, hj, i, hij with
  | 1, _, 0, _ | 2, _, 0, _ | 2, _, 1, _ | 3, _, 0, _ | 3, _, 1, _ | 3, _, 2, _ | 4, _, 0, _ | 4, _, 1, _ | 4, _, 2, _ | 4, _, 3, _ => cases ha; cases hb; decide +kernel
theorem Fed.add {k : Nat} {l : List Att} {a : Att} (h : Fed k l) (hk : k < 5) (hn : nm[k]? = some a.name) (hr : Vl.right a.v = true) (hnum : -9223372036854775808 ≤ a.v.n ∧ a.v.n ≤ 9223372036854775807 ∧ a.v.x < 2 ^ 64) : Fed (k + 1) (l ++ [a]) := by
  refine ⟨by have := h.len; simp; omega, ?_, ?_, ?_, ?_⟩
  · intro x hx
    rcases List.mem_append.1 hx with hx | hx
    · obtain ⟨i, hi, e⟩ := h.names x hx; exact ⟨i, by omega, e⟩
    · rw [List.mem_singleton.1 hx]; exact ⟨k, by omega, hn⟩
  · rw [List.pairwise_append]
    refine ⟨h.rise, by simp, fun x hx y hy => ?_⟩
    rw [List.mem_singleton.1 hy]
    obtain ⟨i, hi, e⟩ := h.names x hx
    exact nm_less i k hi hk _ _ e hn
  · intro x hx
    rcases List.mem_append.1 hx with hx | hx
    · exact h.right x hx
    · rw [List.mem_singleton.1 hx]; exact hr
  · intro x hx
    rcases List.mem_append.1 hx with hx | hx
    · exact h.num x hx
    · rw [List.mem_singleton.1 hx]; exact hnum
end At

abbrev OwnA (B : Nat) (w : World) (v : Value) (l : List Att) : Prop := OwnW 6 B 66 w v l.length (flat l)
abbrev nmrow : Obj := .cells #[.string ⟨#[97]⟩, .string ⟨#[98]⟩, .string ⟨#[99]⟩, .string ⟨#[100]⟩, .string ⟨#[108, 111, 110, 103]⟩] 126 (0, 0)
theorem own_base {B : Nat} {w : World} {v : Value} {l : List Att} (h : OwnA B w v l) : ∀ i, v.ownBlock = some i → B ≤ i := by
  obtain ⟨A, c, rfl, -, -, -, hA, hb, -⟩ := h.reads
  intro i hi
  rw [hb] at hi
  obtain ⟨x, hx, rfl⟩ := Option.map_eq_some_iff.1 hi
  exact (hA x hx).1
theorem own_sub {B C : Nat} {w : World} {v : Value} {l : List Att} (h : OwnA B w v l) (hc : C ≤ B) : OwnA C w v l := by
  refine ⟨⟨h.1.1, ?_⟩, Nat.le_trans hc h.2⟩
  rcases h.1.2 with hn | ⟨g, cap, cur, rfl, hb, hg, rest⟩
  · exact .inl hn
  · exact .inr ⟨g, cap, cur, rfl, Nat.le_trans hc hb, hg, rest⟩
theorem own_apart {B b : Nat} {w : World} {v : Value} {l : List Att} (h : OwnA B w v l) (hb : b < B) : ∀ i, v.ownBlock = some i → ¬ i = b := by
  intro i hi e
  have := own_base h i hi
  omega
theorem own_add {B : Nat} {w : World} {v : Value} {l m : List Att} {n : Nat} (h : OwnW 6 B 66 w v (l.length + n) (flat l ++ flat m)) (hn : m.length = n := by rfl) : OwnA B w v (l ++ m) := by
  unfold OwnA
  rw [List.length_append, hn, flat, List.flatMap_append]
  exact h
theorem new_att (w : World) (a : Att) : Rs 6 (w.alloc (.cells #[.string a.name, .int .i64 a.v.k, .int .i64 a.v.n, .float .f64 a.v.x, .string a.v.s, .bool a.v.b] 66)) (some ⟨w.heap.size, 0, none⟩) 1 (flat [a]) := by
  refine ⟨rfl, .inr ⟨w.heap.size, 0, rfl, fun j u hj => ?_⟩⟩
  rw [World.cell?_alloc_new, Nat.zero_add]
  simpa [flat, Att.cells] using hj
/-- What Feed.Attrs tells. -/
def AttrsPost (B b a : Nat) (w : World) (e : Ending) (w' : World) : Prop :=
  ∃ (v : Value) (l : List Att), e = .returned v ∧ At.Fed 5 l ∧ OwnA w.heap.size w' v l ∧ IsFeed B w' b (a + 15) ∧ Kept (· = b) w w'

set_option maxHeartbeats 4000000 in
theorem feedattrs_any {B b a : Nat} (w : World) (ha : a < 4611686018427386000) (hf : IsFeed B w b a) :
    Calls Tryz.prog 62 #[.pointer (some ⟨b, 0, none⟩)] w (AttrsPost B b a w) := by
  have hlt := hf.lt
  have HF := Lib.hid hf
  clear hf
  go_enter Tryz.func62, Tryz.ntmps62
  go_wp2_with fail
  go_loopw [3, 5] (fun v ii wr => ∃ (k : Nat) (l : List Att), k ≤ 5 ∧ ii = .int .i64 (k : Int) ∧ At.Fed k l ∧ OwnA (w.heap.size + 1) wr v l ∧ IsFeed B wr b (a + 3 * k) ∧ Kept (· = b) w wr ∧ wr.heap[w.heap.size]? = some nmrow) (fun _ ii _ => 5 - (intOf ii).toNat)
  case atStart => exact ⟨0, [], by omega, rfl, At.Fed.nil, OwnW.nil _ _ _ (by simp), HF.out.below (one_new _ _), Kept.alloc _ _ _, heap_alloc_new _ _⟩
  case round =>
    obtain ⟨k, l, hk, rfl, hfed, hO, hF, hK, hR⟩ := hrel
    have HFed := Lib.hid hfed
    have HO := Lib.hid hO
    have HF1 := Lib.hid hF
    have HK := Lib.hid hK
    have HR := Lib.hid hR
    clear hfed hO hF hK hR HF
    by_cases hlt5 : k < 5
    · have q3 : ((k : Int)).tdiv 3 = ((k / 3 : Nat) : Int) := by rw [Int.tdiv_eq_ediv_of_nonneg (by omega)]; rfl
      have hq : k / 3 ≤ 1 := by omega
      generalize k / 3 = kq at q3 hq
      go_wp2_with fail
      refine (next_any (a := a + 3 * k) 3 (by omega) (by omega) _ (by omega) HF1.out).mono ?_
      rintro e w1 ⟨r, hr, rfl, hF2, hK2, hs2⟩
      have HF2 := Lib.hid hF2
      have HK2 := Lib.hid (HK.out.then hK2)
      have HO2 := Lib.hid (HO.out.kept hK2 (own_apart HO.out (by omega)))
      have HR2 := Lib.hid (hK2.row HR.out (by show ¬ w.heap.size = b; omega))
      clear hF2 hK2 HF1 HK HO HR
      have uq : IntKind.i64.wrap ((kq : Nat) : Int) = kq := IntWalk.i64_in _ (by omega)
      by_cases hgt : (kq : Int) < (r : Int)
      · obtain ⟨s, hs, hc⟩ : ∃ s, At.nm[k]? = some s ∧ w1.cell? ⟨w.heap.size, k, none⟩ = some (.string s) := by
          match k, hlt5 with
          | 0, _ => exact ⟨_, rfl, cell_of_row _ _ 0 _ _ _ HR2.out⟩
          | 1, _ => exact ⟨_, rfl, cell_of_row _ _ 1 _ _ _ HR2.out⟩
          | 2, _ => exact ⟨_, rfl, cell_of_row _ _ 2 _ _ _ HR2.out⟩
          | 3, _ => exact ⟨_, rfl, cell_of_row _ _ 3 _ _ _ HR2.out⟩
          | 4, _ => exact ⟨_, rfl, cell_of_row _ _ 4 _ _ _ HR2.out⟩
        have HS := Lib.hid hs
        have hw1 : w.heap.size < w1.heap.size := cell_lt hc
        have hnb : ¬ (w.heap.size = b ∨ w.heap.size + 1 ≤ w.heap.size) := by omega
        have hll := HFed.out.len
        clear hs
        go_wp2_with fail
        refine held_begin (fun z => Kept (fun i => i = b ∨ w.heap.size + 1 ≤ i) w1 z) (by kernel_rfl) ?_
        have hd := drew_below w1
        have HB : Hid (Kept (fun i => i = b ∨ w.heap.size + 1 ≤ i) w1 w1.drew) := Kept.ofBelow hd
        have HF3 := Lib.hid (HF2.out.below hd)
        have HO3 := Lib.hid (HO2.out.later hd)
        have HK3 := Lib.hid (HK2.out.then (Kept.ofBelow hd))
        have HR3 := Lib.hid (below_rowa hd HR2.out)
        clear hd HF2 HO2 HK2 HR2
        generalize w1.drew = wd at HB HF3 HO3 HK3 HR3 ⊢
        refine held_read (i := 0) (o := { dst := some 16, op := Op.move (Operand.tmp 3), type := 27, pos := "hand.go:115", after := #[], guard := none }) (v := ?_) rfl (by kernel_rfl) (by kernel_rfl) (by kernel_rfl) (fun _ _ _ h => h) (by rfl) HB.out ?_ ?_
        rotate_left
        · (intro x hx; have e0 := (hx.cell (p := ⟨w.heap.size, k, none⟩) hw1 hnb).trans hc; go_simp; try with_reducible rfl)
        try simp only [Act.put, List.setIfInBounds_toArray, List.set_cons_zero, List.set_cons_succ]
        refine held_read (i := 1) (o := { dst := some 17, op := Op.move (Operand.tmp 5), type := 3, pos := "hand.go:115", after := #[], guard := none }) (v := ?_) rfl (by kernel_rfl) (by kernel_rfl) (by kernel_rfl) (fun _ _ _ h => h) (by rfl) HB.out ?_ ?_
        rotate_left
        · (intro x hx; have e0 := (hx.cell (p := ⟨w.heap.size, k, none⟩) hw1 hnb).trans hc; go_simp; try with_reducible rfl)
        try simp only [Act.put, List.setIfInBounds_toArray, List.set_cons_zero, List.set_cons_succ]
        refine held_read (i := 2) (o := { dst := some 18, op := Op.indexAddr 126 (Operand.tmp 4) (Operand.tmp 17), type := 0, pos := "hand.go:115", after := #[{ on := 1, ground := Ground.data }], guard := none }) (v := ?_) rfl (by kernel_rfl) (by kernel_rfl) (by kernel_rfl) (fun _ _ _ h => h) (by rfl) HB.out ?_ ?_
        rotate_left
        · (intro x hx; have e0 := (hx.cell (p := ⟨w.heap.size, k, none⟩) hw1 hnb).trans hc; go_simp; try with_reducible rfl)
        try simp only [Act.put, List.setIfInBounds_toArray, List.set_cons_zero, List.set_cons_succ]
        refine held_read (i := 3) (o := { dst := some 19, op := Op.load 9 (Operand.tmp 18), type := 9, pos := "hand.go:115", after := #[{ on := 2, ground := Ground.data }], guard := none }) (v := ?_) rfl (by kernel_rfl) (by kernel_rfl) (by kernel_rfl) (fun _ _ _ h => h) (by rfl) HB.out ?_ ?_
        rotate_left
        · (intro x hx; have e0 := (hx.cell (p := ⟨w.heap.size, k, none⟩) hw1 hnb).trans hc; go_simp; try with_reducible rfl)
        try simp only [Act.put, List.setIfInBounds_toArray, List.set_cons_zero, List.set_cons_succ]
        refine held_read (i := 4) (o := { dst := some 20, op := Op.move (Operand.tmp 0), type := 24, pos := "hand.go:115", after := #[], guard := none }) (v := ?_) rfl (by kernel_rfl) (by kernel_rfl) (by kernel_rfl) (fun _ _ _ h => h) (by rfl) HB.out ?_ ?_
        rotate_left
        · (intro x hx; have e0 := (hx.cell (p := ⟨w.heap.size, k, none⟩) hw1 hnb).trans hc; go_simp; try with_reducible rfl)
        try simp only [Act.put, List.setIfInBounds_toArray, List.set_cons_zero, List.set_cons_succ]
        refine held_call (i := 5) (o := { dst := some 21, op := Op.call { callee := Callee.value (Operand.func 98), args := #[Operand.tmp 20], argTypes := #[24] }, type := 64, pos := "hand.go:115", after := #[{ on := 4, ground := Ground.data }], guard := none }) rfl (by kernel_rfl) (by rfl) (fun K hK => ?_)
        go_simp
        refine (feedvalue_any _ (by omega) HF3.out).mono ?_
        rintro e w3 ⟨vk, vn, vx, vs, vb, hv1, hv2, hv3, hv4, rfl, hF4, hK4⟩
        replace HB := Lib.hid (HB.out.then (hK4.mono (fun i _ h => .inl h)))
        have HO4 := Lib.hid (HO3.out.kept hK4 (own_apart HO3.out (by omega)))
        have HK4 := Lib.hid (HK3.out.then hK4)
        have HR4 := Lib.hid (hK4.row HR3.out (by show ¬ w.heap.size = b; omega))
        have HF4 := Lib.hid hF4
        have HV := Lib.hid hv4
        refine hK.out _ _ HB.out ?_
        clear hK K hF4 hK4 hv4 HF3 HO3 HK3 HR3
        try simp only [Act.put, List.setIfInBounds_toArray, List.set_cons_zero, List.set_cons_succ]
        refine held_read (i := 6) (o := { dst := some 22, op := Op.build 66 #[(0, Operand.tmp 19), (1, Operand.tmp 21)], type := 66, pos := "hand.go:115", after := #[{ on := 3, ground := Ground.data }, { on := 5, ground := Ground.data }], guard := none }) (v := ?_) rfl (by kernel_rfl) (by kernel_rfl) (by kernel_rfl) (fun _ _ _ h => h) (by rfl) HB.out ?_ ?_
        rotate_left
        · (intro x hx; have e0 := (hx.cell (p := ⟨w.heap.size, k, none⟩) hw1 hnb).trans hc; go_simp; try with_reducible rfl)
        try simp only [Act.put, List.setIfInBounds_toArray, List.set_cons_zero, List.set_cons_succ]
        refine held_call (i := 7) (o := { dst := some 23, op := Op.buildSlice 27 1 #[(0, Operand.tmp 22)], type := 27, pos := "hand.go:115", after := #[{ on := 6, ground := Ground.data }], guard := none }) rfl (by kernel_rfl) (by rfl) (fun K hK => ?_)
        go_simp
        have hn := one_new w3 (.cells #[.string s, .int .i64 vk, .int .i64 vn, .float .f64 vx, .string vs, .bool vb] 66)
        replace HB := Lib.hid (HB.out.then (Kept.ofBelow hn))
        refine hK.out _ _ HB.out ?_
        have HO5 := Lib.hid (HO4.out.later hn)
        have HK5 := Lib.hid (HK4.out.then (Kept.ofBelow hn))
        have HR5 := Lib.hid (below_rowa hn HR4.out)
        have HF5 := Lib.hid (HF4.out.below hn)
        have HN := Lib.hid (new_att w3 ⟨s, ⟨vk, vn, vx, vs, vb⟩⟩)
        clear hn hK K HF4 HO4 HK4 HR4
        generalize w3.alloc (.cells #[.string s, .int .i64 vk, .int .i64 vn, .float .f64 vx, .string vs, .bool vb] 66) = w4 at HB HO5 HK5 HR5 HF5 HN ⊢
        try simp only [Act.put, List.setIfInBounds_toArray, List.set_cons_zero, List.set_cons_succ]
        refine held_call (i := 8) (o := { dst := some 24, op := Op.call { callee := Callee.builtin Builtin.append, args := #[Operand.tmp 16, Operand.tmp 23], argTypes := #[27, 27] }, type := 27, pos := "hand.go:115", after := #[{ on := 0, ground := Ground.data }, { on := 7, ground := Ground.data }, { on := 5, ground := Ground.chain }], guard := none }) rfl (by kernel_rfl) (by rfl) (fun K hK => ?_)
        refine step_ownw (k := 6) _ _ 27 rfl Tryz.underlying27 att_info rfl (by decide) (w.heap.size + 1) _ _ _ rfl HO5.out _ 1 1 rfl (fun h => by cases h) (flat [⟨s, ⟨vk, vn, vx, vs, vb⟩⟩]) HN.out (flat_one _) (by omega) (by decide) ?_
        intro v6 w6 hO6 hK6
        have hap := own_apart (b := b) HO5.out (by omega)
        have hbelow := own_base HO5.out
        replace HB := Lib.hid (HB.out.then (hK6.mono (fun i _ h => .inr (hbelow i h))))
        refine hK.out _ _ HB.out ?_
        have HO6 := Lib.hid hO6
        have HK6 := Lib.hid (HK5.out.trans hK6 (fun i hi h => absurd (hbelow i h) (by omega)))
        have HR6 := Lib.hid (hK6.row HR5.out (fun h => absurd (hbelow _ h) (by omega)))
        have HF6 := Lib.hid (HF5.out.kept hK6 (fun h => hap _ h rfl) (fun i hi h => absurd (hbelow i h) (by have := HF5.out.1; omega)))
        clear hO6 hK6 hK K HF5 HO5 HK5 HR5 HN hap hbelow
        try simp only [Act.put, List.setIfInBounds_toArray, List.set_cons_zero, List.set_cons_succ]
        refine held_read (i := 9) (o := { dst := some 3, op := Op.assign (Operand.tmp 24), type := 27, pos := "hand.go:115", after := #[{ on := 8, ground := Ground.data }, { on := 8, ground := Ground.chain }, { on := 0, ground := Ground.phase }, { on := 1, ground := Ground.phase }, { on := 2, ground := Ground.phase }, { on := 3, ground := Ground.phase }, { on := 4, ground := Ground.phase }, { on := 5, ground := Ground.phase }, { on := 6, ground := Ground.phase }, { on := 7, ground := Ground.phase }, { on := 8, ground := Ground.phase }], guard := none }) (v := ?_) rfl (by kernel_rfl) (by kernel_rfl) (by kernel_rfl) (fun _ _ _ h => h) (by rfl) HB.out ?_ ?_
        rotate_left
        · (intro x hx; have e0 := (hx.cell (p := ⟨w.heap.size, k, none⟩) hw1 hnb).trans hc; go_simp; try with_reducible rfl)
        try simp only [Act.put, List.setIfInBounds_toArray, List.set_cons_zero, List.set_cons_succ]
        refine wpAnyH_done (by kernel_rfl) ?_ _
        go_wp2_with fail
        exact ⟨⟨k + 1, l ++ [⟨s, ⟨vk, vn, vx, vs, vb⟩⟩], by omega, rfl, HFed.out.add hlt5 HS.out HV.out ⟨hv1, hv2, hv3⟩, own_add HO6.out, HF6.out.more (by omega), HK6.out, HR6.out⟩, by simp [intOf]; omega⟩
      · go_wp2_with fail
        exact ⟨⟨k + 1, l, by omega, rfl, HFed.out.skip, HO2.out, HF2.out.more (by omega), HK2.out, HR2.out⟩, by simp [intOf]; omega⟩
    · obtain rfl : k = 5 := by omega
      go_wp2_with fail
      go_ret
      exact ⟨_, l, rfl, HFed.out, own_sub HO.out (by omega), HF1.out, HK.out⟩
end Go.Proofs.YtgenmebmdpnjhaaGreat

namespace Go.Proofs.YtgenmebmdpnjhaaGreat
open Go.RowKit
set_option linter.unusedVariables false

namespace Fi
def impliedT (p : Prd) (g : List Prd) : Bool := g.any fun q => (q.name.toList == p.name.toList) && Pd.implies q p
def voidT (g : List Prd) : Bool := g.any fun q => Pd.right q && Pd.void q
def coversT (f g : List Prd) : Bool := voidT g || f.all fun p => impliedT p g
def takesT (f : List Prd) (a : List Att) : Bool := f.all (takes1 a)
def sameT : List Prd → List Prd → Bool
  | [], [] => true
  | a :: l, b :: m => Pd.same a b && sameT l m
  | _, _ => false
def rightTAt (f : List Prd) (k : Nat) : Bool := match f[k]? with
  | none => false
  | some x => Pd.right x && (match k with
    | 0 => true
    | j + 1 => match f[j]? with
      | none => false
      | some y => !Op.bytesLess x.name.toList y.name.toList)
def rightT (f : List Prd) : Bool := decide (f.length ≤ 3) && (List.range f.length).all (rightTAt f)
def anyT (L : List (List Prd)) (a : List Att) : Bool := L.any fun f => takesT f a
def stepT (row : List (List Prd)) (f : List Prd) : List (List Prd) := if row.any (fun g => coversT g f) then row else row.filter (fun g => !coversT f g) ++ [f]
def reduceT (L : List (List Prd)) : List (List Prd) := L.foldl stepT []
theorem implied_t (p : Prd) (g : List Pt) : implied p g = impliedT p (g.map (·.p)) := by unfold implied impliedT; rw [List.any_map]; rfl
theorem void_t (g : List Pt) : void g = voidT (g.map (·.p)) := by unfold void voidT; rw [List.any_map]; rfl
theorem covers_t (f g : List Pt) : covers f g = coversT (f.map (·.p)) (g.map (·.p)) := by
  unfold covers coversT
  rw [void_t, List.all_map]
  congr 1
  congr 1
  funext p
  exact implied_t p.p g
theorem takes_t (f : List Pt) (a : List Att) : takes f a = takesT (f.map (·.p)) a := by unfold takes takesT; rw [List.all_map]; rfl
theorem same_t : ∀ (f g : List Pt), same f g = sameT (f.map (·.p)) (g.map (·.p))
  | [], [] => rfl
  | a :: l, b :: m => by simp only [same, List.map_cons, sameT]; rw [same_t l m]
  | [], _ :: _ => rfl
  | _ :: _, [] => rfl
theorem rightAt_t (f : List Pt) (k : Nat) : rightAt f k = rightTAt (f.map (·.p)) k := by
  unfold rightAt rightTAt
  rw [List.getElem?_map]
  cases f[k]? with
  | none => rfl
  | some x =>
    cases k with
    | zero => rfl
    | succ j =>
      simp only [Option.map_some, List.getElem?_map]
      cases f[j]? <;> rfl
theorem right_t (f : List Pt) : right f = rightT (f.map (·.p)) := by
  unfold right rightT
  rw [List.length_map]
  congr 1
  congr 1
  funext k
  exact rightAt_t f k
theorem any_t (L : List Ft) (a : List Att) : any L a = anyT (L.map tests) a := by
  unfold any anyT
  rw [List.any_map]
  congr 1
  funext f
  exact takes_t f.l a
theorem step_t (row : List Ft) (f : Ft) : (step row f).map tests = stepT (row.map tests) (tests f) := by
  unfold step stepT covered
  rw [List.any_map]
  have e : (row.any fun g => covers g.l f.l) = row.any ((fun g => coversT g (tests f)) ∘ tests) := by
    congr 1
    funext g
    exact covers_t g.l f.l
  rw [e]
  split
  · rfl
  · rw [List.map_append, List.filter_map]
    congr 2
    congr 1
    funext g
    show stays f g = !coversT (tests f) (tests g)
    unfold stays
    rw [covers_t]
    rfl
theorem fold_t : ∀ (L row : List Ft), (L.foldl step row).map tests = (L.map tests).foldl stepT (row.map tests)
  | [], row => rfl
  | f :: L, row => by simp only [List.foldl_cons, List.map_cons]; rw [fold_t L, step_t]
theorem reduce_t (L : List Ft) : (reduce L).map tests = reduceT (L.map tests) := fold_t L []
end Fi
/-- A filter of such tests, as memory holds it. -/
structure Is (w : World) (f : Ft) (ts : List Prd) : Prop where
  is : IsFt w f
  ts : Fi.tests f = ts
theorem Is.later {w w' : World} {f : Ft} {ts : List Prd} (h : Is w f ts) (k : Below w.heap.size w w') : Is w' f ts := ⟨h.is.later k, h.ts⟩
theorem Is.len {w : World} {f : Ft} {ts : List Prd} (h : Is w f ts) : f.l.length = ts.length := by rw [← h.ts]; simp [Fi.tests]
abbrev nilf : Ft := ⟨none, 0, []⟩
theorem is_nil (w : World) : Is w nilf [] := ⟨⟨⟨Rs.nil _ _ _, by simp, by simp⟩, fun _ => ⟨rfl, rfl⟩⟩, rfl⟩

theorem same_is {w : World} {f g : Ft} {l m : List Prd} {b : Bool} (hf : Is w f l) (hg : Is w g m) (hb : Fi.sameT l m = b) : Calls Tryz.prog 75 #[.slice f.A f.l.length f.c, .slice g.A g.l.length g.c] w fun e w' => e = .returned (.bool b) ∧ Below w.heap.size w w' := by
  have := fsame_any (c := f.c) (c' := g.c) hf.is.ps hg.is.ps
  rw [Fi.same_t] at this
  rw [← hb, ← hf.ts, ← hg.ts]
  exact this
theorem right_is {w : World} {f : Ft} {l : List Prd} {b : Bool} (hf : Is w f l) (hb : Fi.rightT l = b) : Calls Tryz.prog 99 #[.slice f.A f.l.length f.c] w fun e w' => e = .returned (.bool b) ∧ Below w.heap.size w w' := by
  have := fright_any (c := f.c) hf.is.ps
  rw [Fi.right_t] at this
  rw [← hb, ← hf.ts]
  exact this
/-- An own row of filters, its tests fine: how it reads. -/
theorem RowPost.fs {w w' : World} {e : Ending} {ts : List (List Prd)} (h : RowPost ts w e w') (hf : ∀ t, t ∈ ts → ∀ p, p ∈ t → Pd.Fits p) (hn : ts.length ≤ 900) : ∃ (A : Option Addr) (c : Nat) (M : List Ft), e = .returned (.slice A M.length c) ∧ M.map Fi.tests = ts ∧ Fs w' A M.length M ∧ (∀ f, f ∈ M → Owned w.heap.size w' f) ∧ OwnF w.heap.size w' (.slice A M.length c) M ∧ Below w.heap.size w w' := by
  obtain ⟨v, M, rfl, hm, ho, he, hb⟩ := h
  obtain ⟨A, c, rfl, -, -, hr, -, -, -⟩ := ho.reads
  have hlen : M.length = ts.length := by rw [← hm]; simp
  exact ⟨A, c, M, rfl, hm, ⟨hr, fun f hf' => (he f hf').is (hf _ (by rw [← hm]; exact List.mem_map_of_mem hf')), by omega⟩, he, ho, hb⟩
/-- The test of 'more'. -/
abbrev Pd.moreT (nm : ByteArray) (n : Int) : Prd := ⟨nm, 6, ⟨1, n, 0, ⟨#[]⟩, false⟩, ⟨0, 0, 0, ⟨#[]⟩, false⟩, []⟩
theorem Pd.more_fits {nm : ByteArray} {n : Int} (h : nm.size ≤ 9223372036854775807) (h1 : -9223372036854775808 ≤ n) (h2 : n ≤ 9223372036854775807) : Pd.Fits (Pd.moreT nm n) := ⟨h, ⟨h1, h2, by show (0 : Nat) ≤ 9223372036854775807; omega⟩, Pd.small0.fit, by simp⟩
/-- A filter of one test, just made of a block. -/
theorem one_owned (w : World) (x : Pt) (hs : ∀ B : Nat, B ≤ w.heap.size → OwnS B (w.alloc x.box) x) : Owned w.heap.size (w.alloc x.box) ⟨some ⟨w.heap.size, 0, none⟩, 1, [x]⟩ := by
  refine ⟨OwnW.of_row (k := 13) (n := 1) (xs := pflat [x]) (Nat.le_refl _) (heap_alloc_new _ _) rfl (by unfold maxLen; omega), fun y hy => ?_⟩
  rw [List.mem_singleton.1 hy]
  exact hs _ (Nat.le_refl _)
end Go.Proofs.YtgenmebmdpnjhaaGreat

namespace Go.Proofs.YtgenmebmdpnjhaaGreat
open Go.RowKit

namespace At
/-- Words as names, right values, rising, at most five. -/
structure Good (l : List Att) : Prop where
  len : l.length ≤ 5
  each : ∀ a, a ∈ l → word a.name = true ∧ Vl.right a.v = true
  rise : l.Pairwise less
theorem Good.sub {l m : List Att} (h : Good l) (s : m.Sublist l) : Good m :=
  ⟨Nat.le_trans s.length_le h.len, fun a ha => h.each a (s.subset ha), h.rise.sublist s⟩
theorem ok_of : ∀ (l : List Att) (p : Option ByteArray), (∀ a, a ∈ l → word a.name = true ∧ Vl.right a.v = true) → l.Pairwise less → (∀ a, a ∈ l → above p a.name = true) → okFrom p l = true
  | [], _, _, _, _ => rfl
  | a :: l, p, he, hr, hp => by
    rw [okFrom, (he a (by simp)).1, (he a (by simp)).2, hp a (by simp)]
    simp only [Bool.true_and, Bool.and_self]
    rw [List.pairwise_cons] at hr
    exact ok_of l _ (fun x hx => he x (by simp [hx])) hr.2 (fun x hx => hr.1 x hx)
theorem Good.right {l : List Att} (h : Good l) : At.right l = true := by
  unfold At.right
  rw [decide_eq_true h.len, ok_of l none h.each h.rise (fun _ _ => rfl)]
  rfl
theorem nm_word : ∀ s, s ∈ nm → word s = true := by
  intro s hs
  simp only [nm, List.mem_cons, List.not_mem_nil, or_false] at hs
  rcases hs with rfl | rfl | rfl | rfl | rfl <;> decide +kernel
theorem Fed.mem {k : Nat} {l : List Att} (h : Fed k l) {a : Att} (ha : a ∈ l) : a.name ∈ nm := by
  obtain ⟨i, _, e⟩ := h.names a ha
  exact List.mem_of_getElem? e
theorem Fed.good {l : List Att} (h : Fed 5 l) : Good l := ⟨h.len, fun a ha => ⟨nm_word _ (h.mem ha), h.right a ha⟩, h.rise⟩
theorem less_ne {a b : Att} (h : less a b) : (a.name.toList == b.name.toList) = false := by
  rw [beq_eq_false_iff_ne]
  intro e
  unfold less at h
  rw [e, Vl.less_irrefl] at h
  cases h
theorem find_own : ∀ (l : List Att) (i : Nat) (a : Att), l.Pairwise less → l[i]? = some a → find l a.name = some a
  | [], _, _, _, h => by simp at h
  | b :: l, 0, a, _, h => by
    simp at h; subst h
    simp [find]
  | b :: l, i + 1, a, hr, h => by
    rw [List.pairwise_cons] at hr
    have hm : l[i]? = some a := by simpa using h
    rw [find, List.find?_cons, less_ne (hr.1 a (List.mem_of_getElem? hm))]
    exact find_own l i a hr.2 hm
theorem find_no {l : List Att} {s : ByteArray} (h : ∀ a, a ∈ l → (a.name.toList == s.toList) = false) : find l s = none := by
  rw [find, List.find?_eq_none]
  intro a ha
  rw [h a ha]
  simp
theorem Fed.nobody {k : Nat} {l : List Att} (h : Fed k l) : find l ⟨#[110, 111, 98, 111, 100, 121]⟩ = none := by
  refine find_no fun a ha => ?_
  have := h.mem ha
  simp only [nm, List.mem_cons, List.not_mem_nil, or_false] at this
  rcases this with e | e | e | e | e <;> rw [e] <;> decide +kernel
/-- All but the one at k. -/
def but (l : List Att) (k : Nat) : List Att := l.take k ++ l.drop (k + 1)
theorem but_sub (l : List Att) (k : Nat) : (but l k).Sublist l := by
  have := (List.Sublist.refl (l.take k)).append (List.drop_sublist 1 (l.drop k))
  rw [List.take_append_drop, List.drop_drop] at this
  exact this
theorem but_len {l : List Att} {k : Nat} (h : k < l.length) : (but l k).length + 1 = l.length := by
  unfold but
  rw [List.length_append, List.length_take, List.length_drop]
  omega
theorem but_gone {l : List Att} {k : Nat} {a : Att} (hr : l.Pairwise less) (h : l[k]? = some a) : find (but l k) a.name = none := by
  have e : l = l.take k ++ a :: l.drop (k + 1) := by rw [← drop_at h, List.take_append_drop]
  rw [e, List.pairwise_append, List.pairwise_cons] at hr
  refine find_no fun b hb => ?_
  rcases List.mem_append.1 hb with hb | hb
  · exact less_ne (hr.2.2 b hb a (by simp))
  · have := less_ne (hr.2.1.1 b hb)
    rw [beq_eq_false_iff_ne] at this ⊢
    exact fun e => this e.symm
theorem same_refl : ∀ l : List Att, same l l = true
  | [] => rfl
  | a :: l => by rw [same, one, same_refl l, Vl.same_self]; simp
end At

/-- A beginning of a row. -/
theorem Rs.take {A : Option Addr} {n k : Nat} {w : World} {l : List Att} (h : Rs 6 w A n (flat l)) (hk : k ≤ l.length) : Rs 6 w A k (flat (l.take k)) := by
  refine ⟨by rw [flat_len _ Att.cells_len, List.length_take, Nat.min_eq_left hk], ?_⟩
  rcases h.2 with h0 | ⟨g, o, rfl, hc⟩
  · left
    have hl : (flat l).length = 0 := by rw [h0]; rfl
    rw [flat_len _ Att.cells_len] at hl
    rw [List.eq_nil_of_length_eq_zero (l := l) (by omega)]
    simp
  · refine .inr ⟨g, o, rfl, fun j u hj => hc j u ?_⟩
    have e := flat_take Att.cells Att.cells_len l k
    unfold flat at hj ⊢
    rw [← e, List.getElem?_take] at hj
    split at hj
    · exact hj
    · cases hj
/-- What is behind. -/
theorem Rs.drop {g o : Nat} {n k : Nat} {w : World} {l : List Att} (h : Rs 6 w (some ⟨g, o, none⟩) n (flat l)) (hk : k ≤ l.length) : Rs 6 w (some ⟨g, o + k * 6, none⟩) (l.length - k) (flat (l.drop k)) := by
  refine ⟨by rw [flat_len _ Att.cells_len, List.length_drop], ?_⟩
  rcases h.2 with h0 | ⟨g', o', e, hc⟩
  · left
    have hl : (flat l).length = 0 := by rw [h0]; rfl
    rw [flat_len _ Att.cells_len] at hl
    rw [List.eq_nil_of_length_eq_zero (l := l) (by omega)]
    simp
  · cases e
    refine .inr ⟨g, o + k * 6, rfl, fun j u hj => ?_⟩
    have hs : flat l = flat (l.take k) ++ flat (l.drop k) := by unfold flat; rw [← List.flatMap_append, List.take_append_drop]
    have hl : (flat (l.take k)).length = k * 6 := by rw [flat_len _ Att.cells_len, List.length_take, Nat.min_eq_left hk]
    have := hc (k * 6 + j) u (by rw [hs, List.getElem?_append_right (by omega), hl, Nat.add_sub_cancel_left]; exact hj)
    rw [← Nat.add_assoc] at this
    exact this
/-- What is behind, as the model cuts it: where no room is left the address stays. -/
theorem Rs.drop' {g o : Nat} {n k c : Nat} {w : World} {l : List Att} (h : Rs 6 w (some ⟨g, o, none⟩) n (flat l)) (hk : k ≤ l.length) (hc : l.length ≤ c) : Rs 6 w (if c = k then some ⟨g, o, none⟩ else some ⟨g, o + k * 6, none⟩) (l.length - k) (flat (l.drop k)) := by
  split
  · rw [List.drop_eq_nil_of_le (by omega), show l.length - k = 0 by omega]
    exact Rs.nil _ _ _
  · exact h.drop hk
theorem OwnW.ats {B n : Nat} {w : World} {A : Option Addr} {c : Nat} {l : List Att} (h : OwnW 6 B 66 w (.slice A n c) n (flat l)) (hz : ∀ a, a ∈ l → a.name.size ≤ 9223372036854775807) : Ats w A n l := by
  obtain ⟨A', c', e, h1, h2, h3, -⟩ := h.reads
  cases e
  exact ⟨h3, hz, by unfold maxLen at h2; omega⟩
theorem At.Fed.small {k : Nat} {l : List Att} (h : At.Fed k l) : ∀ a, a ∈ l → a.name.size ≤ 9223372036854775807 := by
  intro a ha
  have := h.mem ha
  simp only [At.nm, List.mem_cons, List.not_mem_nil, or_false] at this
  rcases this with e | e | e | e | e <;> rw [e] <;> decide
end Go.Proofs.YtgenmebmdpnjhaaGreat
