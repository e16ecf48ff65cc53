
/- Feed.Attrs: some right attributes, in memory of their own. -/
import Derived.Test.YtfbfbajccphkoaaGreatAttSame
import Derived.Test.YtfbfbajccphkoaaGreatAttRight
import Derived.Test.YtfbfbajccphkoaaGreatBase
import Derived.Test.YtfbfbajccphkoaaGreatVlKeys
namespace Go.Proofs.YtfbfbajccphkoaaGreat
open Go.RowKit

namespace At
/-- The names that a Feed gives. -/
def nm : List ByteArray := [⟨#[97]⟩, ⟨#[98]⟩, ⟨#[99]⟩, ⟨#[100]⟩, ⟨#[108, 111, 110, 103]⟩]
def less (a b : Att) : Prop := Op.bytesLess a.name.toList b.name.toList = true
/-- Such attributes as the first k names give. -/
structure Fed (k : Nat) (l : List Att) : Prop where
  len : l.length ≤ k
  names : ∀ a, a ∈ l → ∃ i, i < k ∧ nm[i]? = some a.name
  rise : l.Pairwise less
  right : ∀ a, a ∈ l → Vl.right a.v = true
  num : ∀ a, a ∈ l → -9223372036854775808 ≤ a.v.n ∧ a.v.n ≤ 9223372036854775807 ∧ a.v.x < 2 ^ 64
theorem Fed.nil : Fed 0 [] := ⟨by simp, by simp, by simp, by simp, by simp⟩
theorem Fed.skip {k : Nat} {l : List Att} (h : Fed k l) : Fed (k + 1) l := ⟨by have := h.len; omega, fun a ha => by obtain ⟨i, hi, e⟩ := h.names a ha; exact ⟨i, by omega, e⟩, h.rise, h.right, h.num⟩
theorem nm_less : ∀ i j : Nat, i < j → j < 5 → ∀ a b, nm[i]? = some a → nm[j]? = some b → Op.bytesLess a.toList b.toList = true := by
  intro i j hij hj a b ha hb
  match j, hj, i, hij with
  | 1, _, 0, _ | 2, _, 0, _ | 2, _, 1, _ | 3, _, 0, _ | 3, _, 1, _ | 3, _, 2, _ | 4, _, 0, _ | 4, _, 1, _ | 4, _, 2, _ | 4, _, 3, _ => cases ha; cases hb; decide +kernel
theorem Fed.add {k : Nat} {l : List Att} {a : Att} (h : Fed k l) (hk : k < 5) (hn : nm[k]? = some a.name) (hr : Vl.right a.v = true) (hnum : -9223372036854775808 ≤ a.v.n ∧ a.v.n ≤ 9223372036854775807 ∧ a.v.x < 2 ^ 64) : Fed (k + 1) (l ++ [a]) := by
  refine ⟨by have := h.len; simp; omega, ?_, ?_, ?_, ?_⟩
  · intro x hx
    rcases List.mem_append.1 hx with hx | hx
    · obtain ⟨i, hi, e⟩ := h.names x hx; exact ⟨i, by omega, e⟩
    · rw [List.mem_singleton.1 hx]; exact ⟨k, by omega, hn⟩
  · rw [List.pairwise_append]
    refine ⟨h.rise, by simp, fun x hx y hy => ?_⟩
    rw [List.mem_singleton.1 hy]
    obtain ⟨i, hi, e⟩ := h.names x hx
    exact nm_less i k hi hk _ _ e hn
  · intro x hx
    rcases List.mem_append.1 hx with hx | hx
    · exact h.right x hx
    · rw [List.mem_singleton.1 hx]; exact hr
  · intro x hx
    rcases List.mem_append.1 hx with hx | hx
    · exact h.num x hx
    · rw [List.mem_singleton.1 hx]; exact hnum
end At

abbrev OwnA (B : Nat) (w : World) (v : Value) (l : List Att) : Prop := OwnW 6 B 54 w v l.length (flat l)
abbrev nmrow : Obj := .cells #[.string ⟨#[97]⟩, .string ⟨#[98]⟩, .string ⟨#[99]⟩, .string ⟨#[100]⟩, .string ⟨#[108, 111, 110, 103]⟩] 51 (0, 0)
theorem own_base {B : Nat} {w : World} {v : Value} {l : List Att} (h : OwnA B w v l) : ∀ i, v.ownBlock = some i → B ≤ i := by
  obtain ⟨A, c, rfl, -, -, -, hA, hb, -⟩ := h.reads
  intro i hi
  rw [hb] at hi
  obtain ⟨x, hx, rfl⟩ := Option.map_eq_some_iff.1 hi
  exact (hA x hx).1
theorem own_sub {B C : Nat} {w : World} {v : Value} {l : List Att} (h : OwnA B w v l) (hc : C ≤ B) : OwnA C w v l := by
  refine ⟨⟨h.1.1, ?_⟩, Nat.le_trans hc h.2⟩
  rcases h.1.2 with hn | ⟨g, cap, cur, rfl, hb, hg, rest⟩
  · exact .inl hn
  · exact .inr ⟨g, cap, cur, rfl, Nat.le_trans hc hb, hg, rest⟩
theorem own_apart {B b : Nat} {w : World} {v : Value} {l : List Att} (h : OwnA B w v l) (hb : b < B) : ∀ i, v.ownBlock = some i → ¬ i = b := by
  intro i hi e
  have := own_base h i hi
  omega
theorem own_add {B : Nat} {w : World} {v : Value} {l m : List Att} {n : Nat} (h : OwnW 6 B 54 w v (l.length + n) (flat l ++ flat m)) (hn : m.length = n := by rfl) : OwnA B w v (l ++ m) := by
  unfold OwnA
  rw [List.length_append, hn, flat, List.flatMap_append]
  exact h
theorem new_att (w : World) (a : Att) : Rs 6 (w.alloc (.cells #[.string a.name, .int .i64 a.v.k, .int .i64 a.v.n, .float .f64 a.v.x, .string a.v.s, .bool a.v.b] 54)) (some ⟨w.heap.size, 0, none⟩) 1 (flat [a]) := by
  refine ⟨rfl, .inr ⟨w.heap.size, 0, rfl, fun j u hj => ?_⟩⟩
  rw [World.cell?_alloc_new, Nat.zero_add]
  simpa [flat, Att.cells] using hj
/-- What Feed.Attrs tells. -/
def AttrsPost (B b a : Nat) (w : World) (e : Ending) (w' : World) : Prop :=
  ∃ (v : Value) (l : List Att), e = .returned v ∧ At.Fed 5 l ∧ OwnA w.heap.size w' v l ∧ IsFeed B w' b (a + 15) ∧ Kept (· = b) w w'

set_option maxHeartbeats 4000000 in
theorem feedattrs_any {B b a : Nat} (w : World) (ha : a < 4611686018427386000) (hf : IsFeed B w b a) :
    Calls Tryz.prog 7 #[.pointer (some ⟨b, 0, none⟩)] w (AttrsPost B b a w) := by
  have hlt := hf.lt
  have HF := Lib.hid hf
  clear hf
  go_enter Tryz.func7, Tryz.ntmps7
  go_wp2_with fail
  go_loopw [3, 5] (fun v ii wr => ∃ (k : Nat) (l : List Att), k ≤ 5 ∧ ii = .int .i64 (k : Int) ∧ At.Fed k l ∧ OwnA (w.heap.size + 1) wr v l ∧ IsFeed B wr b (a + 3 * k) ∧ Kept (· = b) w wr ∧ wr.heap[w.heap.size]? = some nmrow) (fun _ ii _ => 5 - (intOf ii).toNat)
  case atStart => exact ⟨0, [], by omega, rfl, At.Fed.nil, OwnW.nil _ _ _ (by simp), HF.out.below (one_new _ _), Kept.alloc _ _ _, heap_alloc_new _ _⟩
  case round =>
    obtain ⟨k, l, hk, rfl, hfed, hO, hF, hK, hR⟩ := hrel
    have HFed := Lib.hid hfed
    have HO := Lib.hid hO
    have HF1 := Lib.hid hF
    have HK := Lib.hid hK
    have HR := Lib.hid hR
    clear hfed hO hF hK hR HF
    by_cases hlt5 : k < 5
    · have q3 : ((k : Int)).tdiv 3 = ((k / 3 : Nat) : Int) := by rw [Int.tdiv_eq_ediv_of_nonneg (by omega)]; rfl
      have hq : k / 3 ≤ 1 := by omega
      generalize k / 3 = kq at q3 hq
      go_wp2_with fail
      refine (next_any (a := a + 3 * k) 3 (by omega) (by omega) _ (by omega) HF1.out).mono ?_
      rintro e w1 ⟨r, hr, rfl, hF2, hK2, hs2⟩
      have HF2 := Lib.hid hF2
      have HK2 := Lib.hid (HK.out.then hK2)
      have HO2 := Lib.hid (HO.out.kept hK2 (own_apart HO.out (by omega)))
      have HR2 := Lib.hid (hK2.row HR.out (by show ¬ w.heap.size = b; omega))
      clear hF2 hK2 HF1 HK HO HR
      have uq : IntKind.i64.wrap ((kq : Nat) : Int) = kq := IntWalk.i64_in _ (by omega)
      by_cases hgt : (kq : Int) < (r : Int)
      · obtain ⟨s, hs, hc⟩ : ∃ s, At.nm[k]? = some s ∧ w1.cell? ⟨w.heap.size, k, none⟩ = some (.string s) := by
          match k, hlt5 with
          | 0, _ => exact ⟨_, rfl, cell_of_row _ _ 0 _ _ _ HR2.out⟩
          | 1, _ => exact ⟨_, rfl, cell_of_row _ _ 1 _ _ _ HR2.out⟩
          | 2, _ => exact ⟨_, rfl, cell_of_row _ _ 2 _ _ _ HR2.out⟩
          | 3, _ => exact ⟨_, rfl, cell_of_row _ _ 3 _ _ _ HR2.out⟩
          | 4, _ => exact ⟨_, rfl, cell_of_row _ _ 4 _ _ _ HR2.out⟩
        have HS := Lib.hid hs
        have hw1 : w.heap.size < w1.heap.size := cell_lt hc
        have hnb : ¬ (w.heap.size = b ∨ w.heap.size + 1 ≤ w.heap.size) := by omega
        have hll := HFed.out.len
        clear hs
        go_wp2_with fail
        refine held_begin (fun z => Kept (fun i => i = b ∨ w.heap.size + 1 ≤ i) w1 z) (by kernel_rfl) ?_
        have hd := drew_below w1
        have HB : Hid (Kept (fun i => i = b ∨ w.heap.size + 1 ≤ i) w1 w1.drew) := Kept.ofBelow hd
        have HF3 := Lib.hid (HF2.out.below hd)
        have HO3 := Lib.hid (HO2.out.later hd)
        have HK3 := Lib.hid (HK2.out.then (Kept.ofBelow hd))
        have HR3 := Lib.hid (below_rowa hd HR2.out)
        clear hd HF2 HO2 HK2 HR2
        generalize w1.drew = wd at HB HF3 HO3 HK3 HR3 ⊢
        refine held_read (i := 0) (o := { dst := some 16, op := Op.move (Operand.tmp 3), type := 23, pos := "hand.go:115", after := #[], guard := none }) (v := ?_) rfl (by kernel_rfl) (by kernel_rfl) (by kernel_rfl) (fun _ _ _ h => h) (by rfl) HB.out ?_ ?_
        rotate_left
        · (intro x hx; have e0 := (hx.cell (p := ⟨w.heap.size, k, none⟩) hw1 hnb).trans hc; go_simp; try with_reducible rfl)
        try simp only [Act.put, List.setIfInBounds_toArray, List.set_cons_zero, List.set_cons_succ]
        refine held_read (i := 1) (o := { dst := some 17, op := Op.move (Operand.tmp 5), type := 3, pos := "hand.go:115", after := #[], guard := none }) (v := ?_) rfl (by kernel_rfl) (by kernel_rfl) (by kernel_rfl) (fun _ _ _ h => h) (by rfl) HB.out ?_ ?_
        rotate_left
        · (intro x hx; have e0 := (hx.cell (p := ⟨w.heap.size, k, none⟩) hw1 hnb).trans hc; go_simp; try with_reducible rfl)
        try simp only [Act.put, List.setIfInBounds_toArray, List.set_cons_zero, List.set_cons_succ]
        refine held_read (i := 2) (o := { dst := some 18, op := Op.indexAddr 51 (Operand.tmp 4) (Operand.tmp 17), type := 0, pos := "hand.go:115", after := #[{ on := 1, ground := Ground.data }], guard := none }) (v := ?_) rfl (by kernel_rfl) (by kernel_rfl) (by kernel_rfl) (fun _ _ _ h => h) (by rfl) HB.out ?_ ?_
        rotate_left
        · (intro x hx; have e0 := (hx.cell (p := ⟨w.heap.size, k, none⟩) hw1 hnb).trans hc; go_simp; try with_reducible rfl)
        try simp only [Act.put, List.setIfInBounds_toArray, List.set_cons_zero, List.set_cons_succ]
        refine held_read (i := 3) (o := { dst := some 19, op := Op.load 9 (Operand.tmp 18), type := 9, pos := "hand.go:115", after := #[{ on := 2, ground := Ground.data }], guard := none }) (v := ?_) rfl (by kernel_rfl) (by kernel_rfl) (by kernel_rfl) (fun _ _ _ h => h) (by rfl) HB.out ?_ ?_
        rotate_left
        · (intro x hx; have e0 := (hx.cell (p := ⟨w.heap.size, k, none⟩) hw1 hnb).trans hc; go_simp; try with_reducible rfl)
        try simp only [Act.put, List.setIfInBounds_toArray, List.set_cons_zero, List.set_cons_succ]
        refine held_read (i := 4) (o := { dst := some 20, op := Op.move (Operand.tmp 0), type := 25, pos := "hand.go:115", after := #[], guard := none }) (v := ?_) rfl (by kernel_rfl) (by kernel_rfl) (by kernel_rfl) (fun _ _ _ h => h) (by rfl) HB.out ?_ ?_
        rotate_left
        · (intro x hx; have e0 := (hx.cell (p := ⟨w.heap.size, k, none⟩) hw1 hnb).trans hc; go_simp; try with_reducible rfl)
        try simp only [Act.put, List.setIfInBounds_toArray, List.set_cons_zero, List.set_cons_succ]
        refine held_call (i := 5) (o := { dst := some 21, op := Op.call { callee := Callee.value (Operand.func 26), args := #[Operand.tmp 20], argTypes := #[25] }, type := 45, pos := "hand.go:115", after := #[{ on := 4, ground := Ground.data }], guard := none }) rfl (by kernel_rfl) (by rfl) (fun K hK => ?_)
        go_simp
        refine (feedvalue_any _ (by omega) HF3.out).mono ?_
        rintro e w3 ⟨vk, vn, vx, vs, vb, hv1, hv2, hv3, hv4, rfl, hF4, hK4⟩
        replace HB := Lib.hid (HB.out.then (hK4.mono (fun i _ h => .inl h)))
        have HO4 := Lib.hid (HO3.out.kept hK4 (own_apart HO3.out (by omega)))
        have HK4 := Lib.hid (HK3.out.then hK4)
        have HR4 := Lib.hid (hK4.row HR3.out (by show ¬ w.heap.size = b; omega))
        have HF4 := Lib.hid hF4
        have HV := Lib.hid hv4
        refine hK.out _ _ HB.out ?_
        clear hK K hF4 hK4 hv4 HF3 HO3 HK3 HR3
        try simp only [Act.put, List.setIfInBounds_toArray, List.set_cons_zero, List.set_cons_succ]
        refine held_read (i := 6) (o := { dst := some 22, op := Op.build 54 #[(0, Operand.tmp 19), (1, Operand.tmp 21)], type := 54, pos := "hand.go:115", after := #[{ on := 3, ground := Ground.data }, { on := 5, ground := Ground.data }], guard := none }) (v := ?_) rfl (by kernel_rfl) (by kernel_rfl) (by kernel_rfl) (fun _ _ _ h => h) (by rfl) HB.out ?_ ?_
        rotate_left
        · (intro x hx; have e0 := (hx.cell (p := ⟨w.heap.size, k, none⟩) hw1 hnb).trans hc; go_simp; try with_reducible rfl)
        try simp only [Act.put, List.setIfInBounds_toArray, List.set_cons_zero, List.set_cons_succ]
        refine held_call (i := 7) (o := { dst := some 23, op := Op.buildSlice 23 1 #[(0, Operand.tmp 22)], type := 23, pos := "hand.go:115", after := #[{ on := 6, ground := Ground.data }], guard := none }) rfl (by kernel_rfl) (by rfl) (fun K hK => ?_)
        go_simp
        have hn := one_new w3 (.cells #[.string s, .int .i64 vk, .int .i64 vn, .float .f64 vx, .string vs, .bool vb] 54)
        replace HB := Lib.hid (HB.out.then (Kept.ofBelow hn))
        refine hK.out _ _ HB.out ?_
        have HO5 := Lib.hid (HO4.out.later hn)
        have HK5 := Lib.hid (HK4.out.then (Kept.ofBelow hn))
        have HR5 := Lib.hid (below_rowa hn HR4.out)
        have HF5 := Lib.hid (HF4.out.below hn)
        have HN := Lib.hid (new_att w3 ⟨s, ⟨vk, vn, vx, vs, vb⟩⟩)
        clear hn hK K HF4 HO4 HK4 HR4
        generalize w3.alloc (.cells #[.string s, .int .i64 vk, .int .i64 vn, .float .f64 vx, .string vs, .bool vb] 54) = w4 at HB HO5 HK5 HR5 HF5 HN ⊢
        try simp only [Act.put, List.setIfInBounds_toArray, List.set_cons_zero, List.set_cons_succ]
        refine held_call (i := 8) (o := { dst := some 24, op := Op.call { callee := Callee.builtin Builtin.append, args := #[Operand.tmp 16, Operand.tmp 23], argTypes := #[23, 23] }, type := 23, pos := "hand.go:115", after := #[{ on := 0, ground := Ground.data }, { on := 7, ground := Ground.data }, { on := 5, ground := Ground.chain }], guard := none }) rfl (by kernel_rfl) (by rfl) (fun K hK => ?_)
        refine step_ownw (k := 6) _ _ 23 rfl Tryz.underlying23 att_info rfl (by decide) (w.heap.size + 1) _ _ _ rfl HO5.out _ 1 1 rfl (fun h => by cases h) (flat [⟨s, ⟨vk, vn, vx, vs, vb⟩⟩]) HN.out (flat_one _) (by omega) (by decide) ?_
        intro v6 w6 hO6 hK6
        have hap := own_apart (b := b) HO5.out (by omega)
        have hbelow := own_base HO5.out
        replace HB := Lib.hid (HB.out.then (hK6.mono (fun i _ h => .inr (hbelow i h))))
        refine hK.out _ _ HB.out ?_
        have HO6 := Lib.hid hO6
        have HK6 := Lib.hid (HK5.out.trans hK6 (fun i hi h => absurd (hbelow i h) (by omega)))
        have HR6 := Lib.hid (hK6.row HR5.out (fun h => absurd (hbelow _ h) (by omega)))
        have HF6 := Lib.hid (HF5.out.kept hK6 (fun h => hap _ h rfl) (fun i hi h => absurd (hbelow i h) (by have := HF5.out.1; omega)))
        clear hO6 hK6 hK K HF5 HO5 HK5 HR5 HN hap hbelow
        try simp only [Act.put, List.setIfInBounds_toArray, List.set_cons_zero, List.set_cons_succ]
        refine held_read (i := 9) (o := { dst := some 3, op := Op.assign (Operand.tmp 24), type := 23, pos := "hand.go:115", after := #[{ on := 8, ground := Ground.data }, { on := 8, ground := Ground.chain }, { on := 0, ground := Ground.phase }, { on := 1, ground := Ground.phase }, { on := 2, ground := Ground.phase }, { on := 3, ground := Ground.phase }, { on := 4, ground := Ground.phase }, { on := 5, ground := Ground.phase }, { on := 6, ground := Ground.phase }, { on := 7, ground := Ground.phase }, { on := 8, ground := Ground.phase }], guard := none }) (v := ?_) rfl (by kernel_rfl) (by kernel_rfl) (by kernel_rfl) (fun _ _ _ h => h) (by rfl) HB.out ?_ ?_
        rotate_left
        · (intro x hx; have e0 := (hx.cell (p := ⟨w.heap.size, k, none⟩) hw1 hnb).trans hc; go_simp; try with_reducible rfl)
        try simp only [Act.put, List.setIfInBounds_toArray, List.set_cons_zero, List.set_cons_succ]
        refine wpAnyH_done (by kernel_rfl) ?_ _
        go_wp2_with fail
        exact ⟨⟨k + 1, l ++ [⟨s, ⟨vk, vn, vx, vs, vb⟩⟩], by omega, rfl, HFed.out.add hlt5 HS.out HV.out ⟨hv1, hv2, hv3⟩, own_add HO6.out, HF6.out.more (by omega), HK6.out, HR6.out⟩, by simp [intOf]; omega⟩
      · go_wp2_with fail
        exact ⟨⟨k + 1, l, by omega, rfl, HFed.out.skip, HO2.out, HF2.out.more (by omega), HK2.out, HR2.out⟩, by simp [intOf]; omega⟩
    · obtain rfl : k = 5 := by omega
      go_wp2_with fail
      go_ret
      exact ⟨_, l, rfl, HFed.out, own_sub HO.out (by omega), HF1.out, HK.out⟩
end Go.Proofs.YtfbfbajccphkoaaGreat
