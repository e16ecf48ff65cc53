/- G13: WireCode, WireCode2, WireCode3, WireCode4 in one text. -/
import Derived.Test.YtgenmebmdpnjhaaGreatG12
import Derived.Test.YtgenmebmdpnjhaaGreatWireRight1
import Derived.Test.YtgenmebmdpnjhaaGreatWireRight3
namespace Go.Proofs.YtgenmebmdpnjhaaGreat
open Go.RowKit
set_option linter.unusedVariables false
namespace Cd
theorem natb_pre : ∀ (m n : Nat) (r s : List Nat), natb m ++ r = natb n ++ s → m = n ∧ r = s := by
  intro m
  induction m using Nat.strongRecOn with
  | _ m ih =>
    intro n r s h
    by_cases hm : m < 128
    · by_cases hn : n < 128
      · rw [natb_small hm, natb_small hn] at h
        simpa using h
      · rw [natb_small hm, natb_big (n := n) (by omega)] at h
        simp at h; omega
    · by_cases hn : n < 128
      · rw [natb_small hn, natb_big (n := m) (by omega)] at h
        simp at h; omega
      · rw [natb_big (n := m) (by omega), natb_big (n := n) (by omega)] at h
        simp only [List.cons_append, List.cons.injEq] at h
        obtain ⟨h1, h2⟩ := ih (m / 128) (by omega) (n / 128) r s h.2
        exact ⟨by omega, h2⟩
/-- A number that is laid. -/
def ok (n : Int) : Prop := 0 ≤ n ∧ n ≤ 4611686018427387904
theorem natw_pre {m n : Int} {r s : List Nat} (hm : ok m) (hn : ok n) (h : natw m ++ r = natw n ++ s) : m = n ∧ r = s := by
  unfold natw at h
  rw [if_pos (show 0 ≤ m ∧ m ≤ 4611686018427387904 from hm), if_pos (show 0 ≤ n ∧ n ≤ 4611686018427387904 from hn)] at h
  obtain ⟨h1, h2⟩ := natb_pre _ _ _ _ h
  have := hm.1; have := hn.1
  exact ⟨by omega, h2⟩
theorem nats_pre : ∀ {x y : List Int} {r s : List Nat}, x.length = y.length → (∀ n, n ∈ x → ok n) → (∀ n, n ∈ y → ok n) → x.flatMap natw ++ r = y.flatMap natw ++ s → x = y ∧ r = s
  | [], [], _, _, _, _, _, h => ⟨rfl, by simpa using h⟩
  | [], _ :: _, _, _, hl, _, _, _ => by simp at hl
  | _ :: _, [], _, _, hl, _, _, _ => by simp at hl
  | m :: x, n :: y, r, s, hl, hx, hy, h => by
    rw [List.flatMap_cons, List.flatMap_cons, List.append_assoc, List.append_assoc] at h
    obtain ⟨rfl, h2⟩ := natw_pre (hx m (List.mem_cons_self ..)) (hy n (List.mem_cons_self ..)) h
    obtain ⟨rfl, h3⟩ := nats_pre (by simpa using hl) (fun k hk => hx k (List.mem_cons_of_mem _ hk)) (fun k hk => hy k (List.mem_cons_of_mem _ hk)) h2
    exact ⟨rfl, h3⟩
/-- Rows of parts, as many of both: part by part. -/
theorem rows_pre {α : Type} {f : α → List Nat} {R : α → α → Prop} {P : α → Prop} (hf : ∀ (a b : α) (r s : List Nat), P a → P b → f a ++ r = f b ++ s → R a b ∧ r = s) :
    ∀ {x y : List α} {r s : List Nat}, x.length = y.length → (∀ a, a ∈ x → P a) → (∀ a, a ∈ y → P a) → x.flatMap f ++ r = y.flatMap f ++ s → (∀ (i : Nat) (a b : α), x[i]? = some a → y[i]? = some b → R a b) ∧ r = s
  | [], [], _, _, _, _, _, h => ⟨fun i a b h1 => by simp at h1, by simpa using h⟩
  | [], _ :: _, _, _, hl, _, _, _ => by simp at hl
  | _ :: _, [], _, _, hl, _, _, _ => by simp at hl
  | m :: x, n :: y, r, s, hl, hx, hy, h => by
    rw [List.flatMap_cons, List.flatMap_cons, List.append_assoc, List.append_assoc] at h
    obtain ⟨h1, h2⟩ := hf m n _ _ (hx m (List.mem_cons_self ..)) (hy n (List.mem_cons_self ..)) h
    obtain ⟨h3, h4⟩ := rows_pre hf (by simpa using hl) (fun k hk => hx k (List.mem_cons_of_mem _ hk)) (fun k hk => hy k (List.mem_cons_of_mem _ hk)) h2
    refine ⟨fun i a b ha hb => ?_, h4⟩
    match i, ha, hb with
    | 0, ha, hb => simp at ha hb; subst ha; subst hb; exact h1
    | i + 1, ha, hb => exact h3 i a b (by simpa using ha) (by simpa using hb)
theorem eight_inj {a b : Nat} (ha : a < 18446744073709551616) (hb : b < 18446744073709551616) (h : eightb a = eightb b) : a = b := by
  rw [← wordn_eight ha [], ← wordn_eight hb [], h]
theorem eight_pre {a b : Nat} {r s : List Nat} (ha : a < 18446744073709551616) (hb : b < 18446744073709551616) (h : eightb a ++ r = eightb b ++ s) : a = b ∧ r = s := by
  obtain ⟨h1, h2⟩ := List.append_inj h (by rw [eightb_len, eightb_len])
  exact ⟨eight_inj ha hb h1, h2⟩
theorem bytes_inj {s t : ByteArray} (h : bytesOf s = bytesOf t) : s.toList = t.toList := by
  have e : s.data = t.data := by
    unfold bytesOf at h
    exact Array.toList_inj.1 ((List.map_inj_right (fun a b h => UInt8.toNat_inj.1 h)).1 h)
  cases s; cases t; cases e; rfl
theorem text_pre {s t : ByteArray} {r q : List Nat} (h : textb s ++ r = textb t ++ q) : s.toList = t.toList ∧ r = q := by
  unfold textb at h
  rw [List.append_assoc, List.append_assoc] at h
  obtain ⟨h1, h2⟩ := natb_pre _ _ _ _ h
  obtain ⟨h3, h4⟩ := List.append_inj h2 (by rw [bytesOf_len, bytesOf_len, h1])
  exact ⟨bytes_inj h3, h4⟩
theorem bool_pre {a b : Bool} {r s : List Nat} (h : boolb a ++ r = boolb b ++ s) : a = b ∧ r = s := by
  unfold boolb at h
  have := natw_pre (by cases a <;> exact ⟨by decide, by decide⟩) (by cases b <;> exact ⟨by decide, by decide⟩) h
  refine ⟨?_, this.2⟩
  cases a <;> cases b <;> simp at this <;> rfl
theorem bits_lt {x : Nat} (h : x < 2 ^ 64) : Fl.bits x < 18446744073709551616 := by
  unfold Fl.bits
  split
  · decide
  · split
    · decide
    · omega
theorem word_inj {m n : Int} (hm : -9223372036854775808 ≤ m ∧ m ≤ 9223372036854775807) (hn : -9223372036854775808 ≤ n ∧ n ≤ 9223372036854775807) (h : wordOf m = wordOf n) : m = n := by
  rw [← wrap_word hm.1 hm.2, ← wrap_word hn.1 hn.2, h]
theorem word_lt (n : Int) : wordOf n < 18446744073709551616 := (word_wrap n).2
theorem zx_bits {x : Nat} (h : Vl.zx x = true) : Fl.bits x = 0 := by
  unfold Vl.zx at h
  have h1 : (FloatKind.f64.format.order x 0 == some .eq) = true := by
    rw [beq_iff_eq]; exact of_decide_eq_true h
  cases hn : Fl.nan x
  · rw [Fl.ord_zero hn] at h1
    exact Fl.bits_zero hn h1
  · rw [Fl.ord_nan (by rw [hn]; rfl)] at h1
    cases h1
/-- A value that is right, and lies in its bounds. -/
structure Vok (v : Val) : Prop where
  right : Vl.right v = true
  n : -9223372036854775808 ≤ v.n ∧ v.n ≤ 9223372036854775807
  x : v.x < 2 ^ 64
theorem Vok.kind {v : Val} (h : Vok v) : v.k = 1 ∨ v.k = 2 ∨ v.k = 3 ∨ v.k = 4 := by
  have := h.right
  unfold Vl.right at this
  by_cases h1 : v.k = 1
  · exact .inl h1
  by_cases h2 : v.k = 2
  · exact .inr (.inl h2)
  by_cases h3 : v.k = 3
  · exact .inr (.inr (.inl h3))
  by_cases h4 : v.k = 4
  · exact .inr (.inr (.inr h4))
  rw [if_neg h1, if_neg h2, if_neg h3, if_neg h4] at this
  cases this
theorem vk1 {v : Val} (h : v.k = 1) : vkindb v = eightb (wordOf v.n) := by unfold vkindb; simp [h]
theorem vk2 {v : Val} (h : v.k = 2) : vkindb v = eightb (Fl.bits v.x) := by unfold vkindb; simp [h]
theorem vk3 {v : Val} (h : v.k = 3) : vkindb v = textb v.s := by unfold vkindb; simp [h]
theorem vk4 {v : Val} (h : v.k = 4) : vkindb v = boolb v.b := by unfold vkindb; simp [h]
theorem rt1 {v : Val} (h : v.k = 1) (hr : Vl.right v = true) : Fl.bits v.x = 0 ∧ v.s.toList = [] ∧ v.b = false := by
  unfold Vl.right at hr; simp [h, Vl.zs] at hr; exact ⟨zx_bits hr.1.1, hr.1.2, hr.2⟩
theorem rt2 {v : Val} (h : v.k = 2) (hr : Vl.right v = true) : v.n = 0 ∧ v.s.toList = [] ∧ v.b = false := by
  unfold Vl.right at hr; simp [h, Vl.zs] at hr; exact ⟨hr.1.1, hr.1.2, hr.2⟩
theorem rt3 {v : Val} (h : v.k = 3) (hr : Vl.right v = true) : v.n = 0 ∧ Fl.bits v.x = 0 ∧ v.b = false := by
  unfold Vl.right at hr; simp [h] at hr; exact ⟨hr.1.1.1, zx_bits hr.1.1.2, hr.1.2⟩
theorem rt4 {v : Val} (h : v.k = 4) (hr : Vl.right v = true) : v.n = 0 ∧ Fl.bits v.x = 0 ∧ v.s.toList = [] := by
  unfold Vl.right at hr; simp [h, Vl.zs] at hr; exact ⟨hr.1.1, zx_bits hr.1.2, hr.2⟩
theorem value_pre {a b : Val} {r s : List Nat} (ha : Vok a) (hb : Vok b) (h : valueb a ++ r = valueb b ++ s) : Vl.same a b = true ∧ r = s := by
  unfold valueb at h
  rw [List.append_assoc, List.append_assoc] at h
  have ka := ha.kind
  have kb := hb.kind
  obtain ⟨hk, h2⟩ := natw_pre (show ok a.k by unfold ok; omega) (show ok b.k by unfold ok; omega) h
  have key : a.n = b.n ∧ Fl.bits a.x = Fl.bits b.x ∧ a.s.toList = b.s.toList ∧ a.b = b.b ∧ r = s := by
    rcases ka with k | k | k | k
    · obtain ⟨x1, x2, x3⟩ := rt1 k ha.right
      obtain ⟨y1, y2, y3⟩ := rt1 (hk ▸ k) hb.right
      rw [vk1 k, vk1 (hk ▸ k)] at h2
      obtain ⟨e1, e2⟩ := eight_pre (word_lt _) (word_lt _) h2
      exact ⟨word_inj ha.n hb.n e1, by rw [x1, y1], by rw [x2, y2], by rw [x3, y3], e2⟩
    · obtain ⟨x1, x2, x3⟩ := rt2 k ha.right
      obtain ⟨y1, y2, y3⟩ := rt2 (hk ▸ k) hb.right
      rw [vk2 k, vk2 (hk ▸ k)] at h2
      obtain ⟨e1, e2⟩ := eight_pre (bits_lt ha.x) (bits_lt hb.x) h2
      exact ⟨by rw [x1, y1], e1, by rw [x2, y2], by rw [x3, y3], e2⟩
    · obtain ⟨x1, x2, x3⟩ := rt3 k ha.right
      obtain ⟨y1, y2, y3⟩ := rt3 (hk ▸ k) hb.right
      rw [vk3 k, vk3 (hk ▸ k)] at h2
      obtain ⟨e1, e2⟩ := text_pre h2
      exact ⟨by rw [x1, y1], by rw [x2, y2], e1, by rw [x3, y3], e2⟩
    · obtain ⟨x1, x2, x3⟩ := rt4 k ha.right
      obtain ⟨y1, y2, y3⟩ := rt4 (hk ▸ k) hb.right
      rw [vk4 k, vk4 (hk ▸ k)] at h2
      obtain ⟨e1, e2⟩ := bool_pre h2
      exact ⟨by rw [x1, y1], by rw [x2, y2], by rw [x3, y3], e1, e2⟩
  obtain ⟨k1, k2, k3, k4, k5⟩ := key
  refine ⟨?_, k5⟩
  simp only [Vl.same, Bool.and_eq_true, decide_eq_true_eq, beq_iff_eq, Fl.same]
  exact ⟨⟨⟨⟨hk, k1⟩, k2⟩, k3⟩, k4⟩
end Cd
end Go.Proofs.YtgenmebmdpnjhaaGreat

namespace Go.Proofs.YtgenmebmdpnjhaaGreat
open Go.RowKit
set_option linter.unusedVariables false
namespace Cd
theorem same_iff {a b : Val} : Vl.same a b = true ↔ a.k = b.k ∧ a.n = b.n ∧ Fl.bits a.x = Fl.bits b.x ∧ a.s.toList = b.s.toList ∧ a.b = b.b := by
  simp only [Vl.same, Bool.and_eq_true, decide_eq_true_eq, beq_iff_eq, Fl.same]
  exact ⟨fun ⟨⟨⟨⟨h1, h2⟩, h3⟩, h4⟩, h5⟩ => ⟨h1, h2, h3, h4, h5⟩, fun ⟨h1, h2, h3, h4, h5⟩ => ⟨⟨⟨⟨h1, h2⟩, h3⟩, h4⟩, h5⟩⟩
theorem same_zero {a b : Val} (ha : Pd.zero a = true) (hb : Pd.zero b = true) : Vl.same a b = true := by
  obtain ⟨h1, h2, h3, h4, h5⟩ := same_iff.1 ha
  obtain ⟨g1, g2, g3, g4, g5⟩ := same_iff.1 hb
  exact same_iff.2 ⟨h1.trans g1.symm, h2.trans g2.symm, h3.trans g3.symm, h4.trans g4.symm, h5.trans g5.symm⟩
theorem toList_loop (s : ByteArray) : ∀ (n i : Nat) (r : List UInt8), s.size - i = n → ByteArray.toList.loop s i r = r.reverse ++ s.data.toList.drop i := by
  intro n
  induction n with
  | zero =>
    intro i r h
    rw [ByteArray.toList.loop, if_neg (by omega), List.drop_eq_nil_of_le (by rw [Array.length_toList]; exact Nat.le_of_sub_eq_zero h), List.append_nil]
  | succ n ih =>
    intro i r h
    have hi : i < s.size := by omega
    have hi2 : i < s.data.toList.length := by rw [Array.length_toList]; exact hi
    rw [ByteArray.toList.loop, if_pos hi, ih (i + 1) _ (by omega), List.drop_eq_getElem_cons hi2]
    have e : s.get! i = s.data.toList[i] := by
      have : i < s.data.size := hi
      cases s
      simp [ByteArray.get!, this]
    rw [e]
    simp
theorem toList_data (s : ByteArray) : s.toList = s.data.toList := by
  unfold ByteArray.toList
  rw [toList_loop s _ 0 [] rfl]; simp
theorem list_toList {s t : ByteArray} (h : s.toList = t.toList) : s = t := by
  rw [toList_data, toList_data] at h
  have e : s.data = t.data := Array.toList_inj.1 h
  cases s; cases t; cases e; rfl
/-- The same lays the same. -/
theorem value_same {a b : Val} (h : Vl.same a b = true) : valueb a = valueb b := by
  obtain ⟨h1, h2, h3, h4, h5⟩ := same_iff.1 h
  unfold valueb vkindb
  rw [h1, h2, h3, list_toList h4, h5]
theorem ok_len (n : Nat) (h : n ≤ 1000000) : ok (n : Int) := ⟨by omega, by omega⟩
/-- Attributes. -/
structure Aok (a : Att) : Prop where
  v : Vok a.v
theorem att_pre (a b : Att) (r s : List Nat) (ha : Aok a) (hb : Aok b) (h : attb a ++ r = attb b ++ s) : At.one a b = true ∧ r = s := by
  unfold attb at h
  rw [List.append_assoc, List.append_assoc] at h
  obtain ⟨h1, h2⟩ := text_pre h
  obtain ⟨h3, h4⟩ := value_pre ha.v hb.v h2
  exact ⟨by simp only [At.one, Bool.and_eq_true, beq_iff_eq]; exact ⟨h1, h3⟩, h4⟩
theorem atts_same : ∀ {l m : List Att}, l.length = m.length → (∀ (i : Nat) (a b : Att), l[i]? = some a → m[i]? = some b → At.one a b = true) → At.same l m = true
  | [], [], _, _ => rfl
  | [], _ :: _, h, _ => by simp at h
  | _ :: _, [], h, _ => by simp at h
  | a :: l, b :: m, h, g => by
    simp only [At.same, Bool.and_eq_true]
    exact ⟨g 0 a b rfl rfl, atts_same (by simpa using h) fun i x y hx hy => g (i + 1) x y (by simpa using hx) (by simpa using hy)⟩
theorem st_pre (a b : St) (r s : List Nat) (ha : ok a.atom ∧ ok a.n) (hb : ok b.atom ∧ ok b.n) (h : stb a ++ r = stb b ++ s) : (a.atom = b.atom ∧ a.n = b.n) ∧ r = s := by
  unfold stb at h
  rw [List.append_assoc, List.append_assoc] at h
  obtain ⟨h1, h2⟩ := natw_pre ha.1 hb.1 h
  obtain ⟨h3, h4⟩ := natw_pre ha.2 hb.2 h2
  exact ⟨⟨h1, h3⟩, h4⟩
theorem sts_same : ∀ {l m : List St}, l.length = m.length → (∀ (i : Nat) (a b : St), l[i]? = some a → m[i]? = some b → a.atom = b.atom ∧ a.n = b.n) → Wr.stsame l m = true
  | [], [], _, _ => rfl
  | [], _ :: _, h, _ => by simp at h
  | _ :: _, [], h, _ => by simp at h
  | a :: l, b :: m, h, g => by
    simp only [Wr.stsame, Bool.and_eq_true, beq_iff_eq]
    exact ⟨g 0 a b rfl rfl, sts_same (by simpa using h) fun i x y hx hy => g (i + 1) x y (by simpa using hx) (by simpa using hy)⟩
/-- An Event whose parts are in their bounds. -/
structure Eok (e : Ev) : Prop where
  nums : ∀ n, n ∈ [e.c, e.b, e.s, e.e, e.a] → ok n
  atts : ∀ a, a ∈ e.l → Aok a
  few : e.l.length ≤ 1000
  sts : ∀ s, s ∈ e.t → ok s.atom ∧ ok s.n
  sfew : e.t.length ≤ 1000
theorem event_pre {a b : Ev} {r s : List Nat} (ha : Eok a) (hb : Eok b) (h : eventb a ++ r = eventb b ++ s) : Wr.evsame a b = true ∧ r = s := by
  unfold eventb at h
  simp only [List.append_assoc] at h
  obtain ⟨h1, h2⟩ := nats_pre (x := [a.c, a.b, a.s, a.e, a.a]) (y := [b.c, b.b, b.s, b.e, b.a]) rfl ha.nums hb.nums h
  obtain ⟨h3, h4⟩ := natw_pre (ok_len _ (by have := ha.few; omega)) (ok_len _ (by have := hb.few; omega)) h2
  have h3' : a.l.length = b.l.length := by omega
  obtain ⟨h5, h6⟩ := rows_pre (R := fun x y => At.one x y = true) (P := Aok) att_pre h3' ha.atts hb.atts h4
  obtain ⟨h7, h8⟩ := natw_pre (ok_len _ (by have := ha.sfew; omega)) (ok_len _ (by have := hb.sfew; omega)) h6
  have h7' : a.t.length = b.t.length := by omega
  obtain ⟨h9, h10⟩ := rows_pre (R := fun x y => x.atom = y.atom ∧ x.n = y.n) (P := fun s => ok s.atom ∧ ok s.n) st_pre h7' ha.sts hb.sts h8
  refine ⟨?_, h10⟩
  simp only [List.cons.injEq] at h1
  simp only [Wr.evsame, Wr.evints, Bool.and_eq_true, beq_iff_eq]
  exact ⟨⟨h1.1, h1.2.1, h1.2.2.1, h1.2.2.2.1, h1.2.2.2.2.1⟩, atts_same h3' h5, sts_same h7' h9⟩
/-- Tests. -/
theorem pd_facts {p : Prd} (h : Pd.right p = true) :
    (p.t = 1 ∧ Pd.zero p.v = true ∧ Pd.zero p.w = true ∧ p.set = []) ∨ (p.t = 8 ∧ Vl.right p.v = true ∧ Vl.right p.w = true ∧ p.set = []) ∨ (p.t = 9 ∧ Vl.right p.v = true ∧ Pd.zero p.w = true ∧ p.set = []) ∨
    (p.t = 10 ∧ Pd.zero p.v = true ∧ Pd.zero p.w = true ∧ Pd.rset p.set = true) ∨ ((2 ≤ p.t ∧ p.t ≤ 7) ∧ Vl.right p.v = true ∧ Pd.zero p.w = true ∧ p.set = []) := by
  unfold Pd.right at h
  simp only [Bool.and_eq_true] at h
  obtain ⟨-, h⟩ := h
  have nil : ∀ {l : List Val}, decide (l.length = 0) = true → l = [] := fun h => List.eq_nil_of_length_eq_zero (of_decide_eq_true h)
  by_cases h1 : p.t = 1
  · rw [if_pos h1] at h; simp only [Bool.and_eq_true] at h; exact .inl ⟨h1, h.1.1, h.1.2, nil h.2⟩
  rw [if_neg h1] at h
  by_cases h8 : p.t = 8
  · rw [if_pos h8] at h; simp only [Bool.and_eq_true] at h; exact .inr (.inl ⟨h8, h.1.1, h.1.2, nil h.2⟩)
  rw [if_neg h8] at h
  by_cases h9 : p.t = 9
  · rw [if_pos h9] at h; simp only [Bool.and_eq_true] at h; exact .inr (.inr (.inl ⟨h9, h.1.1.1, h.1.2, nil h.2⟩))
  rw [if_neg h9] at h
  by_cases h10 : p.t = 10
  · rw [if_pos h10] at h; simp only [Bool.and_eq_true] at h; exact .inr (.inr (.inr (.inl ⟨h10, h.1.1, h.1.2, h.2⟩)))
  rw [if_neg h10] at h
  by_cases h2 : 2 ≤ p.t ∧ p.t ≤ 7
  · rw [if_pos h2] at h; simp only [Bool.and_eq_true] at h; exact .inr (.inr (.inr (.inr ⟨h2, h.1.1, h.1.2, nil h.2⟩)))
  rw [if_neg h2] at h
  cases h
/-- A test that is right, its numbers in their bounds. -/
structure Nok (v : Val) : Prop where
  n : -9223372036854775808 ≤ v.n ∧ v.n ≤ 9223372036854775807
  x : v.x < 2 ^ 64
structure Pok (p : Prd) : Prop where
  right : Pd.right p = true
  v : Nok p.v
  w : Nok p.w
  set : ∀ a, a ∈ p.set → Nok a
theorem Nok.ok {v : Val} (h : Nok v) (hr : Vl.right v = true) : Vok v := ⟨hr, h.n, h.x⟩
theorem sames_of : ∀ {l m : List Val}, l.length = m.length → (∀ (i : Nat) (a b : Val), l[i]? = some a → m[i]? = some b → Vl.same a b = true) → Pd.sames l m = true
  | [], [], _, _ => rfl
  | [], _ :: _, h, _ => by simp at h
  | _ :: _, [], h, _ => by simp at h
  | a :: l, b :: m, h, g => by
    simp only [Pd.sames, Bool.and_eq_true]
    exact ⟨g 0 a b rfl rfl, sames_of (by simpa using h) fun i x y hx hy => g (i + 1) x y (by simpa using hx) (by simpa using hy)⟩
theorem need_v {p : Prd} (h : (2 ≤ p.t ∧ p.t ≤ 7) ∨ p.t = 9) : needsb p = valueb p.v := by
  unfold needsb; rw [if_pos (by omega)]
theorem need_8 {p : Prd} (h : p.t = 8) : needsb p = valueb p.v ++ valueb p.w := by
  unfold needsb; rw [if_neg (by omega), if_pos h]
theorem need_10 {p : Prd} (h : p.t = 10) : needsb p = setb p.set := by
  unfold needsb; rw [if_neg (by omega), if_neg (by omega), if_pos h]
theorem need_1 {p : Prd} (h : p.t = 1) : needsb p = [] := by
  unfold needsb; rw [if_neg (by omega), if_neg (by omega), if_neg (by omega)]
theorem rset_facts {l : List Val} (h : Pd.rset l = true) : l.length ≤ 4 ∧ ∀ a, a ∈ l → Vl.right a = true := by
  unfold Pd.rset at h
  simp only [Bool.and_eq_true, decide_eq_true_eq, List.all_eq_true] at h
  exact ⟨h.1.2, h.2⟩
theorem pred_pre (a b : Pt) (r s : List Nat) (ha : Pok a.p) (hb : Pok b.p) (h : predb a ++ r = predb b ++ s) : Pd.same a.p b.p = true ∧ r = s := by
  unfold predb at h
  simp only [List.append_assoc] at h
  obtain ⟨h1, h2⟩ := text_pre h
  have fa := pd_facts ha.right
  have fb := pd_facts hb.right
  obtain ⟨h3, h4⟩ := natw_pre (show ok a.p.t by unfold ok; omega) (show ok b.p.t by unfold ok; omega) h2
  have key : Vl.same a.p.v b.p.v = true ∧ Vl.same a.p.w b.p.w = true ∧ Pd.sames a.p.set b.p.set = true ∧ r = s := by
    rcases fa with ⟨t, x1, x2, x3⟩ | ⟨t, x1, x2, x3⟩ | ⟨t, x1, x2, x3⟩ | ⟨t, x1, x2, x3⟩ | ⟨t, x1, x2, x3⟩
    · rcases fb with ⟨u, y1, y2, y3⟩ | ⟨u, -⟩ | ⟨u, -⟩ | ⟨u, -⟩ | ⟨u, -⟩
      · rw [need_1 t, need_1 u] at h4
        exact ⟨same_zero x1 y1, same_zero x2 y2, by rw [x3, y3]; rfl, by simpa using h4⟩
      all_goals omega
    · rcases fb with ⟨u, -⟩ | ⟨u, y1, y2, y3⟩ | ⟨u, -⟩ | ⟨u, -⟩ | ⟨u, -⟩
      · omega
      · rw [need_8 t, need_8 u, List.append_assoc, List.append_assoc] at h4
        obtain ⟨e1, e2⟩ := value_pre (ha.v.ok x1) (hb.v.ok y1) h4
        obtain ⟨e3, e4⟩ := value_pre (ha.w.ok x2) (hb.w.ok y2) e2
        exact ⟨e1, e3, by rw [x3, y3]; rfl, e4⟩
      all_goals omega
    · rcases fb with ⟨u, -⟩ | ⟨u, -⟩ | ⟨u, y1, y2, y3⟩ | ⟨u, -⟩ | ⟨u, -⟩
      · omega
      · omega
      · rw [need_v (.inr t), need_v (.inr u)] at h4
        obtain ⟨e1, e2⟩ := value_pre (ha.v.ok x1) (hb.v.ok y1) h4
        exact ⟨e1, same_zero x2 y2, by rw [x3, y3]; rfl, e2⟩
      all_goals omega
    · rcases fb with ⟨u, -⟩ | ⟨u, -⟩ | ⟨u, -⟩ | ⟨u, y1, y2, y3⟩ | ⟨u, -⟩
      · omega
      · omega
      · omega
      · rw [need_10 t, need_10 u, setb, setb, List.append_assoc, List.append_assoc] at h4
        obtain ⟨a1, a2⟩ := rset_facts x3
        obtain ⟨b1, b2⟩ := rset_facts y3
        obtain ⟨e1, e2⟩ := natw_pre (ok_len _ (by omega)) (ok_len _ (by omega)) h4
        have el : a.p.set.length = b.p.set.length := by omega
        obtain ⟨e3, e4⟩ := rows_pre (R := fun x y => Vl.same x y = true) (P := Vok) (fun x y r s hx hy h => value_pre hx hy h) el (fun x hx => (ha.set x hx).ok (a2 x hx)) (fun x hx => (hb.set x hx).ok (b2 x hx)) e2
        exact ⟨same_zero x1 y1, same_zero x2 y2, sames_of el e3, e4⟩
      · omega
    · rcases fb with ⟨u, -⟩ | ⟨u, -⟩ | ⟨u, -⟩ | ⟨u, -⟩ | ⟨u, y1, y2, y3⟩
      · omega
      · omega
      · omega
      · omega
      · rw [need_v (.inl t), need_v (.inl u)] at h4
        obtain ⟨e1, e2⟩ := value_pre (ha.v.ok x1) (hb.v.ok y1) h4
        exact ⟨e1, same_zero x2 y2, by rw [x3, y3]; rfl, e2⟩
  obtain ⟨k1, k2, k3, k4⟩ := key
  refine ⟨?_, k4⟩
  simp only [Pd.same, Pd.sameT, Bool.and_eq_true, decide_eq_true_eq, beq_iff_eq]
  exact ⟨h1, ⟨⟨⟨h3, k1⟩, k2⟩, k3⟩⟩
theorem filters_same : ∀ {l m : List Pt}, l.length = m.length → (∀ (i : Nat) (a b : Pt), l[i]? = some a → m[i]? = some b → Pd.same a.p b.p = true) → Fi.same l m = true
  | [], [], _, _ => rfl
  | [], _ :: _, h, _ => by simp at h
  | _ :: _, [], h, _ => by simp at h
  | a :: l, b :: m, h, g => by
    simp only [Fi.same, Bool.and_eq_true]
    exact ⟨g 0 a b rfl rfl, filters_same (by simpa using h) fun i x y hx hy => g (i + 1) x y (by simpa using hx) (by simpa using hy)⟩
/-- A filter, its tests right. -/
structure Fok (l : List Pt) : Prop where
  each : ∀ x, x ∈ l → Pok x.p
  few : l.length ≤ 1000
theorem filter_pre {l m : List Pt} {r s : List Nat} (hl : Fok l) (hm : Fok m) (h : filterb l ++ r = filterb m ++ s) : Fi.same l m = true ∧ r = s := by
  unfold filterb at h
  rw [List.append_assoc, List.append_assoc] at h
  obtain ⟨h1, h2⟩ := natw_pre (ok_len _ (by have := hl.few; omega)) (ok_len _ (by have := hm.few; omega)) h
  have e : l.length = m.length := by omega
  obtain ⟨h3, h4⟩ := rows_pre (R := fun x y => Pd.same x.p y.p = true) (P := fun x => Pok x.p) pred_pre e hl.each hm.each h2
  exact ⟨filters_same e h3, h4⟩
/-- A Sub in its bounds. -/
structure Sok (s : Sb) : Prop where
  nums : ∀ n, n ∈ [s.c, s.b, s.n] → ok n
  f : Fok s.f.l
theorem sub_pre (a b : Sb) (r s : List Nat) (ha : Sok a) (hb : Sok b) (h : subb a ++ r = subb b ++ s) : Wr.sbsame a b = true ∧ r = s := by
  unfold subb at h
  rw [List.append_assoc, List.append_assoc] at h
  obtain ⟨h1, h2⟩ := nats_pre (x := [a.c, a.b, a.n]) (y := [b.c, b.b, b.n]) rfl ha.nums hb.nums h
  obtain ⟨h3, h4⟩ := filter_pre ha.f hb.f h2
  simp only [List.cons.injEq] at h1
  refine ⟨?_, h4⟩
  simp only [Wr.sbsame, Bool.and_eq_true, beq_iff_eq]
  exact ⟨h1.1, h1.2.1, h1.2.2.1, h3⟩
theorem subs_same : ∀ {l m : List Sb}, l.length = m.length → (∀ (i : Nat) (a b : Sb), l[i]? = some a → m[i]? = some b → Wr.sbsame a b = true) → Wr.sbssame l m = true
  | [], [], _, _ => rfl
  | [], _ :: _, h, _ => by simp at h
  | _ :: _, [], h, _ => by simp at h
  | a :: l, b :: m, h, g => by
    simp only [Wr.sbssame, Bool.and_eq_true]
    exact ⟨g 0 a b rfl rfl, subs_same (by simpa using h) fun i x y hx hy => g (i + 1) x y (by simpa using hx) (by simpa using hy)⟩
theorem subs_pre {l m : List Sb} {r s : List Nat} (hl : ∀ s, s ∈ l → Sok s) (hlf : l.length ≤ 1000) (hm : ∀ s, s ∈ m → Sok s) (hmf : m.length ≤ 1000) (h : subsb l ++ r = subsb m ++ s) : Wr.sbssame l m = true ∧ r = s := by
  unfold subsb at h
  rw [List.append_assoc, List.append_assoc] at h
  obtain ⟨h1, h2⟩ := natw_pre (ok_len _ (by omega)) (ok_len _ (by omega)) h
  have e : l.length = m.length := by omega
  obtain ⟨h3, h4⟩ := rows_pre (R := fun x y => Wr.sbsame x y = true) (P := Sok) sub_pre e hl hm h2
  exact ⟨subs_same e h3, h4⟩
theorem change_pre {g g' : Bool} {a b : Sb} {r s : List Nat} (ha : Sok a) (hb : Sok b) (h : changeb g a ++ r = changeb g' b ++ s) : (g = g' ∧ Wr.sbsame a b = true) ∧ r = s := by
  unfold changeb at h
  rw [List.append_assoc, List.append_assoc] at h
  obtain ⟨h1, h2⟩ := bool_pre h
  obtain ⟨h3, h4⟩ := sub_pre a b _ _ ha hb h2
  exact ⟨⟨h1, h3⟩, h4⟩
end Cd
end Go.Proofs.YtgenmebmdpnjhaaGreat

namespace Go.Proofs.YtgenmebmdpnjhaaGreat
open Go.RowKit
set_option linter.unusedVariables false
namespace Cd
/-- The bytes of a frame. -/
def frameb (f : Fr) : List Nat :=
  natw f.k ++ (if f.k = 1 then changeb f.g f.s else if f.k = 2 ∨ f.k = 3 then [f.ep].flatMap natw else if f.k = 4 then [f.ep].flatMap natw ++ subsb f.l else if f.k = 5 then [f.tb].flatMap natw ++ eventb f.e
    else if f.k = 6 then eventb f.e else if f.k = 7 then [f.tb, f.cl, f.sq].flatMap natw else if f.k = 8 then [f.tb, f.cl, f.sq, f.fm].flatMap natw else [])
/-- The numbers that memory bounds. -/
structure Fnok (f : Fr) : Prop where
  atts : ∀ a, a ∈ f.e.l → Nok a.v
  sub : ∀ x, x ∈ f.s.f.l → Nok x.p.v ∧ Nok x.p.w ∧ ∀ a, a ∈ x.p.set → Nok a
  subs : ∀ s, s ∈ f.l → ∀ x, x ∈ s.f.l → Nok x.p.v ∧ Nok x.p.w ∧ ∀ a, a ∈ x.p.set → Nok a
theorem num_ok {n : Int} (h : Wr.num n = true) : ok n := by simp only [Wr.num, Bool.and_eq_true, decide_eq_true_eq] at h; exact h
theorem cnt_ok {n : Int} (h : Wr.cnt n = true) : ok n := by simp only [Wr.cnt, Bool.and_eq_true, decide_eq_true_eq] at h; exact ⟨by omega, h.2⟩
theorem client_ok {n : Int} (h : Wr.client n = true) : ok n := by simp only [Wr.client, Bool.and_eq_true, decide_eq_true_eq] at h; exact ⟨by omega, by omega⟩
theorem broker_ok {n : Int} (h : Wr.broker n = true) : ok n := by simp only [Wr.broker, Bool.and_eq_true, decide_eq_true_eq] at h; exact ⟨by omega, by omega⟩
theorem okFrom_each : ∀ {l : List Att} {p : Option ByteArray}, At.okFrom p l = true → ∀ a, a ∈ l → Vl.right a.v = true
  | [], _, _, a, h => by cases h
  | b :: l, p, h, a, ha => by
    simp only [At.okFrom, Bool.and_eq_true] at h
    rcases List.mem_cons.1 ha with rfl | ha
    · exact h.1.1.2
    · exact okFrom_each h.2 a ha
theorem atts_right {l : List Att} (h : At.right l = true) : l.length ≤ 5 ∧ ∀ a, a ∈ l → Vl.right a.v = true := by
  simp only [At.right, Bool.and_eq_true, decide_eq_true_eq] at h
  exact ⟨h.1, okFrom_each h.2⟩
theorem sts_right {l : List St} (h : Wr.rightSts l = true) : l.length ≤ 200 ∧ ∀ s, s ∈ l → ok s.atom ∧ ok s.n := by
  simp only [Wr.rightSts, Bool.and_eq_true, decide_eq_true_eq, List.all_eq_true, List.mem_range] at h
  refine ⟨h.1, fun s hs => ?_⟩
  obtain ⟨k, hk⟩ := List.mem_iff_getElem?.1 hs
  have hl := (List.getElem?_eq_some_iff.1 hk).1
  have := h.2 k hl
  have hr : (Wr.num s.atom && Wr.cnt s.n) = true := by
    cases hr : (Wr.num s.atom && Wr.cnt s.n)
    · rw [Wr.st_wrong hk hr] at this; cases this
    · rfl
  simp only [Bool.and_eq_true] at hr
  exact ⟨num_ok hr.1, cnt_ok hr.2⟩
theorem filter_right {l : List Pt} (h : Fi.right l = true) : l.length ≤ 3 ∧ ∀ x, x ∈ l → Pd.right x.p = true := by
  simp only [Fi.right, Bool.and_eq_true, decide_eq_true_eq, List.all_eq_true, List.mem_range] at h
  refine ⟨h.1, fun s hs => ?_⟩
  obtain ⟨k, hk⟩ := List.mem_iff_getElem?.1 hs
  have hl := (List.getElem?_eq_some_iff.1 hk).1
  have := h.2 k hl
  cases hr : Pd.right s.p
  · rw [Fi.at_wrong hk hr] at this; cases this
  · rfl
theorem event_right {e : Ev} (h : Wr.rightEv e = true) (hn : ∀ a, a ∈ e.l → Nok a.v) : Eok e := by
  simp only [Wr.rightEv, Bool.and_eq_true] at h
  obtain ⟨h1, h2, h3, h4, h5, h6, h7⟩ := h
  obtain ⟨a1, a2⟩ := atts_right h6
  obtain ⟨s1, s2⟩ := sts_right h7
  refine ⟨fun n hnm => ?_, fun a ha => ⟨(hn a ha).ok (a2 a ha)⟩, by omega, s2, by omega⟩
  simp only [List.mem_cons, List.not_mem_nil, or_false] at hnm
  rcases hnm with rfl | rfl | rfl | rfl | rfl
  · exact client_ok h1
  · exact broker_ok h2
  · exact cnt_ok h3
  · exact num_ok h4
  · exact num_ok h5
theorem sub_right {s : Sb} (h : Wr.rightSb s = true) (hn : ∀ x, x ∈ s.f.l → Nok x.p.v ∧ Nok x.p.w ∧ ∀ a, a ∈ x.p.set → Nok a) : Sok s := by
  simp only [Wr.rightSb, Bool.and_eq_true] at h
  obtain ⟨h1, h2, h3, h4⟩ := h
  obtain ⟨f1, f2⟩ := filter_right h4
  refine ⟨fun n hnm => ?_, ⟨fun x hx => ⟨f2 x hx, (hn x hx).1, (hn x hx).2.1, (hn x hx).2.2⟩, by omega⟩⟩
  simp only [List.mem_cons, List.not_mem_nil, or_false] at hnm
  rcases hnm with rfl | rfl | rfl
  · exact client_ok h1
  · exact broker_ok h2
  · exact cnt_ok h3
theorem subs_right {l : List Sb} (h : Wr.rightSbs l = true) (hn : ∀ s, s ∈ l → ∀ x, x ∈ s.f.l → Nok x.p.v ∧ Nok x.p.w ∧ ∀ a, a ∈ x.p.set → Nok a) : l.length ≤ 18 ∧ ∀ s, s ∈ l → Sok s := by
  simp only [Wr.rightSbs, Bool.and_eq_true, decide_eq_true_eq, List.all_eq_true, List.mem_range] at h
  refine ⟨h.1, fun s hs => ?_⟩
  obtain ⟨k, hk⟩ := List.mem_iff_getElem?.1 hs
  have hl := (List.getElem?_eq_some_iff.1 hk).1
  have := h.2 k hl
  have hr : Wr.rightSb s = true := by
    cases hr : Wr.rightSb s
    · rw [Wr.sb_wrong hk hr] at this; cases this
    · rfl
  exact sub_right hr (hn s hs)
/-- Nothing of an Event, of a Sub, of Subs. -/
theorem ev_none {a b : Ev} (ha : Wr.evsame a ev0 = true) (hb : Wr.evsame b ev0 = true) : Wr.evsame a b = true := by
  simp only [Wr.evsame, Wr.evints, Bool.and_eq_true, beq_iff_eq] at ha hb ⊢
  obtain ⟨⟨a1, a2, a3, a4, a5⟩, a6, a7⟩ := ha
  obtain ⟨⟨b1, b2, b3, b4, b5⟩, b6, b7⟩ := hb
  have e1 : a.l = [] := List.eq_nil_of_length_eq_zero (At.same_len a6)
  have e2 : b.l = [] := List.eq_nil_of_length_eq_zero (At.same_len b6)
  have e3 : a.t = [] := List.eq_nil_of_length_eq_zero (Wr.stsame_len a7)
  have e4 : b.t = [] := List.eq_nil_of_length_eq_zero (Wr.stsame_len b7)
  rw [e1, e2, e3, e4]
  exact ⟨⟨a1.trans b1.symm, a2.trans b2.symm, a3.trans b3.symm, a4.trans b4.symm, a5.trans b5.symm⟩, rfl, rfl⟩
theorem sb_none {a b : Sb} (ha : Wr.sbsame a sb0 = true) (hb : Wr.sbsame b sb0 = true) : Wr.sbsame a b = true := by
  simp only [Wr.sbsame, Bool.and_eq_true, beq_iff_eq] at ha hb ⊢
  obtain ⟨a1, a2, a3, a4⟩ := ha
  obtain ⟨b1, b2, b3, b4⟩ := hb
  have e1 : a.f.l = [] := List.eq_nil_of_length_eq_zero (Fi.same_len a4)
  have e2 : b.f.l = [] := List.eq_nil_of_length_eq_zero (Fi.same_len b4)
  rw [e1, e2]
  exact ⟨a1.trans b1.symm, a2.trans b2.symm, a3.trans b3.symm, rfl⟩
theorem sbs_none {l m : List Sb} (hl : Wr.sbssame l [] = true) (hm : Wr.sbssame m [] = true) : Wr.sbssame l m = true := by
  have e1 : l = [] := List.eq_nil_of_length_eq_zero (Wr.sbssame_len hl)
  have e2 : m = [] := List.eq_nil_of_length_eq_zero (Wr.sbssame_len hm)
  rw [e1, e2]; rfl
theorem kind_ok {f : Fr} (h : Wr.right f = true) : 1 ≤ f.k ∧ f.k ≤ 8 := by
  unfold Wr.right at h
  by_cases h1 : f.k = 1
  · omega
  by_cases h2 : f.k = 2 ∨ f.k = 3
  · omega
  by_cases h4 : f.k = 4
  · omega
  by_cases h5 : f.k = 5
  · omega
  by_cases h6 : f.k = 6
  · omega
  by_cases h7 : f.k = 7
  · omega
  by_cases h8 : f.k = 8
  · omega
  rw [if_neg h1, if_neg h2, if_neg h4, if_neg h5, if_neg h6, if_neg h7, if_neg h8] at h
  cases h
/-- Right frames that lay alike are the same. -/
theorem frame_inj {x y : Fr} (hx : Wr.right x = true) (hy : Wr.right y = true) (nx : Fnok x) (ny : Fnok y) (h : frameb x = frameb y) : Wr.same x y = true := by
  have kx := kind_ok hx
  have ky := kind_ok hy
  unfold frameb at h
  obtain ⟨hk, h2⟩ := natw_pre (show ok x.k from ⟨by omega, by omega⟩) (show ok y.k from ⟨by omega, by omega⟩) h
  clear h
  unfold Wr.right at hx hy
  rw [← hk] at h2 hy
  by_cases k1 : x.k = 1
  · rw [if_pos k1] at hx hy
    rw [if_pos k1, if_pos k1] at h2
    simp only [Bool.and_eq_true, Wr.rightCh, Wr.same, Wr.frints, beq_iff_eq] at hx hy ⊢
    obtain ⟨⟨x1, x2⟩, ⟨x3, x4, x5, x6, x7, x8⟩, x9, x10, x11, x12⟩ := hx
    obtain ⟨⟨y1, y2⟩, ⟨y3, y4, y5, y6, y7, y8⟩, y9, y10, y11, y12⟩ := hy
    obtain ⟨⟨e1, e2⟩, -⟩ := change_pre (r := []) (s := []) (sub_right x1 nx.sub) (sub_right y1 ny.sub) (by simpa using h2)
    exact ⟨⟨hk, x4.trans y4.symm, x5.trans y5.symm, x6.trans y6.symm, x7.trans y7.symm, x8.trans y8.symm⟩, ev_none x9 y9, e1, e2, sbs_none x12 y12⟩
  rw [if_neg k1] at hx hy
  rw [if_neg k1, if_neg k1] at h2
  by_cases k2 : x.k = 2 ∨ x.k = 3
  · rw [if_pos k2] at hx hy
    rw [if_pos k2, if_pos k2] at h2
    simp only [Bool.and_eq_true, Wr.same, Wr.frints, beq_iff_eq] at hx hy ⊢
    obtain ⟨x1, ⟨x3, x4, x5, x6, x7, x8⟩, x9, x10, x11, x12⟩ := hx
    obtain ⟨y1, ⟨y3, y4, y5, y6, y7, y8⟩, y9, y10, y11, y12⟩ := hy
    obtain ⟨e1, -⟩ := nats_pre (x := [x.ep]) (y := [y.ep]) (r := []) (s := []) rfl (fun n hn => by rw [List.mem_singleton.1 hn]; exact num_ok x1) (fun n hn => by rw [List.mem_singleton.1 hn]; exact num_ok y1) (by simpa using h2)
    exact ⟨⟨hk, x4.trans y4.symm, x5.trans y5.symm, x6.trans y6.symm, x7.trans y7.symm, List.cons.inj e1 |>.1⟩, ev_none x9 y9, x10.trans y10.symm, sb_none x11 y11, sbs_none x12 y12⟩
  rw [if_neg k2] at hx hy
  rw [if_neg k2, if_neg k2] at h2
  by_cases k4 : x.k = 4
  · rw [if_pos k4] at hx hy
    rw [if_pos k4, if_pos k4] at h2
    simp only [Bool.and_eq_true, Wr.same, Wr.frints, beq_iff_eq] at hx hy ⊢
    obtain ⟨x1, x2, ⟨x3, x4, x5, x6, x7, x8⟩, x9, x10, x11, x12⟩ := hx
    obtain ⟨y1, y2, ⟨y3, y4, y5, y6, y7, y8⟩, y9, y10, y11, y12⟩ := hy
    obtain ⟨e1, e2⟩ := nats_pre (x := [x.ep]) (y := [y.ep]) rfl (fun n hn => by rw [List.mem_singleton.1 hn]; exact num_ok x1) (fun n hn => by rw [List.mem_singleton.1 hn]; exact num_ok y1) h2
    obtain ⟨l1, l2⟩ := subs_right x2 nx.subs
    obtain ⟨m1, m2⟩ := subs_right y2 ny.subs
    obtain ⟨e3, -⟩ := subs_pre (r := []) (s := []) l2 (by omega) m2 (by omega) (by simpa using e2)
    exact ⟨⟨hk, x4.trans y4.symm, x5.trans y5.symm, x6.trans y6.symm, x7.trans y7.symm, List.cons.inj e1 |>.1⟩, ev_none x9 y9, x10.trans y10.symm, sb_none x11 y11, e3⟩
  rw [if_neg k4] at hx hy
  rw [if_neg k4, if_neg k4] at h2
  by_cases k5 : x.k = 5
  · rw [if_pos k5] at hx hy
    rw [if_pos k5, if_pos k5] at h2
    simp only [Bool.and_eq_true, Wr.same, Wr.frints, beq_iff_eq] at hx hy ⊢
    obtain ⟨x1, x2, ⟨x3, x4, x5, x6, x7, x8⟩, x9, x10, x11, x12⟩ := hx
    obtain ⟨y1, y2, ⟨y3, y4, y5, y6, y7, y8⟩, y9, y10, y11, y12⟩ := hy
    obtain ⟨e1, e2⟩ := nats_pre (x := [x.tb]) (y := [y.tb]) rfl (fun n hn => by rw [List.mem_singleton.1 hn]; exact broker_ok x1) (fun n hn => by rw [List.mem_singleton.1 hn]; exact broker_ok y1) h2
    obtain ⟨e3, -⟩ := event_pre (r := []) (s := []) (event_right x2 nx.atts) (event_right y2 ny.atts) (by simpa using e2)
    exact ⟨⟨hk, List.cons.inj e1 |>.1, x5.trans y5.symm, x6.trans y6.symm, x7.trans y7.symm, x8.trans y8.symm⟩, e3, x10.trans y10.symm, sb_none x11 y11, sbs_none x12 y12⟩
  rw [if_neg k5] at hx hy
  rw [if_neg k5, if_neg k5] at h2
  by_cases k6 : x.k = 6
  · rw [if_pos k6] at hx hy
    rw [if_pos k6, if_pos k6] at h2
    simp only [Bool.and_eq_true, Wr.same, Wr.frints, beq_iff_eq] at hx hy ⊢
    obtain ⟨x2, ⟨x3, x4, x5, x6, x7, x8⟩, x9, x10, x11, x12⟩ := hx
    obtain ⟨y2, ⟨y3, y4, y5, y6, y7, y8⟩, y9, y10, y11, y12⟩ := hy
    obtain ⟨e3, -⟩ := event_pre (r := []) (s := []) (event_right x2 nx.atts) (event_right y2 ny.atts) (by simpa using h2)
    exact ⟨⟨hk, x4.trans y4.symm, x5.trans y5.symm, x6.trans y6.symm, x7.trans y7.symm, x8.trans y8.symm⟩, e3, x10.trans y10.symm, sb_none x11 y11, sbs_none x12 y12⟩
  rw [if_neg k6] at hx hy
  rw [if_neg k6, if_neg k6] at h2
  by_cases k7 : x.k = 7
  · rw [if_pos k7] at hx hy
    rw [if_pos k7, if_pos k7] at h2
    simp only [Bool.and_eq_true, Wr.same, Wr.frints, beq_iff_eq] at hx hy ⊢
    obtain ⟨a1, a2, a3, ⟨x3, x4, x5, x6, x7, x8⟩, x9, x10, x11, x12⟩ := hx
    obtain ⟨b1, b2, b3, ⟨y3, y4, y5, y6, y7, y8⟩, y9, y10, y11, y12⟩ := hy
    obtain ⟨e1, -⟩ := nats_pre (x := [x.tb, x.cl, x.sq]) (y := [y.tb, y.cl, y.sq]) (r := []) (s := []) rfl (fun n hn => by
      simp only [List.mem_cons, List.not_mem_nil, or_false] at hn; rcases hn with rfl | rfl | rfl
      · exact broker_ok a1
      · exact client_ok a2
      · exact cnt_ok a3) (fun n hn => by
      simp only [List.mem_cons, List.not_mem_nil, or_false] at hn; rcases hn with rfl | rfl | rfl
      · exact broker_ok b1
      · exact client_ok b2
      · exact cnt_ok b3) (by simpa using h2)
    simp only [List.cons.injEq] at e1
    exact ⟨⟨hk, e1.1, x5.trans y5.symm, e1.2.1, e1.2.2.1, x8.trans y8.symm⟩, ev_none x9 y9, x10.trans y10.symm, sb_none x11 y11, sbs_none x12 y12⟩
  rw [if_neg k7] at hx hy
  rw [if_neg k7, if_neg k7] at h2
  have k8 : x.k = 8 := by omega
  rw [if_pos k8] at hx hy
  rw [if_pos k8, if_pos k8] at h2
  simp only [Bool.and_eq_true, Wr.same, Wr.frints, beq_iff_eq] at hx hy ⊢
  obtain ⟨a1, a2, a3, a4, ⟨x3, x4, x5, x6, x7, x8⟩, x9, x10, x11, x12⟩ := hx
  obtain ⟨b1, b2, b3, b4, ⟨y3, y4, y5, y6, y7, y8⟩, y9, y10, y11, y12⟩ := hy
  obtain ⟨e1, -⟩ := nats_pre (x := [x.tb, x.cl, x.sq, x.fm]) (y := [y.tb, y.cl, y.sq, y.fm]) (r := []) (s := []) rfl (fun n hn => by
    simp only [List.mem_cons, List.not_mem_nil, or_false] at hn; rcases hn with rfl | rfl | rfl | rfl
    · exact broker_ok a1
    · exact client_ok a2
    · exact cnt_ok a3
    · exact broker_ok a4) (fun n hn => by
    simp only [List.mem_cons, List.not_mem_nil, or_false] at hn; rcases hn with rfl | rfl | rfl | rfl
    · exact broker_ok b1
    · exact client_ok b2
    · exact cnt_ok b3
    · exact broker_ok b4) (by simpa using h2)
  simp only [List.cons.injEq] at e1
  exact ⟨⟨hk, e1.1, e1.2.2.2.1, e1.2.1, e1.2.2.1, x8.trans y8.symm⟩, ev_none x9 y9, x10.trans y10.symm, sb_none x11 y11, sbs_none x12 y12⟩
end Cd
end Go.Proofs.YtgenmebmdpnjhaaGreat

namespace Go.Proofs.YtgenmebmdpnjhaaGreat
open Go.RowKit
set_option linter.unusedVariables false
namespace Cd
theorem att_same {a b : Att} (h : At.one a b = true) : a.name = b.name ∧ Vl.same a.v b.v = true ∧ attb a = attb b := by
  simp only [At.one, Bool.and_eq_true, beq_iff_eq] at h
  have e := list_toList h.1
  exact ⟨e, h.2, by unfold attb; rw [e, value_same h.2]⟩
theorem atts_lay : ∀ {l m : List Att}, At.same l m = true → l.flatMap attb = m.flatMap attb ∧ l.length = m.length
  | [], [], _ => ⟨rfl, rfl⟩
  | [], _ :: _, h => by simp [At.same] at h
  | _ :: _, [], h => by simp [At.same] at h
  | a :: l, b :: m, h => by
    simp only [At.same, Bool.and_eq_true] at h
    obtain ⟨h1, h2⟩ := atts_lay h.2
    rw [List.flatMap_cons, List.flatMap_cons, (att_same h.1).2.2, h1, List.length_cons, List.length_cons, h2]
    exact ⟨rfl, rfl⟩
theorem sts_eq : ∀ {l m : List St}, Wr.stsame l m = true → l = m
  | [], [], _ => rfl
  | [], _ :: _, h => by simp [Wr.stsame] at h
  | _ :: _, [], h => by simp [Wr.stsame] at h
  | a :: l, b :: m, h => by
    simp only [Wr.stsame, Bool.and_eq_true, beq_iff_eq] at h
    rw [sts_eq h.2]
    cases a; cases b
    obtain ⟨⟨h1, h2⟩, -⟩ := h
    dsimp only at h1 h2
    rw [h1, h2]
theorem event_lay {a b : Ev} (h : Wr.evsame a b = true) : eventb a = eventb b := by
  simp only [Wr.evsame, Wr.evints, Bool.and_eq_true, beq_iff_eq] at h
  obtain ⟨⟨h1, h2, h3, h4, h5⟩, h6, h7⟩ := h
  obtain ⟨e1, e2⟩ := atts_lay h6
  unfold eventb
  rw [h1, h2, h3, h4, h5, e1, e2, sts_eq h7]
theorem sames_lay : ∀ {l m : List Val}, Pd.sames l m = true → l.flatMap valueb = m.flatMap valueb ∧ l.length = m.length
  | [], [], _ => ⟨rfl, rfl⟩
  | [], _ :: _, h => by simp [Pd.sames] at h
  | _ :: _, [], h => by simp [Pd.sames] at h
  | a :: l, b :: m, h => by
    simp only [Pd.sames, Bool.and_eq_true] at h
    obtain ⟨h1, h2⟩ := sames_lay h.2
    rw [List.flatMap_cons, List.flatMap_cons, value_same h.1, h1, List.length_cons, List.length_cons, h2]
    exact ⟨rfl, rfl⟩
theorem pred_parts {a b : Prd} (h : Pd.same a b = true) : a.name = b.name ∧ a.t = b.t ∧ Vl.same a.v b.v = true ∧ Vl.same a.w b.w = true ∧ Pd.sames a.set b.set = true := by
  simp only [Pd.same, Pd.sameT, Bool.and_eq_true, decide_eq_true_eq, beq_iff_eq] at h
  exact ⟨list_toList h.1, h.2.1.1.1, h.2.1.1.2, h.2.1.2, h.2.2⟩
theorem pred_lay {a b : Pt} (h : Pd.same a.p b.p = true) : predb a = predb b := by
  obtain ⟨h1, h2, h3, h4, h5⟩ := pred_parts h
  obtain ⟨e1, e2⟩ := sames_lay h5
  unfold predb needsb setb
  rw [h1, h2, value_same h3, value_same h4, e1, e2]
theorem filter_lay : ∀ {l m : List Pt}, Fi.same l m = true → l.flatMap predb = m.flatMap predb ∧ l.length = m.length
  | [], [], _ => ⟨rfl, rfl⟩
  | [], _ :: _, h => by simp [Fi.same] at h
  | _ :: _, [], h => by simp [Fi.same] at h
  | a :: l, b :: m, h => by
    simp only [Fi.same, Bool.and_eq_true] at h
    obtain ⟨h1, h2⟩ := filter_lay h.2
    rw [List.flatMap_cons, List.flatMap_cons, pred_lay h.1, h1, List.length_cons, List.length_cons, h2]
    exact ⟨rfl, rfl⟩
theorem sub_lay {a b : Sb} (h : Wr.sbsame a b = true) : subb a = subb b := by
  simp only [Wr.sbsame, Bool.and_eq_true, beq_iff_eq] at h
  obtain ⟨h1, h2, h3, h4⟩ := h
  obtain ⟨e1, e2⟩ := filter_lay h4
  unfold subb filterb
  rw [h1, h2, h3, e1, e2]
theorem subs_lay : ∀ {l m : List Sb}, Wr.sbssame l m = true → l.flatMap subb = m.flatMap subb ∧ l.length = m.length
  | [], [], _ => ⟨rfl, rfl⟩
  | [], _ :: _, h => by simp [Wr.sbssame] at h
  | _ :: _, [], h => by simp [Wr.sbssame] at h
  | a :: l, b :: m, h => by
    simp only [Wr.sbssame, Bool.and_eq_true] at h
    obtain ⟨h1, h2⟩ := subs_lay h.2
    rw [List.flatMap_cons, List.flatMap_cons, sub_lay h.1, h1, List.length_cons, List.length_cons, h2]
    exact ⟨rfl, rfl⟩
/-- Frames that are the same lay the same. -/
theorem frame_lay {x y : Fr} (h : Wr.same x y = true) : frameb x = frameb y := by
  simp only [Wr.same, Wr.frints, Bool.and_eq_true, beq_iff_eq] at h
  obtain ⟨⟨h1, h2, h3, h4, h5, h6⟩, h7, h8, h9, h10⟩ := h
  obtain ⟨e1, e2⟩ := subs_lay h10
  unfold frameb changeb subsb
  rw [h1, h2, h3, h4, h5, h6, event_lay h7, h8, sub_lay h9, e1, e2]
theorem zx_iff (x : Nat) : Vl.zx x = decide (Fl.bits x = 0) := by
  cases h : Vl.zx x
  · symm
    rw [decide_eq_false_iff_not]
    intro hb
    have hz : (FloatKind.f64.format.order x 0 == some .eq) = false := by
      unfold Vl.zx at h
      rw [beq_eq_false_iff_ne]; exact of_decide_eq_false h
    cases hn : Fl.nan x
    · rw [Fl.ord_zero hn] at hz
      rw [Fl.bits_else hn hz] at hb
      subst hb
      revert hz
      decide
    · unfold Fl.bits at hb
      rw [hn] at hb
      simp at hb
  · rw [zx_bits h]; rfl
theorem right_same {a b : Val} (h : Vl.same a b = true) : Vl.right a = Vl.right b := by
  obtain ⟨h1, h2, h3, h4, h5⟩ := same_iff.1 h
  have e := list_toList h4
  unfold Vl.right
  rw [h1, h2, zx_iff, zx_iff, h3, e, h5]
theorem zero_same {a b : Val} (h : Vl.same a b = true) : Pd.zero a = Pd.zero b := by
  obtain ⟨h1, h2, h3, h4, h5⟩ := same_iff.1 h
  unfold Pd.zero Vl.same Fl.same
  rw [h1, h2, h3, h4, h5]
theorem okFrom_same : ∀ {l m : List Att} (p : Option ByteArray), At.same l m = true → At.okFrom p l = At.okFrom p m
  | [], [], _, _ => rfl
  | [], _ :: _, _, h => by simp [At.same] at h
  | _ :: _, [], _, h => by simp [At.same] at h
  | a :: l, b :: m, p, h => by
    simp only [At.same, Bool.and_eq_true] at h
    obtain ⟨h1, h2, -⟩ := att_same h.1
    rw [At.okFrom, At.okFrom, h1, right_same h2, okFrom_same _ h.2]
theorem atts_right_same {l m : List Att} (h : At.same l m = true) : At.right l = At.right m := by
  unfold At.right
  rw [okFrom_same none h, (atts_lay h).2]
theorem event_right_same {a b : Ev} (h : Wr.evsame a b = true) : Wr.rightEv a = Wr.rightEv b := by
  simp only [Wr.evsame, Wr.evints, Bool.and_eq_true, beq_iff_eq] at h
  obtain ⟨⟨h1, h2, h3, h4, h5⟩, h6, h7⟩ := h
  unfold Wr.rightEv
  rw [h1, h2, h3, h4, h5, atts_right_same h6, sts_eq h7]
theorem rset_same : ∀ {l m : List Val}, Pd.sames l m = true → l.all Vl.right = m.all Vl.right
  | [], [], _ => rfl
  | [], _ :: _, h => by simp [Pd.sames] at h
  | _ :: _, [], h => by simp [Pd.sames] at h
  | a :: l, b :: m, h => by
    simp only [Pd.sames, Bool.and_eq_true] at h
    rw [List.all_cons, List.all_cons, right_same h.1, rset_same h.2]
theorem pred_right_same {a b : Prd} (h : Pd.same a b = true) : Pd.right a = Pd.right b := by
  obtain ⟨h1, h2, h3, h4, h5⟩ := pred_parts h
  have hk := (same_iff.1 h3).1
  unfold Pd.right Pd.rset
  rw [h1, h2, right_same h3, right_same h4, zero_same h3, zero_same h4, (sames_lay h5).2, rset_same h5, hk]
theorem filter_at : ∀ {l m : List Pt} (i : Nat), Fi.same l m = true → (l[i]?.map fun x => (x.p.name, Pd.right x.p)) = (m[i]?.map fun x => (x.p.name, Pd.right x.p))
  | [], [], _, _ => rfl
  | [], _ :: _, _, h => by simp [Fi.same] at h
  | _ :: _, [], _, h => by simp [Fi.same] at h
  | a :: l, b :: m, 0, h => by
    simp only [Fi.same, Bool.and_eq_true] at h
    simp [(pred_parts h.1).1, pred_right_same h.1]
  | a :: l, b :: m, i + 1, h => by
    simp only [Fi.same, Bool.and_eq_true] at h
    simpa using filter_at i h.2
theorem filter_at_right {l m : List Pt} (h : Fi.same l m = true) (k : Nat) : Fi.rightAt l k = Fi.rightAt m k := by
  have e1 := filter_at k h
  unfold Fi.rightAt
  match k with
  | 0 =>
    cases hl : l[0]? <;> cases hm : m[0]? <;> rw [hl, hm] at e1 <;> simp at e1 ⊢
    exact e1.2
  | j + 1 =>
    have e2 := filter_at j h
    cases hl : l[j + 1]? <;> cases hm : m[j + 1]? <;> rw [hl, hm] at e1 <;> simp at e1 ⊢
    cases hl2 : l[j]? <;> cases hm2 : m[j]? <;> rw [hl2, hm2] at e2 <;> simp at e2 ⊢
    rw [e1.1, e1.2, e2.1]
theorem filter_right_same {l m : List Pt} (h : Fi.same l m = true) : Fi.right l = Fi.right m := by
  unfold Fi.right
  rw [(filter_lay h).2]
  congr 1
  exact congrArg _ (funext fun k => filter_at_right h k)
theorem sub_right_same {a b : Sb} (h : Wr.sbsame a b = true) : a.c = b.c ∧ a.n = b.n ∧ Wr.rightSb a = Wr.rightSb b ∧ a.f.l.length = b.f.l.length := by
  simp only [Wr.sbsame, Bool.and_eq_true, beq_iff_eq] at h
  obtain ⟨h1, h2, h3, h4⟩ := h
  exact ⟨h1, h3, by unfold Wr.rightSb; rw [h1, h2, h3, filter_right_same h4], (filter_lay h4).2⟩
theorem subs_at : ∀ {l m : List Sb} (i : Nat), Wr.sbssame l m = true → (l[i]?.map fun s => (s.c, s.n, Wr.rightSb s)) = (m[i]?.map fun s => (s.c, s.n, Wr.rightSb s))
  | [], [], _, _ => rfl
  | [], _ :: _, _, h => by simp [Wr.sbssame] at h
  | _ :: _, [], _, h => by simp [Wr.sbssame] at h
  | a :: l, b :: m, 0, h => by
    simp only [Wr.sbssame, Bool.and_eq_true] at h
    obtain ⟨h1, h2, h3, -⟩ := sub_right_same h.1
    simp [h1, h2, h3]
  | a :: l, b :: m, i + 1, h => by
    simp only [Wr.sbssame, Bool.and_eq_true] at h
    simpa using subs_at i h.2
theorem subs_at_right {l m : List Sb} (h : Wr.sbssame l m = true) (k : Nat) : Wr.sbAt l k = Wr.sbAt m k := by
  have e1 := subs_at k h
  unfold Wr.sbAt
  match k with
  | 0 =>
    cases hl : l[0]? <;> cases hm : m[0]? <;> rw [hl, hm] at e1 <;> simp at e1 ⊢
    exact e1.2.2
  | j + 1 =>
    have e2 := subs_at j h
    cases hl : l[j + 1]? <;> cases hm : m[j + 1]? <;> rw [hl, hm] at e1 <;> simp at e1 ⊢
    cases hl2 : l[j]? <;> cases hm2 : m[j]? <;> rw [hl2, hm2] at e2 <;> simp at e2 ⊢
    unfold Wr.behind
    rw [e1.1, e1.2.1, e1.2.2, e2.1, e2.2.1]
theorem subs_right_same {l m : List Sb} (h : Wr.sbssame l m = true) : Wr.rightSbs l = Wr.rightSbs m := by
  unfold Wr.rightSbs
  rw [(subs_lay h).2]
  congr 1
  exact congrArg _ (funext fun k => subs_at_right h k)
/-- Each is the same as itself. -/
theorem same_refl (a : Val) : Vl.same a a = true := same_iff.2 ⟨rfl, rfl, rfl, rfl, rfl⟩
theorem atts_refl : ∀ l : List Att, At.same l l = true
  | [] => rfl
  | a :: l => by simp only [At.same, At.one, Bool.and_eq_true, beq_iff_eq]; exact ⟨⟨trivial, same_refl _⟩, atts_refl l⟩
theorem sts_refl : ∀ l : List St, Wr.stsame l l = true
  | [] => rfl
  | a :: l => by simp only [Wr.stsame, Bool.and_eq_true, beq_iff_eq]; exact ⟨⟨trivial, trivial⟩, sts_refl l⟩
theorem event_refl (e : Ev) : Wr.evsame e e = true := by
  simp only [Wr.evsame, Wr.evints, Bool.and_eq_true, beq_iff_eq]
  exact ⟨⟨trivial, trivial, trivial, trivial, trivial⟩, atts_refl _, sts_refl _⟩
theorem sames_refl : ∀ l : List Val, Pd.sames l l = true
  | [] => rfl
  | a :: l => by simp only [Pd.sames, Bool.and_eq_true]; exact ⟨same_refl _, sames_refl l⟩
theorem pred_refl (p : Prd) : Pd.same p p = true := by
  simp only [Pd.same, Pd.sameT, Bool.and_eq_true, decide_eq_true_eq, beq_iff_eq]
  exact ⟨trivial, ⟨⟨trivial, same_refl _⟩, same_refl _⟩, sames_refl _⟩
theorem filter_refl : ∀ l : List Pt, Fi.same l l = true
  | [] => rfl
  | a :: l => by simp only [Fi.same, Bool.and_eq_true]; exact ⟨pred_refl _, filter_refl l⟩
theorem sub_refl (s : Sb) : Wr.sbsame s s = true := by
  simp only [Wr.sbsame, Bool.and_eq_true, beq_iff_eq]
  exact ⟨trivial, trivial, trivial, filter_refl _⟩
theorem subs_refl : ∀ l : List Sb, Wr.sbssame l l = true
  | [] => rfl
  | a :: l => by simp only [Wr.sbssame, Bool.and_eq_true]; exact ⟨sub_refl _, subs_refl l⟩
/-- Beside nothing. -/
theorem atts_nil : ∀ l : List Att, At.same l [] = decide (l.length = 0)
  | [] => rfl
  | _ :: _ => by simp [At.same]
theorem sts_nil : ∀ l : List St, Wr.stsame l [] = decide (l.length = 0)
  | [] => rfl
  | _ :: _ => by simp [Wr.stsame]
theorem filter_nil : ∀ l : List Pt, Fi.same l [] = decide (l.length = 0)
  | [] => rfl
  | _ :: _ => by simp [Fi.same]
theorem subs_nil : ∀ l : List Sb, Wr.sbssame l [] = decide (l.length = 0)
  | [] => rfl
  | _ :: _ => by simp [Wr.sbssame]
theorem ev_zero {a b : Ev} (h : Wr.evsame a b = true) : Wr.evsame a ev0 = Wr.evsame b ev0 := by
  simp only [Wr.evsame, Wr.evints, Bool.and_eq_true, beq_iff_eq] at h
  obtain ⟨⟨h1, h2, h3, h4, h5⟩, h6, h7⟩ := h
  unfold Wr.evsame Wr.evints
  rw [h1, h2, h3, h4, h5, atts_nil, atts_nil, (atts_lay h6).2, sts_eq h7]
theorem sb_zero' {a b : Sb} (h : Wr.sbsame a b = true) : Wr.sbsame a sb0 = Wr.sbsame b sb0 := by
  simp only [Wr.sbsame, Bool.and_eq_true, beq_iff_eq] at h
  obtain ⟨h1, h2, h3, h4⟩ := h
  unfold Wr.sbsame
  rw [h1, h2, h3, filter_nil, filter_nil, (filter_lay h4).2]
theorem sbs_zero {l m : List Sb} (h : Wr.sbssame l m = true) : Wr.sbssame l [] = Wr.sbssame m [] := by
  rw [subs_nil, subs_nil, (subs_lay h).2]
/-- Frames that are the same are right or not alike. -/
theorem frame_right {x y : Fr} (h : Wr.same x y = true) : Wr.right x = Wr.right y := by
  simp only [Wr.same, Wr.frints, Bool.and_eq_true, beq_iff_eq] at h
  obtain ⟨⟨h1, h2, h3, h4, h5, h6⟩, h7, h8, h9, h10⟩ := h
  obtain ⟨s1, s2, s3, s4⟩ := sub_right_same h9
  unfold Wr.right Wr.rightCh
  rw [event_right_same h7, s3, s4, subs_right_same h10]
  simp only [Wr.same, Wr.frints]
  rw [h1, h2, h3, h4, h5, h6, h8, ev_zero h7, sb_zero' h9, sbs_zero h10, sub_refl, sub_refl, event_refl, event_refl, subs_refl, subs_refl]
end Cd
end Go.Proofs.YtgenmebmdpnjhaaGreat
