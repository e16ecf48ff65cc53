
/- AttrOwn: the walk. -/
import Derived.Test.YtbmjpajcoeaacaaAttrFinds
namespace Go.Proofs.Ytbmjpajcoeaacaa
open Go.RowKit

namespace At
def bh : Att := ⟨⟨#[98, 101, 104, 105, 110, 100]⟩, z0⟩
def mo : Att := ⟨⟨#[109, 111, 114, 101]⟩, z0⟩
end At

set_option maxRecDepth 100000 in
set_option maxHeartbeats 8000000 in
theorem aown_walk (A : Option Addr) (len cap : Nat) (at_ : Int) (w : World) (hd : Draws w.heap.size w A len) :
    Calls Try.prog 6 #[.slice A len cap, .int .i64 at_] w fun e w' => e = .returned (.bool true) ∧ Below w.heap.size w w' := by
  have hF0 := Lib.hid (feed_new (cap := cap) hd 40)
  have HB0 := Lib.hid (one_new w (.cells #[.slice A len cap, .int .i64 0] 40))
  clear hd
  go_enter Try.func6, Try.ntmps6
  go_wp2_with fail
  refine (feedattrs_any _ (by omega) hF0.out).mono ?_
  rintro e w1 ⟨v, l, rfl, hfed, hO, -, hK⟩
  have HB1 : Hid (Below w.heap.size w w1) := HB0.out.trans (hK.below (by simp) (by intro k hk e; omega))
  obtain ⟨A1, c1, rfl, hc1, hc2, hr1, hA1, -, hnil⟩ := hO.reads
  have HFed := Lib.hid hfed
  have HA : Hid (Ats w1 A1 l.length l) := ⟨hr1, hfed.small, by unfold maxLen at hc2; omega⟩
  have HN := Lib.hid hnil
  have HL := Lib.hid hA1
  have hl5 := hfed.len
  clear hO hfed hr1 hA1 hnil hK hF0 HB0
  have HO0 : Hid (OwnW 6 w1.heap.size 27 (w1.alloc (.cells #[] 27)) (.slice (some ⟨w1.heap.size, 0, none⟩) 0 0) 0 []) := OwnW.of_row (Nat.le_refl _) (heap_alloc_new _ _) rfl (by unfold maxLen; omega)
  go_upto_region 4 with (first | (at_builtin; refine wpList_ownw (k := 6) rfl _ _ 28 rfl Try.underlying28 att_info rfl (by decide) w1.heap.size _ 0 [] rfl HO0.out A1 l.length c1 rfl HN.out (flat l) (HA.out.row.later (one_new _ _)) (flat_one _) (by omega) (by decide) ?_; intro v2 w2 hO2 hK2; have HO2 := Lib.hid hO2; have HK2 := Lib.hid hK2; clear hO2 hK2) | (at_builtin; refine wpList_ownw (k := 6) rfl _ _ 28 rfl Try.underlying28 att_info rfl (by decide) w1.heap.size _ _ _ rfl (HO2.out.later (one_new _ _)) _ 1 1 rfl (fun h => by cases h) (flat [At.bh]) (new_att w2 At.bh) (flat_one _) (by omega) (by decide) ?_; intro v3 w3 hO3 hK3; have HO3 := Lib.hid hO3; have HK3 := Lib.hid hK3; clear hO3 hK3))
  have HB3 : Hid (Below w1.heap.size w1 w3) := by
    have k0 := Kept.alloc (fun i => w1.heap.size ≤ i) w1 (.cells #[] 27)
    have k2 := k0.then (HK2.out.mono (T := fun i => w1.heap.size ≤ i) (fun i _ e => by cases e; exact Nat.le_refl _))
    have k3 := (k2.then (Kept.alloc (fun i => w1.heap.size ≤ i) w2 _)).then (HK3.out.mono (T := fun i => w1.heap.size ≤ i) (fun i _ e => (HO2.out.1.lt i e).1))
    exact k3.below (Nat.le_refl _) (fun i hi => by omega)
  have hO3 : OwnA w1.heap.size w3 v3 (l ++ [At.bh]) := own_add (by simpa using HO3.out)
  obtain ⟨A3, c3, rfl, hc3, hm3, hr3, hA3, -, -⟩ := hO3.reads
  have hfz : ∀ a, a ∈ l ++ [At.bh] → a.name.size ≤ 9223372036854775807 := by
    intro a ha
    rcases List.mem_append.1 ha with h | h
    · exact HFed.out.small a h
    · rw [List.mem_singleton.1 h]; decide
  have HFull : Hid (Ats w3 A3 (l ++ [At.bh]).length (l ++ [At.bh])) := ⟨hr3, hfz, by unfold maxLen at hm3; omega⟩
  have HPart : Hid (Ats w3 A3 l.length l) := by
    have := hr3.take (k := l.length) (by simp)
    rw [List.take_left] at this
    exact (⟨this, HFed.out.small, by unfold maxLen at hm3; omega⟩ : Ats w3 A3 l.length l)
  have hll : (l ++ [At.bh]).length = l.length + 1 := by simp
  have HA3 := Lib.hid (HA.out.later HB3.out)
  have HL3 := Lib.hid hA3
  have hn1 : ∀ x, A1 = some x → x.block < w3.heap.size := fun x e => Nat.lt_of_lt_of_le (HL.out x e).2 HB3.out.size
  have HN1 := Lib.hid hn1
  have HW3 := Lib.hid (below_then HB1.out HB3.out)
  clear hO3 HO3 HO2 HO0 HK2 HK3 hfz hr3 hA3 HA HL hn1 HB1
  rw [hll] at HFull hc3 ⊢
  have hc3' : l.length ≤ c3 := by omega
  go_wp2_with fail
  refine (copy_any HPart.out (by omega)).mono ?_
  rintro e w4 ⟨rfl, hr4, hb4⟩
  have HR4 := Lib.hid hr4
  have HO4 : Hid (OwnW 6 w3.heap.size 27 w4 (.slice (some ⟨w3.heap.size, 0, none⟩) l.length l.length) l.length (flat l)) := OwnW.of_row (Nat.le_refl _) hr4 (flat_len _ Att.cells_len _) (by unfold maxLen; omega)
  have HB4 := Lib.hid hb4
  clear hr4 hb4
  go_wp2_with fail
  refine (known_any _).mono ?_
  rintro e w5 ⟨rfl, hb5⟩
  replace HB4 := Lib.hid (below_then HB4.out hb5)
  replace HO4 := Lib.hid (HO4.out.later hb5)
  clear hb5 HR4 w4
  go_wp2_with fail
  refine (asame_any (HA3.out.later HB4.out) (HO4.out.ats HFed.out.small)).mono ?_
  rw [At.same_refl]
  rintro e w6 ⟨rfl, hb6⟩
  replace HB4 := Lib.hid (below_then HB4.out hb6)
  replace HO4 := Lib.hid (HO4.out.later hb6)
  clear hb6 w5
  go_upto_if 36 with fail
  go_cut [] (fun wx => ∃ xs, OwnW 6 w3.heap.size 27 wx (.slice (some ⟨w3.heap.size, 0, none⟩) l.length l.length) l.length xs ∧ Below w3.heap.size w3 wx)
  case first =>
    by_cases h0 : (l.length : Int) > 0
    case neg =>
      go_wp2_with fail
      go_meet
      exact ⟨_, HO4.out, HB4.out⟩
    case pos =>
      go_wp2_with fail
      refine (pick_any at_ l.length (by omega) (by omega) _).mono ?_
      rintro e w' ⟨rfl, rfl⟩
      have hp1 := Int.emod_nonneg at_ (show (l.length : Int) ≠ 0 by omega)
      have hp2 := Int.emod_lt_of_pos at_ (show 0 < (l.length : Int) by omega)
      obtain ⟨q, hq⟩ := Int.eq_ofNat_of_zero_le hp1
      rw [hq] at hp2 ⊢
      clear hp1 hq
      obtain ⟨g', o', e', hg⟩ := (HO4.out.ats HFed.out.small).at (by omega)
      cases e'
      obtain ⟨a, ha⟩ : ∃ a, l[q]? = some a := ⟨_, List.getElem?_eq_getElem (by omega)⟩
      have c0 := (hg q a ha).h0
      have f0 := HO4.out.thaw (q * 6)
      rw [Nat.zero_add] at c0
      clear hg ha
      go_wp2_with fail
      go_meet
      exact ⟨_, HO4.out.store (q * 6) _ (by omega), HB4.out.setCell (Nat.le_refl _) _⟩
  case rest =>
    obtain ⟨xs, hO5, hB5⟩ := hcut
    have HO5 := Lib.hid hO5
    have HB5 := Lib.hid hB5
    have HF5 := Lib.hid (HFull.out.later hB5)
    have HP5 := Lib.hid (HPart.out.later hB5)
    have HA5 := Lib.hid (HA3.out.later hB5)
    clear hO5 hB5 HFull HPart HA3 HO4 HB4
    go_upto_region 10 with (first | (at_builtin; refine wpList_ownw (k := 6) rfl _ _ 28 rfl Try.underlying28 att_info rfl (by decide) w3.heap.size _ _ _ rfl (HO5.out.later (one_new _ _)) _ 1 1 rfl (fun h => by cases h) (flat [At.mo]) (new_att wc At.mo) (flat_one _) (by omega) (by decide) ?_; intro v7 w7 hO7 hK7; have HO7 := Lib.hid hO7; have HK7 := Lib.hid hK7; clear hO7 hK7))
    have hK7 : Kept (fun i => w3.heap.size ≤ i) wc w7 := (Kept.alloc _ wc _).then (HK7.out.mono (fun i _ e => by cases e; exact Nat.le_refl _))
    have HF7 := Lib.hid (HF5.out.kept hK7 (fun x e => by have := (HL3.out x e).2; omega))
    have HP7 := Lib.hid (HP5.out.kept hK7 (fun x e => by have := (HL3.out x e).2; omega))
    have HA7 := Lib.hid (HA5.out.kept hK7 (fun x e => by have := HN1.out x e; omega))
    have HW7 : Hid (Below w.heap.size w w7) := (below_then HW3.out HB5.out).trans (hK7.below (Nat.le_trans HW3.out.size HB5.out.size) (fun i hi => by have := HW3.out.size; omega))
    obtain ⟨A7, c7, rfl, -⟩ := HO7.out.reads
    clear hK7 HK7 HO7 HF5 HP5 HA5 HW3 HB5 HO5
    obtain ⟨g3, o3, rfl, hg⟩ := HF7.out.at (by omega)
    have HS := Lib.hid (hg l.length At.bh (by simp))
    clear hg
    go_wp2_with fail
    refine (asame_any HP7.out HA7.out).mono ?_
    rw [At.same_refl]
    rintro e w8 ⟨rfl, hb8⟩
    have c0 : w8.cell? ⟨g3, o3 + l.length * 6, none⟩ = some (.string ⟨#[98, 101, 104, 105, 110, 100]⟩) := (HS.out.later hb8).h0
    have HW8 := Lib.hid (below_then HW7.out hb8)
    have u1 : IntKind.i64.wrap ((l.length : Int) + 1) = (l.length : Int) + 1 := IntWalk.i64_in _ (by omega)
    clear hb8 HW7 HS HF7 HP7 HA7
    go_wp2_with fail
    go_ret
    exact ⟨rfl, HW8.out⟩
theorem aown_below (w : World) (A : Option Addr) (len cap : Nat) (zs : List Int) (hr : IsRow .i64 w A len cap zs) (m : Int) (_ : (Lit.int .i64 m).wf = true) :
    Calls Try.prog 6 #[.slice A len cap, .int .i64 m] w fun e w' => e = .returned (.bool true) ∧ Below w.heap.size w w' := aown_walk A len cap m w hr.draws
end Go.Proofs.Ytbmjpajcoeaacaa
