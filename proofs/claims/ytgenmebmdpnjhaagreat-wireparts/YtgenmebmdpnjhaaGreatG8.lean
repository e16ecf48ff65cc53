/- G8: FeedStamps, FeedEvent in one text. -/
import Derived.Test.YtgenmebmdpnjhaaGreatWireRight1
import Derived.Test.YtgenmebmdpnjhaaGreatG1a
import Derived.Deep.DeepCutAuto
import Derived.Test.YtgenmebmdpnjhaaGreatG6
namespace Go.Proofs.YtgenmebmdpnjhaaGreat
open Go.RowKit
set_option linter.unusedVariables false
namespace Wr
/-- Stamps as hand draws them: rising, below m. -/
structure Sted (m : Nat) (l : List St) : Prop where
  rise : l.Pairwise fun x y => x.atom < y.atom
  each : ∀ s, s ∈ l → 0 ≤ s.atom ∧ s.atom < (m : Int) ∧ 1 ≤ s.n ∧ s.n ≤ 5
theorem Sted.nil : Sted 0 [] := ⟨List.Pairwise.nil, by simp⟩
theorem Sted.add {m : Nat} {l : List St} (h : Sted m l) {t n : Nat} (hn : n < 5) : Sted (m + t + 1) (l ++ [⟨(m : Int) + (t : Int), 1 + (n : Int)⟩]) := by
  refine ⟨?_, fun s hs => ?_⟩
  · rw [List.pairwise_append]
    refine ⟨h.rise, by simp, fun x hx y hy => ?_⟩
    rw [List.mem_singleton.1 hy]
    have := h.each x hx
    dsimp only
    omega
  · rcases List.mem_append.1 hs with h1 | h1
    · have := h.each s h1; omega
    · rw [List.mem_singleton.1 h1]; dsimp only; omega
theorem Sted.right {m : Nat} {l : List St} (h : Sted m l) (hl : l.length ≤ 200) (hm : m ≤ 1000) : rightSts l = true := by
  unfold rightSts
  rw [decide_eq_true hl, Bool.true_and, List.all_eq_true]
  intro k hk
  have hk := List.mem_range.1 hk
  have hx := List.getElem?_eq_getElem hk
  have hr : (num l[k].atom && cnt l[k].n) = true := by
    have := h.each _ (List.getElem_mem hk)
    simp only [num, cnt, Bool.and_eq_true, decide_eq_true_eq]
    omega
  match k, hk, hx, hr with
  | 0, _, hx, hr => rw [st_zero hx]; exact hr
  | j + 1, hk, hx, hr =>
    have hy := List.getElem?_eq_getElem (show j < l.length by omega)
    rw [st_succ hx hy, hr, Bool.true_and]
    exact decide_eq_true (List.pairwise_iff_getElem.1 h.rise j (j + 1) (by omega) hk (by omega))
end Wr
theorem info_stamp : (Tryz.prog.info? 68).map (fun i => (i.zero, i.size, i.bytes)) = some (some (.agg #[.int .i64 0, .int .i64 0]), 2, 16) := by kernel_rfl
abbrev OwnT (B : Nat) (w : World) (v : Value) (l : List St) : Prop := OwnW 2 B 68 w v l.length (stflat l)
theorem stflat_add (l : List St) (s : St) : stflat l ++ s.cells = stflat (l ++ [s]) := by simp [stflat]
theorem new_stamp (w : World) (s : St) : Rs 2 (w.alloc (stbox s)) (some ⟨w.heap.size, 0, none⟩) 1 s.cells := by
  refine ⟨rfl, .inr ⟨w.heap.size, 0, rfl, fun j u hj => ?_⟩⟩
  rw [World.cell?_alloc_new, Nat.zero_add]
  simpa [St.cells] using hj
theorem st_one (s : St) : ∀ u ∈ s.cells, u.oneCell' = true := by
  intro u hu
  simp only [St.cells, List.mem_cons, List.not_mem_nil, or_false] at hu
  rcases hu with rfl | rfl <;> rfl
/-- What Stamps tells. -/
def StampsPost (B b a : Nat) (w : World) (e : Ending) (w' : World) : Prop :=
  ∃ (v : Value) (m : Nat) (l : List St), e = .returned v ∧ Wr.Sted m l ∧ m ≤ 16 ∧ l.length ≤ 4 ∧ OwnT w.heap.size w' v l ∧ IsFeed B w' b (a + 9) ∧ Kept (· = b) w w'

set_option maxRecDepth 100000 in
set_option maxHeartbeats 4000000 in
theorem feedstamps_any {B b a : Nat} (w : World) (ha : a < 4611686018427386000) (hf : IsFeed B w b a) :
    Calls Tryz.prog 63 #[.pointer (some ⟨b, 0, none⟩)] w (StampsPost B b a w) := by
  have hlt := hf.lt
  have HF := Lib.hid hf
  clear hf
  go_enter Tryz.func63, Tryz.ntmps63
  go_wp2_with fail
  refine (next_any 5 (by omega) (by omega) _ (by omega) HF.out).mono ?_
  rintro e w1 ⟨n0, hn0, rfl, hF1, hK1, hs1⟩
  have HF1 := Lib.hid hF1
  have HK1 := Lib.hid hK1
  have hs2 := Nat.le_of_eq hs1.symm
  clear hF1 hK1 hs1 HF
  go_wp2_with fail
  go_loopw [3, 4, 5] (fun xv mm ii wr => ∃ (k m : Nat) (l : List St), l.length + k ≤ 4 ∧ m ≤ 4 * l.length ∧ ii = .int .i64 (k : Int) ∧ mm = .int .i64 (m : Int) ∧ Wr.Sted m l ∧ OwnT w.heap.size wr xv l ∧ IsFeed B wr b (a + 1 + 2 * l.length) ∧ Kept (· = b) w wr) (fun _ _ ii _ => (intOf ii).toNat)
  case atStart => exact ⟨n0, 0, [], by simp; omega, by omega, rfl, rfl, Wr.Sted.nil, OwnW.nil _ _ _ hs2, HF1.out, HK1.out⟩
  case round =>
    obtain ⟨k, m, l, hkl, hm, rfl, rfl, hst, hO, hF, hK⟩ := hrel
    have HS := Lib.hid hst
    have HO := Lib.hid hO
    have HF2 := Lib.hid hF
    have HK := Lib.hid hK
    clear hst hO hF hK HF1 HK1
    by_cases h0 : 0 < k
    · have h0' : (0 : Int) < (k : Int) := by omega
      go_wp2_with fail
      refine (next_any 4 (by omega) (by omega) _ (by omega) HF2.out).mono ?_
      rintro e w2 ⟨t, ht, rfl, hF3, hK3, -⟩
      have HF3 := Lib.hid hF3
      have HO3 := Lib.hid (HO.out.kept hK3 (ownw_apart HO.out (by omega)))
      have HK3 := Lib.hid (HK.out.then hK3)
      clear hF3 hK3 HF2 HO HK
      go_wp2_with fail
      refine (next_any 5 (by omega) (by omega) _ (by omega) HF3.out).mono ?_
      rintro e w3 ⟨q, hq, rfl, hF4, hK4, -⟩
      have HF4 := Lib.hid hF4
      have HO4 := Lib.hid (HO3.out.kept hK4 (ownw_apart HO3.out (by omega)))
      have HK4 := Lib.hid (HK3.out.then hK4)
      clear hF4 hK4 HF3 HO3 HK3
      have hn := one_new w3 (stbox ⟨(m : Int) + (t : Int), 1 + (q : Int)⟩)
      have HO5 := Lib.hid (HO4.out.later hn)
      have HF5 := Lib.hid (HF4.out.below hn)
      have HN := Lib.hid (new_stamp w3 ⟨(m : Int) + (t : Int), 1 + (q : Int)⟩)
      have HK5 := Lib.hid (HK4.out.then (Kept.ofBelow (S := (· = b)) hn))
      clear hn HO4 HF4 HK4
      dsimp only [stbox] at HO5 HF5 HN HK5
      have hq5 : q < 5 := by omega
      go_wp2_with (first | (at_builtin; refine wpList_ownw (k := 2) rfl _ _ 28 rfl Tryz.underlying28 info_stamp rfl (by decide) w.heap.size _ l.length (stflat l) rfl HO5.out _ 1 1 rfl (fun e => by cases e) (St.cells ⟨(m : Int) + (t : Int), 1 + (q : Int)⟩) HN.out (st_one _) (by omega) (by decide) ?_; intro v6 w6 hO6 hK6; have HO6 := Lib.hid hO6; have HK6 := Lib.hid hK6; clear hO6 hK6))
      refine ⟨⟨k - 1, m + t + 1, l ++ [⟨(m : Int) + (t : Int), 1 + (q : Int)⟩], by simp; omega, by simp; omega, by simp; omega, by simp, HS.out.add hq5, ?_, ?_, ?_⟩, by simp [intOf]; omega⟩
      · have := HO6.out
        rw [stflat_add] at this
        rw [OwnT, List.length_append]
        exact this
      · rw [List.length_append]
        refine HF5.out.kept HK6.out (ownw_apart HO5.out hlt b · rfl) (fun i hi e => ?_) |>.more ?_
        · have := ownw_base HO5.out i e; have := HF5.out.1; omega
        · simp; omega
      · exact HK5.out.trans HK6.out fun i hi e => absurd (ownw_base HO5.out i e) (by omega)
    · obtain rfl : k = 0 := by omega
      go_wp2_with fail
      go_ret
      exact ⟨_, m, l, rfl, HS.out, by omega, by omega, HO.out, HF2.out.more (by omega), HK.out⟩
end Go.Proofs.YtgenmebmdpnjhaaGreat

namespace Go.Proofs.YtgenmebmdpnjhaaGreat
open Go.RowKit
set_option linter.unusedVariables false
theorem ev_one (e : Ev) : ∀ u ∈ e.cells, u.oneCell' = true := by
  intro u hu
  simp only [Ev.cells, List.mem_cons, List.not_mem_nil, or_false] at hu
  rcases hu with rfl | rfl | rfl | rfl | rfl | rfl | rfl <;> rfl
/-- What Event tells. -/
structure Evd (w w' : World) (x : Ev) : Prop where
  c : 1 ≤ x.c ∧ x.c ≤ 6
  b : 0 ≤ x.b ∧ x.b < 8
  s : 1 ≤ x.s ∧ x.s ≤ 4611686018427387904
  e : 0 ≤ x.e ∧ x.e < 4
  a : 0 ≤ x.a ∧ x.a < 9
  l : At.Fed 5 x.l
  t : ∃ m, m ≤ 16 ∧ Wr.Sted m x.t ∧ x.t.length ≤ 4
  ol : OwnA w.heap.size w' (.slice x.A x.l.length x.ca) x.l
  ot : OwnT w.heap.size w' (.slice x.B x.t.length x.cb) x.t
def EventPost (B b a : Nat) (w : World) (e : Ending) (w' : World) : Prop :=
  ∃ x : Ev, e = .returned (evv x) ∧ Evd w w' x ∧ IsFeed B w' b (a + 40) ∧ Kept (· = b) w w'

/-- A part of an Event's block is stored to. -/
theorem set_event {w : World} {g p : Nat} {x x' : Ev} {cs : List Value} (hp : part x.cells p cs = x'.cells) (hg : w.heap[g]? = some (evbox x)) : (w.setRow g (part x.cells p cs).toArray).heap[g]? = some (evbox x') ∧ Kept (· = g) w (w.setRow g (part x.cells p cs).toArray) := by
  rw [hp]
  exact ⟨setRow_heap w g _ x'.cells.toArray _ _ hg, Kept.setRow _ _ _⟩
theorem int_size1 : (Tryz.prog.info? 3).map (·.size) = some 1 := by kernel_rfl
abbrev ev00 : Ev := ⟨0, 0, 0, 0, 0, none, 0, [], none, 0, []⟩
/-- How it ends: the result's block holds what was built. -/
theorem event_ends {B b a gr : Nat} {w w9 w10 : World} {x : Ev} (hgr : gr = w.heap.size) (hx : Evd w w9 x) (hR : w9.heap[gr]? = some (evbox ev00)) (hF : IsFeed B w9 b a) (hK : Kept (· = b) w w9) (hb : b < w.heap.size)
    (h10 : w10 = w9.setRow gr (part ev00.cells 0 x.cells).toArray) : w10.heap[gr]? = some (evbox x) ∧ Evd w w10 x ∧ IsFeed B w10 b a ∧ Kept (· = b) w w10 := by
  subst h10
  subst hgr
  obtain ⟨h1, h2⟩ := set_event (p := 0) (x := ev00) (x' := x) (cs := x.cells) rfl hR
  have hB := hF.1
  refine ⟨h1, ⟨hx.c, hx.b, hx.s, hx.e, hx.a, hx.l, hx.t, OwnW.kept hx.ol h2 (ownw_not hx.ol hR (by decide)), OwnW.kept hx.ot h2 (ownw_not hx.ot hR (by decide))⟩, hF.kept h2 (by omega) (fun i hi => by omega), hK.trans h2 (fun i hi e => by omega)⟩

set_option maxRecDepth 100000 in
set_option maxHeartbeats 8000000 in
theorem feedevent_any {B b a : Nat} (w : World) (ha : a < 4611686018427000000) (hf : IsFeed B w b a) :
    Calls Tryz.prog 23 #[.pointer (some ⟨b, 0, none⟩)] w (EventPost B b a w) := by
  have hlt := hf.lt
  have HF := Lib.hid hf
  clear hf
  go_enter Tryz.func23, Tryz.ntmps23
  go_upto_region 1 with fail
  have hn := one_new w (evbox ev00)
  have HR0 := Lib.hid (heap_alloc_new w (evbox ev00))
  have HF0 := Lib.hid (HF.out.below hn)
  have HK0 := Lib.hid (Kept.ofBelow (S := (· = b)) hn)
  have hs0 := hn.size
  clear hn HF
  dsimp only [evbox, ev00, List.length_nil] at HR0 HF0 HK0 hs0
  generalize w.alloc _ = w0 at HR0 HF0 HK0 hs0 ⊢
  go_wp2_with fail
  refine (next_any 6 (by omega) (by omega) _ (by omega) HF0.out).mono ?_
  rintro e w1 ⟨k1, hk1, rfl, hF, hK, -⟩
  have HF1 := Lib.hid hF
  have HR1 := Lib.hid (hK.row HR0.out (by show ¬ w.heap.size = b; omega))
  have HK1 := Lib.hid (HK0.out.then hK)
  clear hF hK HF0 HR0 HK0
  go_wp2_with fail
  refine (next_any 8 (by omega) (by omega) _ (by omega) HF1.out).mono ?_
  rintro e w2 ⟨k2, hk2, rfl, hF, hK, -⟩
  have HF2 := Lib.hid hF
  have HR2 := Lib.hid (hK.row HR1.out (by show ¬ w.heap.size = b; omega))
  have HK2 := Lib.hid (HK1.out.then hK)
  clear hF hK HF1 HR1 HK1
  go_wp2_with fail
  refine (next_any 300 (by omega) (by omega) _ (by omega) HF2.out).mono ?_
  rintro e w3 ⟨k3, hk3, rfl, hF, hK, -⟩
  have HF3 := Lib.hid hF
  have HR3 := Lib.hid (hK.row HR2.out (by show ¬ w.heap.size = b; omega))
  have HK3 := Lib.hid (HK2.out.then hK)
  clear hF hK HF2 HR2 HK2
  go_wp2_with fail
  refine (next_any 4 (by omega) (by omega) _ (by omega) HF3.out).mono ?_
  rintro e w4 ⟨k4, hk4, rfl, hF, hK, -⟩
  have HF4 := Lib.hid hF
  have HR4 := Lib.hid (hK.row HR3.out (by show ¬ w.heap.size = b; omega))
  have HK4 := Lib.hid (HK3.out.then hK)
  clear hF hK HF3 HR3 HK3
  go_wp2_with fail
  refine (next_any 9 (by omega) (by omega) _ (by omega) HF4.out).mono ?_
  rintro e w5 ⟨k5, hk5, rfl, hF, hK, -⟩
  have HF5 := Lib.hid hF
  have HR5 := Lib.hid (hK.row HR4.out (by show ¬ w.heap.size = b; omega))
  have HK5 := Lib.hid (HK4.out.then hK)
  clear hF hK HF4 HR4 HK4
  have hs5 := HK5.out.size
  go_wp2_with fail
  refine (feedattrs_any _ (by omega) HF5.out).mono ?_
  rintro e w6 ⟨va, la, rfl, hfed, hOA, hF, hK⟩
  have HFed := Lib.hid hfed
  have HF6 := Lib.hid hF
  have HR6 := Lib.hid (hK.row HR5.out (by show ¬ w.heap.size = b; omega))
  have HK6 := Lib.hid (HK5.out.then hK)
  have HOA := Lib.hid hOA
  have hs6 := hK.size
  obtain ⟨Aa, ca, rfl, -, -, -, -, -, -⟩ := OwnW.reads hOA
  clear hF hK hOA hfed HF5 HR5 HK5
  go_wp2_with fail
  refine (feedstamps_any _ (by omega) HF6.out).mono ?_
  rintro e w7 ⟨vt, mt, lt, rfl, hst, hm16, hl4, hOT, hF, hK⟩
  have HSt := Lib.hid hst
  have HF7 := Lib.hid hF
  have HR7 := Lib.hid (hK.row HR6.out (by show ¬ w.heap.size = b; omega))
  have HK7 := Lib.hid (HK6.out.then hK)
  have HOA7 := Lib.hid (OwnW.kept HOA.out hK (ownw_apart HOA.out (by omega)))
  have HOT := Lib.hid hOT
  obtain ⟨Ab, cb, rfl, -, -, -, -, -, -⟩ := OwnW.reads hOT
  clear hF hK hOT hst HF6 HR6 HK6 HOA
  have hn := one_new w7 (evbox ⟨1 + (k1 : Int), (k2 : Int), 1 + (k3 : Int), (k4 : Int), (k5 : Int), Aa, ca, la, Ab, cb, lt⟩)
  have HE8 := Lib.hid (heap_alloc_new w7 (evbox ⟨1 + (k1 : Int), (k2 : Int), 1 + (k3 : Int), (k4 : Int), (k5 : Int), Aa, ca, la, Ab, cb, lt⟩))
  have HF8 := Lib.hid (HF7.out.below hn)
  have HR8 := Lib.hid (below_row hn HR7.out)
  have HK8 := Lib.hid (HK7.out.then (Kept.ofBelow (S := (· = b)) hn))
  have HOA8 := Lib.hid (OwnW.later HOA7.out hn)
  have HOT8 := Lib.hid (OwnW.later HOT.out hn)
  have hs7 := (Array.getElem?_eq_some_iff.1 HR7.out).1
  clear hn HF7 HR7 HK7 HOA7 HOT
  dsimp only [evbox] at HE8 HF8 HR8 HK8 HOA8 HOT8
  go_wp2_with fail
  have hge : w7.heap.size < (w7.alloc (.cells #[.int .i64 (1 + (k1 : Int)), .int .i64 (k2 : Int), .int .i64 (1 + (k3 : Int)), .int .i64 (k4 : Int), .int .i64 (k5 : Int), .slice Aa la.length ca, .slice Ab lt.length cb] 30)).heap.size := by rw [World.size_alloc]; omega
  generalize w7.alloc _ = w8 at HE8 HF8 HR8 HK8 HOA8 HOT8 hge ⊢
  generalize w7.heap.size = ge at HE8 hge hs7 ⊢
  refine (next_any 6 (by omega) (by omega) _ (by omega) HF8.out).mono ?_
  rintro e w9 ⟨k6, hk6, rfl, hF, hK, -⟩
  have HF9 := Lib.hid hF
  have HR9 := Lib.hid (hK.row HR8.out (by show ¬ w.heap.size = b; omega))
  have HE9 := Lib.hid (hK.row HE8.out (by show ¬ ge = b; omega))
  have HK9 := Lib.hid (HK8.out.then hK)
  have HOA9 := Lib.hid (own_sub (OwnW.kept HOA8.out hK (ownw_apart HOA8.out (by omega))) (show w.heap.size ≤ w5.heap.size by omega))
  have HOT9 := Lib.hid (ownw_sub (OwnW.kept HOT8.out hK (ownw_apart HOT8.out (by omega))) (show w.heap.size ≤ w6.heap.size by omega))
  clear hF hK HF8 HR8 HE8 HK8 HOA8 HOT8
  by_cases h6 : k6 = 0
  · subst h6
    go_wp2_with fail
    refine (next_any 3 (by omega) (by omega) _ (by omega) HF9.out).mono ?_
    rintro e w10 ⟨k7, hk7, rfl, hF, hK, -⟩
    have HF10 := Lib.hid hF
    have HR10 := Lib.hid (hK.row HR9.out (by show ¬ w.heap.size = b; omega))
    have HE10 := Lib.hid (hK.row HE9.out (by show ¬ ge = b; omega))
    have HK10 := Lib.hid (HK9.out.then hK)
    have HOA10 := Lib.hid (OwnW.kept HOA9.out hK (ownw_apart HOA9.out hlt))
    have HOT10 := Lib.hid (OwnW.kept HOT9.out hK (ownw_apart HOT9.out hlt))
    clear hF hK HF9 HR9 HE9 HK9 HOA9 HOT9
    obtain ⟨he1, he2⟩ := set_event (w := w10) (g := ge) (p := 2) (x := ⟨1 + (k1 : Int), (k2 : Int), 1 + (k3 : Int), (k4 : Int), (k5 : Int), Aa, ca, la, Ab, cb, lt⟩) (x' := ⟨1 + (k1 : Int), (k2 : Int), 4611686018427387904 - (k7 : Int), (k4 : Int), (k5 : Int), Aa, ca, la, Ab, cb, lt⟩) (cs := [.int .i64 (4611686018427387904 - (k7 : Int))]) rfl HE10.out
    have HE11 := Lib.hid he1
    have HS11 := Lib.hid he2
    clear he1 he2
    go_upto_region 4 with (first | (refine wpList_store_part rfl 3 _ _ rfl ge 2 _ [.int .i64 (4611686018427387904 - (k7 : Int))] rfl rfl rfl 30 (Ev.cells ⟨1 + (k1 : Int), (k2 : Int), 1 + (k3 : Int), (k4 : Int), (k5 : Int), Aa, ca, la, Ab, cb, lt⟩) HE10.out int_size1 (show (3 : Nat) ≤ 7 by decide) (fun u hu => by rw [List.mem_singleton.1 hu]; rfl) ?_; generalize World.setRow w10 _ _ = w11 at HE11 HS11 ⊢))
    have hB11 := HF10.out.1
    have QR := Lib.hid (HS11.out.row HR10.out (by show ¬ w.heap.size = ge; omega))
    have QF := Lib.hid (HF10.out.kept HS11.out (by omega) (fun i hi => by omega))
    have QK := Lib.hid (HK10.out.trans HS11.out (fun i hi e => by omega))
    have QOA := Lib.hid (OwnW.kept HOA10.out HS11.out (ownw_not HOA10.out HE10.out (by decide)))
    have QOT := Lib.hid (OwnW.kept HOT10.out HS11.out (ownw_not HOT10.out HE10.out (by decide)))
    have QE := HE11
    clear HF10 HR10 HE10 HK10 HOA10 HOT10 HS11 HE11
    have HC := Lib.hid (evbox_cells (e := ⟨1 + (k1 : Int), (k2 : Int), 4611686018427387904 - (k7 : Int), (k4 : Int), (k5 : Int), Aa, ca, la, Ab, cb, lt⟩) QE.out)
    have hx : Evd w w11 ⟨1 + (k1 : Int), (k2 : Int), 4611686018427387904 - (k7 : Int), (k4 : Int), (k5 : Int), Aa, ca, la, Ab, cb, lt⟩ := ⟨⟨by dsimp only; omega, by dsimp only; omega⟩, ⟨by dsimp only; omega, by dsimp only; omega⟩, ⟨by dsimp only; omega, by dsimp only; omega⟩, ⟨by dsimp only; omega, by dsimp only; omega⟩, ⟨by dsimp only; omega, by dsimp only; omega⟩, HFed.out, ⟨mt, hm16, HSt.out, hl4⟩, QOA.out, QOT.out⟩
    have HEN := Lib.hid (event_ends (w10 := w11.setRow w.heap.size (part ev00.cells 0 (Ev.cells ⟨1 + (k1 : Int), (k2 : Int), 4611686018427387904 - (k7 : Int), (k4 : Int), (k5 : Int), Aa, ca, la, Ab, cb, lt⟩)).toArray) rfl hx QR.out QF.out QK.out hlt rfl)
    clear hx
    go_wp2_with (first | (refine wpList_load_at rfl 30 _ rfl ge 0 (Ev.cells ⟨1 + (k1 : Int), (k2 : Int), 4611686018427387904 - (k7 : Int), (k4 : Int), (k5 : Int), Aa, ca, la, Ab, cb, lt⟩) _ rfl HC.out Tryz.underlying30 rfl ev_size ?_; dsimp only [Ev.cells]) | (refine wpList_store_part rfl 30 _ _ rfl w.heap.size 0 _ (Ev.cells ⟨1 + (k1 : Int), (k2 : Int), 4611686018427387904 - (k7 : Int), (k4 : Int), (k5 : Int), Aa, ca, la, Ab, cb, lt⟩) rfl rfl rfl 30 ev00.cells QR.out ev_size (Nat.le_refl 7) (ev_one _) ?_; generalize World.setRow w11 _ _ = w12 at HEN ⊢) | fail)
    obtain ⟨g1, g2, g3, g4⟩ := HEN.out
    refine bodyPost_ret (results_cell_row rfl _ _ _ _ _ _ _ rfl g1 Tryz.underlying30 rfl (by kernel_rfl)) rfl ?_
    exact ⟨_, rfl, g2, g3.more (by omega), g4⟩
  · have h6' : ¬ (k6 : Int) = 0 := by omega
    have QR := HR9
    have QF := HF9
    have QK := HK9
    have QOA := HOA9
    have QOT := HOT9
    have QE := HE9
    clear HR9 HF9 HK9 HOA9 HOT9 HE9
    have HC := Lib.hid (evbox_cells (e := ⟨1 + (k1 : Int), (k2 : Int), 1 + (k3 : Int), (k4 : Int), (k5 : Int), Aa, ca, la, Ab, cb, lt⟩) QE.out)
    have hx : Evd w w9 ⟨1 + (k1 : Int), (k2 : Int), 1 + (k3 : Int), (k4 : Int), (k5 : Int), Aa, ca, la, Ab, cb, lt⟩ := ⟨⟨by dsimp only; omega, by dsimp only; omega⟩, ⟨by dsimp only; omega, by dsimp only; omega⟩, ⟨by dsimp only; omega, by dsimp only; omega⟩, ⟨by dsimp only; omega, by dsimp only; omega⟩, ⟨by dsimp only; omega, by dsimp only; omega⟩, HFed.out, ⟨mt, hm16, HSt.out, hl4⟩, QOA.out, QOT.out⟩
    have HEN := Lib.hid (event_ends (w10 := w9.setRow w.heap.size (part ev00.cells 0 (Ev.cells ⟨1 + (k1 : Int), (k2 : Int), 1 + (k3 : Int), (k4 : Int), (k5 : Int), Aa, ca, la, Ab, cb, lt⟩)).toArray) rfl hx QR.out QF.out QK.out hlt rfl)
    clear hx
    go_wp2_with (first | (refine wpList_load_at rfl 30 _ rfl ge 0 (Ev.cells ⟨1 + (k1 : Int), (k2 : Int), 1 + (k3 : Int), (k4 : Int), (k5 : Int), Aa, ca, la, Ab, cb, lt⟩) _ rfl HC.out Tryz.underlying30 rfl ev_size ?_; dsimp only [Ev.cells]) | (refine wpList_store_part rfl 30 _ _ rfl w.heap.size 0 _ (Ev.cells ⟨1 + (k1 : Int), (k2 : Int), 1 + (k3 : Int), (k4 : Int), (k5 : Int), Aa, ca, la, Ab, cb, lt⟩) rfl rfl rfl 30 ev00.cells QR.out ev_size (Nat.le_refl 7) (ev_one _) ?_; generalize World.setRow w9 _ _ = w12 at HEN ⊢) | fail)
    obtain ⟨g1, g2, g3, g4⟩ := HEN.out
    refine bodyPost_ret (results_cell_row rfl _ _ _ _ _ _ _ rfl g1 Tryz.underlying30 rfl (by kernel_rfl)) rfl ?_
    exact ⟨_, rfl, g2, g3.more (by omega), g4⟩
end Go.Proofs.YtgenmebmdpnjhaaGreat
