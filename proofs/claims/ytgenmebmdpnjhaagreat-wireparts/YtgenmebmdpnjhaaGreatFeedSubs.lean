
/- Hand's Subs: some right ones. -/
import Derived.Test.YtgenmebmdpnjhaaGreatG8
import Derived.Test.YtgenmebmdpnjhaaGreatFeedFilter
namespace Go.Proofs.YtgenmebmdpnjhaaGreat
open Go.RowKit
set_option linter.unusedVariables false
namespace Wr
/-- Subs as hand draws them: of clients to c, the last one's numbers to num. -/
structure Sbd (c num : Nat) (l : List Sb) : Prop where
  each : ∀ s, s ∈ l → 1 ≤ s.c ∧ s.c ≤ (c : Int) ∧ 1 ≤ s.n ∧ s.n ≤ 100 ∧ 0 ≤ s.b ∧ s.b < 8 ∧ Fi.Fine s.f.l ∧ (s.c = (c : Int) → s.n ≤ (num : Int))
  rise : l.Pairwise fun x y => x.c < y.c ∨ (x.c = y.c ∧ x.n < y.n)
theorem Sbd.nil (c num : Nat) : Sbd c num [] := ⟨by simp, List.Pairwise.nil⟩
theorem Sbd.client {c num : Nat} {l : List Sb} (h : Sbd c num l) : Sbd (c + 1) 0 l := ⟨fun s hs => by
  obtain ⟨h1, h2, h3, h4, h5, h6, h7, h8⟩ := h.each s hs
  exact ⟨h1, by omega, h3, h4, h5, h6, h7, fun e => by omega⟩, h.rise⟩
theorem Sbd.add {c num t home : Nat} {l : List Sb} {f : Ft} (h : Sbd c num l) (hc : 1 ≤ c) (ht : t < 2) (hn : num ≤ 90) (hh : home < 8) (hf : Fi.Fine f.l) : Sbd c (num + 1 + t) (l ++ [⟨(c : Int), (home : Int), (num : Int) + 1 + (t : Int), f⟩]) := by
  refine ⟨fun s hs => ?_, ?_⟩
  · rcases List.mem_append.1 hs with h1 | h1
    · obtain ⟨h1, h2, h3, h4, h5, h6, h7, h8⟩ := h.each s h1
      exact ⟨h1, h2, h3, h4, h5, h6, h7, fun e => by have := h8 e; omega⟩
    · rw [List.mem_singleton.1 h1]
      exact ⟨by dsimp only; omega, by dsimp only; omega, by dsimp only; omega, by dsimp only; omega, by dsimp only; omega, by dsimp only; omega, hf, fun _ => by dsimp only; omega⟩
  · rw [List.pairwise_append]
    refine ⟨h.rise, by simp, fun x hx y hy => ?_⟩
    rw [List.mem_singleton.1 hy]
    obtain ⟨h1, h2, h3, h4, h5, h6, h7, h8⟩ := h.each x hx
    dsimp only
    by_cases e : x.c = (c : Int)
    · have := h8 e; exact .inr ⟨e, by omega⟩
    · exact .inl (by omega)
end Wr
theorem info_sub : (Tryz.prog.info? 33).map (fun i => (i.zero, i.size, i.bytes)) = some (some (.agg #[.int .i64 0, .int .i64 0, .int .i64 0, .slice none 0 0]), 4, 48) := by kernel_rfl
abbrev OwnSb (B : Nat) (w : World) (v : Value) (l : List Sb) : Prop := OwnW 4 B 33 w v l.length (sbflat l)
theorem sub_types : (64 : TypeId) ≠ 33 ∧ (98 : TypeId) ≠ 33 ∧ (31 : TypeId) ≠ 33 := by decide
theorem ownw_block {k B n : Nat} {e : TypeId} {w : World} {v : Value} {xs : List Value} (h : OwnW k B e w v n xs) : ∀ i, v.ownBlock = some i → ∃ cs fr, w.heap[i]? = some (.cells cs e fr) := by
  intro i hi
  rcases h.1.2 with ⟨rfl, -⟩ | ⟨g, cap, cur, rfl, -, hg, -⟩
  · cases hi
  · cases hi; exact ⟨cur, _, hg⟩
/-- What may turn beside filters: what is older, and rows of Subs. -/
def Beside (B : Nat) (w : World) (i : Nat) : Prop := i < B ∨ ∃ cs fr, w.heap[i]? = some (.cells cs 33 fr)
theorem Owned.beside {S : Nat → Prop} {B : Nat} {w w' : World} {f : Ft} (h : Owned B w f) (k : Kept S w w') (hS : ∀ i, S i → Beside B w i) : Owned B w' f := by
  refine ⟨h.row.kept k (fun i hi hs => ?_), fun x hx => (h.sets x hx).kept k (fun i hi hs => ?_)⟩
  · rcases hS i hs with h1 | ⟨cs, fr, h1⟩
    · have := ownw_base h.row i hi; omega
    · exact ownw_not h.row h1 sub_types.2.1 i hi rfl
  · rcases hS i hs with h1 | ⟨cs, fr, h1⟩
    · have := ownw_base (h.sets x hx) i hi; omega
    · exact ownw_not (h.sets x hx) h1 sub_types.1 i hi rfl
/-- The three filters that Subs choose from. -/
abbrev f3row (f g : Ft) : Obj := .cells #[.slice f.A f.l.length f.c, .slice g.A g.l.length g.c, .slice none 0 0] 31
/-- The loops' state. -/
structure Sst (B b a gf : Nat) (w wr : World) (f g : Ft) (v : Value) (l : List Sb) : Prop where
  own : OwnSb w.heap.size wr v l
  each : ∀ s, s ∈ l → Owned w.heap.size wr s.f
  of : Owned w.heap.size wr f
  og : Owned w.heap.size wr g
  row : wr.heap[gf]? = some (f3row f g)
  feed : IsFeed B wr b a
  kept : Kept (· = b) w wr
  hb : b < w.heap.size
  hgf : w.heap.size ≤ gf
theorem Sst.fed {B b a a' gf : Nat} {w wr wx : World} {f g : Ft} {v : Value} {l : List Sb} (h : Sst B b a gf w wr f g v l) (k : Kept (· = b) wr wx) (hf : IsFeed B wx b a') : Sst B b a' gf w wx f g v l :=
  have hs : ∀ i, i = b → Beside w.heap.size wr i := fun i e => .inl (by have := h.hb; omega)
  ⟨h.own.kept k (ownw_apart h.own h.hb), fun s hs' => (h.each s hs').beside k hs, h.of.beside k hs, h.og.beside k hs, k.row h.row (by have := h.hb; have := h.hgf; show ¬ gf = b; omega), hf, h.kept.then k, h.hb, h.hgf⟩
theorem Sst.later {B b a gf : Nat} {w wr wx : World} {f g : Ft} {v : Value} {l : List Sb} (h : Sst B b a gf w wr f g v l) (k : Below wr.heap.size wr wx) : Sst B b a gf w wx f g v l :=
  ⟨h.own.later k, fun s hs => (h.each s hs).later k, h.of.later k, h.og.later k, below_row k h.row, h.feed.below k, h.kept.then (Kept.ofBelow k), h.hb, h.hgf⟩
/-- A block of a Sub, that no row of Subs is, turns. -/
theorem Sst.turn {B b a gf gs : Nat} {w wr wx : World} {f g : Ft} {v : Value} {l : List Sb} {cs : Array Value} {fr : Nat × Nat} (h : Sst B b a gf w wr f g v l) (k : Kept (· = gs) wr wx) (hr : wr.heap[gs]? = some (.cells cs 33 fr)) (hgs : w.heap.size ≤ gs) (hne : ∀ i, v.ownBlock = some i → i ≠ gs) : Sst B b a gf w wx f g v l :=
  have hs : ∀ i, i = gs → Beside w.heap.size wr i := fun i e => .inr ⟨cs, fr, e ▸ hr⟩
  have hB := h.feed.1
  ⟨h.own.kept k hne, fun s hs' => (h.each s hs').beside k hs, h.of.beside k hs, h.og.beside k hs, k.row h.row (fun e => by have h1 := h.row; have e' : gf = gs := e; rw [e', hr] at h1; have := Option.some.inj h1; injection this with h2 h3; exact sub_types.2.2 h3.symm), h.feed.kept k (by have := h.hb; omega) (fun i hi => by have := h.hb; omega), h.kept.trans k (fun i hi e => by omega), h.hb, h.hgf⟩
theorem sbflat_add (l : List Sb) (s : Sb) : sbflat l ++ s.cells = sbflat (l ++ [s]) := by simp [sbflat]
theorem new_sub (w : World) (s : Sb) : Rs 4 (w.alloc (sbbox s)) (some ⟨w.heap.size, 0, none⟩) 1 s.cells := by
  refine ⟨rfl, .inr ⟨w.heap.size, 0, rfl, fun j u hj => ?_⟩⟩
  rw [World.cell?_alloc_new, Nat.zero_add]
  simpa [Sb.cells] using hj
/-- One more Sub stands in the row. -/
theorem Sst.add {B b a gf : Nat} {w w10 w11 : World} {f g : Ft} {v v' : Value} {l : List Sb} {x : Sb} (h : Sst B b a gf w w10 f g v l) (hxo : Owned w.heap.size w10 x.f) (hO : OwnW 4 w.heap.size 33 w11 v' (l.length + 1) (sbflat l ++ x.cells)) (hK : Kept (fun i => v.ownBlock = some i) w10 w11) : Sst B b a gf w w11 f g v' (l ++ [x]) := by
  have hs : ∀ i, v.ownBlock = some i → Beside w.heap.size w10 i := fun i e => .inr (ownw_block h.own i e)
  have hB := h.feed.1
  have hb := h.hb
  refine ⟨?_, fun s hs' => ?_, h.of.beside hK hs, h.og.beside hK hs, hK.row h.row (fun e => ?_), h.feed.kept hK (ownw_apart h.own h.hb b · rfl) (fun i hi e => ?_), h.kept.trans hK (fun i hi e => ?_), h.hb, h.hgf⟩
  · rw [OwnSb, List.length_append, ← sbflat_add]; exact hO
  · rcases List.mem_append.1 hs' with h1 | h1
    · exact (h.each s h1).beside hK hs
    · rw [List.mem_singleton.1 h1]; exact hxo.beside hK hs
  · obtain ⟨cs, fr, h1⟩ := ownw_block h.own gf e
    have h2 := h.row
    rw [h1] at h2
    have := Option.some.inj h2
    injection this with h3 h4
    exact sub_types.2.2 h4.symm
  · have := ownw_base h.own i e; omega
  · exact absurd (ownw_base h.own i e) (by omega)
theorem Sst.more {B b a a' gf : Nat} {w wr : World} {f g : Ft} {v : Value} {l : List Sb} (h : Sst B b a gf w wr f g v l) (ha : a ≤ a') : Sst B b a' gf w wr f g v l :=
  ⟨h.own, h.each, h.of, h.og, h.row, h.feed.more ha, h.kept, h.hb, h.hgf⟩
theorem nil_owned (w : World) {B : Nat} (hB : B ≤ w.heap.size) : Owned B w ⟨none, 0, []⟩ := ⟨OwnW.nil _ _ _ hB, fun x hx => by cases hx⟩
theorem Fi.Fine.nil : Fi.Fine [] := ⟨by simp, by simp, fun i x y h => by simp at h⟩
theorem Fi.Fine.same {l l' : List Pt} (h : Fi.Fine l) (e : l'.map (·.p) = l.map (·.p)) : Fi.Fine l' := by
  have hg : ∀ (i : Nat) (x : Pt), l'[i]? = some x → ∃ y : Pt, l[i]? = some y ∧ y.p = x.p := fun i x hx => by
    have h1 := congrArg (·[i]?) e
    simp only [List.getElem?_map, hx, Option.map_some] at h1
    cases hy : l[i]? with
    | none => rw [hy] at h1; cases h1
    | some y => rw [hy] at h1; exact ⟨y, rfl, (Option.some.inj h1).symm⟩
  refine ⟨?_, fun x hx => ?_, fun i x y hx hy => ?_⟩
  · have := congrArg List.length e
    simp only [List.length_map] at this
    rw [this]; exact h.few
  · obtain ⟨i, hi⟩ := List.getElem?_of_mem hx
    obtain ⟨y, hy, e1⟩ := hg i x hi
    rw [← e1]; exact h.fed y (List.mem_of_getElem? hy)
  · obtain ⟨x', hx', e1⟩ := hg i x hx
    obtain ⟨y', hy', e2⟩ := hg (i + 1) y hy
    rw [← e1, ← e2]; exact h.sorted i x' y' hx' hy'
/-- A choice of the three. -/
theorem Sst.choice {B b a gf k : Nat} {w wr : World} {f g : Ft} {v : Value} {l : List Sb} (h : Sst B b a gf w wr f g v l) (hk : k < 3) (hf : Fi.Fine f.l) (hg : Fi.Fine g.l) : ∃ x : Ft, wr.cell? ⟨gf, k, none⟩ = some (.slice x.A x.l.length x.c) ∧ Owned w.heap.size wr x ∧ Fi.Fine x.l := by
  have hc := fun j => cell_of_row wr gf j _ _ _ h.row
  match k, hk with
  | 0, _ => exact ⟨f, hc 0, h.of, hf⟩
  | 1, _ => exact ⟨g, hc 1, h.og, hg⟩
  | 2, _ => exact ⟨⟨none, 0, []⟩, hc 2, nil_owned _ h.kept.size, Fi.Fine.nil⟩
/-- A part of a Sub's block is stored to. -/
theorem set_sub {w : World} {g p : Nat} {x x' : Sb} {cs : List Value} (hp : part x.cells p cs = x'.cells) (hg : w.heap[g]? = some (sbbox x)) : (w.setRow g (part x.cells p cs).toArray).heap[g]? = some (sbbox x') ∧ Kept (· = g) w (w.setRow g (part x.cells p cs).toArray) := by
  rw [hp]
  exact ⟨setRow_heap w g _ x'.cells.toArray _ _ hg, Kept.setRow _ _ _⟩
theorem fil_size1 : (Tryz.prog.info? 31).map (·.size) = some 1 := by kernel_rfl
/-- What Subs tells. -/
def SubsPost (B b a : Nat) (w : World) (e : Ending) (w' : World) : Prop :=
  ∃ (v : Value) (l : List Sb), e = .returned v ∧ Wr.Sbd 7 0 l ∧ l.length ≤ 18 ∧ OwnSb w.heap.size w' v l ∧ (∀ s, s ∈ l → Owned w.heap.size w' s.f) ∧ IsFeed B w' b (a + 800) ∧ Kept (· = b) w w'

set_option maxRecDepth 100000 in
set_option maxHeartbeats 16000000 in
theorem feedsubs_any {B b a n c : Nat} {A : Option Addr} (hn : n ≤ 7) (w : World) (ha : a < 4611686018427000000) (hf : IsFeed B w b a) :
    Calls Tryz.prog 22 #[.pointer (some ⟨b, 0, none⟩), .slice A n c] w (SubsPost B b a w) := by
  have hlt := hf.lt
  have HF := Lib.hid hf
  have hst := store_float
  clear hf
  go_enter Tryz.func22, Tryz.ntmps22
  go_wp2_with fail
  refine (feedfilter_any _ (by omega) HF.out).mono ?_
  rintro e w1 ⟨f1, rfl, hfine1, hown1, hF1, hK1⟩
  have HFi1 := Lib.hid hfine1
  have HO1 := Lib.hid hown1
  have HF1 := Lib.hid hF1
  have HK1 := Lib.hid hK1
  have hs1 := hK1.size
  clear hfine1 hown1 hF1 hK1 HF
  go_wp2_with fail
  refine (feedfilter_any _ (by omega) HF1.out).mono ?_
  rintro e w2 ⟨f2, rfl, hfine2, hown2, hF2, hK2⟩
  have HFi2 := Lib.hid hfine2
  have H0 : Hid (Sst B b (a + 34 + 34) w2.heap.size w (w2.alloc (f3row f1 f2)) f1 f2 (.slice none 0 0) []) := by
    have hn := one_new w2 (f3row f1 f2)
    have hsz := hK2.size
    have h1 := HO1.out.beside hK2 (fun i e => .inl (by omega))
    exact ⟨OwnW.nil _ _ _ (by have := hn.size; omega), (by simp), h1.later hn, (hown2.sub hs1).later hn, heap_alloc_new _ _, hF2.below hn, (HK1.out.then hK2).then (Kept.ofBelow hn), hlt, by omega⟩
  clear hfine2 hown2 hF2 hK2 HO1 HF1 HK1
  dsimp only [f3row] at H0
  go_wp2_with fail
  generalize w2.alloc _ = w3 at H0 ⊢
  generalize w2.heap.size = gf at H0 ⊢
  go_loopw [5, 7] (fun xv cc wr => ∃ (k num : Nat) (l : List Sb), k ≤ 6 ∧ cc = .int .i64 ((k + 1 : Nat) : Int) ∧ Wr.Sbd (k + 1) 0 l ∧ l.length ≤ 3 * k ∧ Sst B b (a + 68 + 2 * k + 36 * l.length) gf w wr f1 f2 xv l) (fun _ cc _ => 7 - (intOf cc).toNat)
  case atStart => exact ⟨0, 0, [], by omega, rfl, Wr.Sbd.nil _ _, by simp, H0.out⟩
  case round =>
    obtain ⟨k, num, l, hk, rfl, hsd, hll, hS⟩ := hrel
    have HS := Lib.hid hS
    have HD := Lib.hid hsd
    clear hS hsd H0
    by_cases hk6 : k < 6
    · go_wp2_with fail
      refine (next_any (n + 1) (by omega) (by omega) _ (by omega) HS.out.feed).mono ?_
      rintro e w4 ⟨home, hho, rfl, hF, hK, -⟩
      have HS4 := Lib.hid (HS.out.fed hK hF)
      clear hF hK HS
      have hho8 : home < 8 := by omega
      clear hho
      go_wp2_with fail
      refine (next_any 4 (by omega) (by omega) _ (by omega) HS4.out.feed).mono ?_
      rintro e w5 ⟨q, hq, rfl, hF, hK, -⟩
      have HS5 := Lib.hid (HS4.out.fed hK hF)
      clear hF hK HS4
      go_wp2_with fail
      go_loopw [5, 9, 10] (fun xv mm ii wi => ∃ (num j : Nat) (l' : List Sb), ii = .int .i64 (j : Int) ∧ mm = .int .i64 (num : Int) ∧ Wr.Sbd (k + 1) num l' ∧ l'.length + j ≤ 3 * k + 3 ∧ num + 2 * j ≤ 6 ∧ Sst B b (a + 68 + 2 * k + 2 + 36 * l'.length) gf w wi f1 f2 xv l') (fun _ _ ii _ => (intOf ii).toNat)
      case atStart => exact ⟨0, q, l, rfl, rfl, HD.out, by omega, by omega, HS5.out.more (by omega)⟩
      case round =>
        obtain ⟨num, j, l', rfl, rfl, hsd, hll', hnj, hS⟩ := hrel
        have HS := Lib.hid hS
        have HD' := Lib.hid hsd
        clear hS hsd HS5
        by_cases hj : 0 < j
        · have hj' : (0 : Int) < (j : Int) := by omega
          go_wp2_with fail
          refine (next_any 2 (by omega) (by omega) _ (by omega) HS.out.feed).mono ?_
          rintro e w6 ⟨t, ht, rfl, hF, hK, -⟩
          have HS6 := Lib.hid (HS.out.fed hK hF)
          clear hF hK HS
          have hs6 := HS6.out.kept.size
          go_wp2_with fail
          refine (feedfilter_any _ (by omega) HS6.out.feed).mono ?_
          rintro e w7 ⟨fs, rfl, hfine, hown, hF, hK⟩
          have HS7 := Lib.hid (HS6.out.fed hK hF)
          have HO7 := Lib.hid (hown.sub hs6)
          have HFi := Lib.hid hfine
          clear hF hK HS6 hown hfine
          have hs7 := HS7.out.kept.size
          have hn := one_new w7 (sbbox ⟨(k : Int) + 1, (home : Int), (num : Int) + 1 + (t : Int), fs⟩)
          have HB8 := Lib.hid (heap_alloc_new w7 (sbbox ⟨(k : Int) + 1, (home : Int), (num : Int) + 1 + (t : Int), fs⟩))
          have HS8 := Lib.hid (HS7.out.later hn)
          have HO8 := Lib.hid (HO7.out.later hn)
          have hne8 := Lib.hid (show ∀ i, u5.ownBlock = some i → i ≠ w7.heap.size from fun i hi => by
            obtain ⟨cs, fr, h⟩ := ownw_block HS7.out.own i hi
            have := (Array.getElem?_eq_some_iff.1 h).1
            omega)
          clear hn HS7 HO7
          dsimp only [sbbox, Sb.cells] at HB8 HS8 HO8
          go_wp2_with fail
          have hgs : w.heap.size ≤ w7.heap.size := hs7
          have hge : w7.heap.size < (w7.alloc (.cells #[.int .i64 ((k : Int) + 1), .int .i64 (home : Int), .int .i64 ((num : Int) + 1 + (t : Int)), .slice fs.A fs.l.length fs.c] 33)).heap.size := by rw [World.size_alloc]; omega
          generalize w7.alloc _ = w8 at HB8 HS8 HO8 hge ⊢
          generalize w7.heap.size = gs at HB8 hne8 hgs hge ⊢
          refine (next_any 6 (by omega) (by omega) _ (by omega) HS8.out.feed).mono ?_
          rintro e w9 ⟨k2, hk2, rfl, hF, hK, -⟩
          have HB9 := Lib.hid (hK.row HB8.out (by show ¬ gs = b; omega))
          have HS9 := Lib.hid (HS8.out.fed hK hF)
          have HO9 := Lib.hid (HO8.out.beside hK (fun i e => .inl (by omega)))
          clear hF hK HB8 HS8 HO8
          by_cases h3 : k2 < 3
          · have h3' : (k2 : Int) < 3 := by omega
            obtain ⟨fk, hck, hok, hfk⟩ := HS9.out.choice h3 HFi1.out HFi2.out
            have HK9 := Lib.hid (hok.is hfk.fits).ps
            have HSet := Lib.hid (show ∀ x, x ∈ fk.l → x.p.set.length ≤ 2932031007317 from fun x hx => by have := (hfk.fed x hx).2.few; omega)
            have hl3 := hfk.few
            have HFk := Lib.hid hfk
            clear hok hfk
            go_wp2_with fail
            refine (hfilter_any HK9.out (by omega) HSet.out).mono ?_
            rintro e wa hp
            obtain ⟨⟨A4, c4, l4⟩, rfl, h4t, h4o, hb⟩ := hp.own
            have HSa := Lib.hid (HS9.out.later hb)
            have HBa := Lib.hid (below_row hb HB9.out)
            have HOa := Lib.hid (h4o.sub HS9.out.kept.size)
            have HFb := Lib.hid (HFk.out.same h4t)
            clear hp h4t h4o hb HS9 HB9 HO9 HK9 HSet HFk hck
            dsimp only [Ft.v]
            obtain ⟨he1, he2⟩ := set_sub (w := wa) (g := gs) (p := 3) (x := ⟨(k : Int) + 1, (home : Int), (num : Int) + 1 + (t : Int), fs⟩) (x' := ⟨(k : Int) + 1, (home : Int), (num : Int) + 1 + (t : Int), ⟨A4, c4, l4⟩⟩) (cs := [.slice A4 l4.length c4]) rfl HBa.out
            have HBb := Lib.hid he1
            have HSb := Lib.hid (HSa.out.turn he2 HBa.out hgs hne8.out)
            have HOb := Lib.hid (HOa.out.beside he2 (fun i e => .inr ⟨_, _, e ▸ HBa.out⟩))
            clear he1 he2 HSa HOa
            dsimp only [sbbox] at HBb
            go_upto_region 16 with (first | (refine wpList_store_part rfl 31 _ _ rfl gs 3 _ [.slice A4 l4.length c4] rfl rfl rfl 33 (Sb.cells ⟨(k : Int) + 1, (home : Int), (num : Int) + 1 + (t : Int), fs⟩) HBa.out fil_size1 (show (4 : Nat) ≤ 4 by decide) (fun u hu => by rw [List.mem_singleton.1 hu]; rfl) ?_; generalize World.setRow wa _ _ = wb at HBb HSb HOb ⊢))
            clear HBa
            have HC := Lib.hid (cells_row (cs := Sb.cells ⟨(k : Int) + 1, (home : Int), (num : Int) + 1 + (t : Int), ⟨A4, c4, l4⟩⟩) HBb.out)
            have hn := one_new wb (sbbox ⟨(k : Int) + 1, (home : Int), (num : Int) + 1 + (t : Int), ⟨A4, c4, l4⟩⟩)
            have HS10 := Lib.hid (HSb.out.later hn)
            have HO10 := Lib.hid (HOb.out.later hn)
            have HN := Lib.hid (new_sub wb ⟨(k : Int) + 1, (home : Int), (num : Int) + 1 + (t : Int), ⟨A4, c4, l4⟩⟩)
            clear hn HSb HOb HBb
            dsimp only [sbbox] at HS10 HO10 HN
            have hl6 : l'.length ≤ 1000 := by omega
            go_wp2_with (first | (refine wpList_load_at rfl 33 _ rfl gs 0 (Sb.cells ⟨(k : Int) + 1, (home : Int), (num : Int) + 1 + (t : Int), ⟨A4, c4, l4⟩⟩) _ rfl HC.out Tryz.underlying33 rfl sb_size ?_; dsimp only [Sb.cells]) | (at_builtin; refine wpList_ownw (k := 4) rfl _ _ 36 rfl Tryz.underlying36 info_sub rfl (by decide) w.heap.size _ l'.length (sbflat l') rfl HS10.out.own _ 1 1 rfl (fun e => by cases e) (Sb.cells ⟨(k : Int) + 1, (home : Int), (num : Int) + 1 + (t : Int), ⟨A4, c4, l4⟩⟩) HN.out (Sb.one _) (by omega) (by decide) ?_; intro v11 w11 hO11 hK11; have HS11 := Lib.hid (HS10.out.add (x := ⟨(k : Int) + 1, (home : Int), (num : Int) + 1 + (t : Int), ⟨A4, c4, l4⟩⟩) HO10.out hO11 hK11); clear hO11 hK11))
            refine ⟨⟨num + 1 + t, j - 1, l' ++ [⟨(k : Int) + 1, (home : Int), (num : Int) + 1 + (t : Int), ⟨A4, c4, l4⟩⟩], by simp; omega, by simp, HD'.out.add (c := k + 1) (by omega) (by omega) (by omega) hho8 HFb.out, by simp; omega, by omega, HS11.out.more (by simp; omega)⟩, by simp [intOf]; omega⟩
          · have h3' : ¬ (k2 : Int) < 3 := by omega
            have HC := Lib.hid (cells_row (cs := Sb.cells ⟨(k : Int) + 1, (home : Int), (num : Int) + 1 + (t : Int), fs⟩) HB9.out)
            have hn := one_new w9 (sbbox ⟨(k : Int) + 1, (home : Int), (num : Int) + 1 + (t : Int), fs⟩)
            have HS10 := Lib.hid (HS9.out.later hn)
            have HO10 := Lib.hid (HO9.out.later hn)
            have HN := Lib.hid (new_sub w9 ⟨(k : Int) + 1, (home : Int), (num : Int) + 1 + (t : Int), fs⟩)
            clear hn HS9 HO9 HB9
            dsimp only [sbbox] at HS10 HO10 HN
            have hl6 : l'.length ≤ 1000 := by omega
            go_wp2_with (first | (refine wpList_load_at rfl 33 _ rfl gs 0 (Sb.cells ⟨(k : Int) + 1, (home : Int), (num : Int) + 1 + (t : Int), fs⟩) _ rfl HC.out Tryz.underlying33 rfl sb_size ?_; dsimp only [Sb.cells]) | (at_builtin; refine wpList_ownw (k := 4) rfl _ _ 36 rfl Tryz.underlying36 info_sub rfl (by decide) w.heap.size _ l'.length (sbflat l') rfl HS10.out.own _ 1 1 rfl (fun e => by cases e) (Sb.cells ⟨(k : Int) + 1, (home : Int), (num : Int) + 1 + (t : Int), fs⟩) HN.out (Sb.one _) (by omega) (by decide) ?_; intro v11 w11 hO11 hK11; have HS11 := Lib.hid (HS10.out.add (x := ⟨(k : Int) + 1, (home : Int), (num : Int) + 1 + (t : Int), fs⟩) HO10.out hO11 hK11); clear hO11 hK11))
            refine ⟨⟨num + 1 + t, j - 1, l' ++ [⟨(k : Int) + 1, (home : Int), (num : Int) + 1 + (t : Int), fs⟩], by simp; omega, by simp, HD'.out.add (c := k + 1) (by omega) (by omega) (by omega) hho8 HFi.out, by simp; omega, by omega, HS11.out.more (by simp; omega)⟩, by simp [intOf]; omega⟩
        · obtain rfl : j = 0 := by omega
          go_wp2_with fail
          refine ⟨⟨k + 1, 0, l', by omega, by simp, HD'.out.client, by omega, HS.out.more (by omega)⟩, by simp [intOf]; omega⟩
    · obtain rfl : k = 6 := by omega
      go_wp2_with fail
      go_ret
      exact ⟨_, l, rfl, HD.out, by omega, HS.out.own, HS.out.each, HS.out.feed.more (by omega), HS.out.kept⟩
end Go.Proofs.YtgenmebmdpnjhaaGreat
