
/- The statements' preds: two tests, raw ones, or right ones of which one is bent. -/
import Derived.Test.YtddgpbokfglieaaFil
import Derived.Test.YtddgpbokfglieaaFeedPred
import Derived.Test.YtddgpbokfglieaaPredTest
import Derived.Deep.CutBlock
namespace Go.Proofs.Ytddgpbokfglieaa
open Go.RowKit
set_option linter.unusedVariables false

/-- What preds tells: two tests apart from the Feed. -/
def PredsPost (B b a : Nat) (w : World) (e : Ending) (w' : World) : Prop :=
  ∃ (x y : Pt), e = .returned (.tuple #[x.v, y.v]) ∧ IsPt w' x ∧ IsPt w' y ∧ (∀ z, x.A = some z → z.block < B ∨ w.heap.size ≤ z.block) ∧ (∀ z, y.A = some z → z.block < B ∨ w.heap.size ≤ z.block) ∧ IsFeed B w' b (a + 30) ∧ Kept (· = b) w w'
abbrev zpt : Pt := ⟨⟨⟨#[]⟩, 0, ⟨0, 0, 0, ⟨#[]⟩, false⟩, ⟨0, 0, 0, ⟨#[]⟩, false⟩, []⟩, none, 0⟩
theorem four_new (w : World) (o1 o2 o3 o4 : Obj) : ∃ W, W = ((((w.alloc o1).alloc o2).alloc o3).alloc o4) ∧ W.heap[w.heap.size]? = some o1 ∧ W.heap[w.heap.size + 1]? = some o2 ∧ W.heap[w.heap.size + 2]? = some o3 ∧ W.heap[w.heap.size + 3]? = some o4 ∧ Below w.heap.size w W := by
  have s1 : (w.alloc o1).heap.size = w.heap.size + 1 := by simp
  have s2 : ((w.alloc o1).alloc o2).heap.size = w.heap.size + 2 := by simp
  have s3 : (((w.alloc o1).alloc o2).alloc o3).heap.size = w.heap.size + 3 := by simp
  refine ⟨_, rfl, ?_, ?_, ?_, ?_, below_then (below_then (below_then (one_new _ _) (one_new _ _)) (one_new _ _)) (one_new _ _)⟩
  · exact below_row (one_new _ _) (below_row (one_new _ _) (below_row (one_new _ _) (heap_alloc_new _ _)))
  · have := heap_alloc_new (w.alloc o1) o2
    rw [s1] at this
    exact below_row (one_new _ _) (below_row (one_new _ _) this)
  · have := heap_alloc_new ((w.alloc o1).alloc o2) o3
    rw [s2] at this
    exact below_row (one_new _ _) this
  · have := heap_alloc_new (((w.alloc o1).alloc o2).alloc o3) o4
    rw [s3] at this
    exact this
theorem Vs.take {w : World} {A : Option Addr} {n k : Nat} {l : List Val} (h : Vs w A n l) (hk : k ≤ l.length) : Vs w A k (l.take k) := by
  have hn := h.len
  refine ⟨⟨by rw [flat_len _ Val.cells_len, List.length_take, Nat.min_eq_left hk], ?_⟩, fun a ha => h.fit a (List.mem_of_mem_take ha), by have := h.few; omega⟩
  rcases h.row.2 with h0 | ⟨g, o, rfl, hc⟩
  · left
    have hl : (vflat l).length = 0 := by rw [h0]; rfl
    rw [flat_len _ Val.cells_len] at hl
    rw [List.eq_nil_of_length_eq_zero (l := l) (by omega)]
    simp
  · refine .inr ⟨g, o, rfl, fun j u hj => hc j u ?_⟩
    unfold vflat at hj ⊢
    rw [← flat_take Val.cells Val.cells_len l k, List.getElem?_take] at hj
    split at hj
    · exact hj
    · cases hj
/-- The raw tests in their boxes. -/
structure Raws (B b a : Nat) (w wx : World) (x y : Pt) : Prop where
  rx : wx.heap[w.heap.size]? = some x.box
  ry : wx.heap[w.heap.size + 1]? = some y.box
  r6 : wx.heap[w.heap.size + 2]? = some zpt.box
  r7 : wx.heap[w.heap.size + 3]? = some zpt.box
  ix : IsPt wx x
  iy : IsPt wx y
  lx : ∀ z, x.A = some z → z.spot = none ∧ z.block < B
  ly : ∀ z, y.A = some z → z.spot = none ∧ z.block < B
  cx : x.p.set.length ≤ x.c
  cy : y.p.set.length ≤ y.c
  feed : IsFeed B wx b a
  kept : Kept (· = b) w wx
abbrev Pt.cut (x : Pt) (m : Nat) : Pt := ⟨{ x.p with set := x.p.set.take m }, x.A, x.c⟩
theorem Pt.cut_len {x : Pt} {m : Nat} (hm : m ≤ x.p.set.length) : (x.cut m).p.set.length = m := by show (x.p.set.take m).length = m; rw [List.length_take]; omega
theorem IsPt.cut {w : World} {x : Pt} (h : IsPt w x) {m : Nat} (hm : m ≤ x.p.set.length) : IsPt w (x.cut m) := by
  have e := Pt.cut_len hm
  refine ⟨⟨h.is.nm, h.is.fv, h.is.fw, ?_⟩, fun hA => ?_⟩
  · rw [e]; exact h.is.set.take hm
  · have := h.none_ hA
    rw [e]; exact ⟨by omega, this.2⟩
theorem box_cut {w : World} {g : Nat} {x : Pt} (hg : w.heap[g]? = some x.box) {m : Nat} (hm : m ≤ x.p.set.length) : (w.setCell ⟨g, 12, none⟩ (.slice x.A m x.c)).heap[g]? = some (x.cut m).box := by
  have := heap_setCell_same w g 12 _ _ (.slice x.A m x.c) hg
  rw [this]
  unfold Pt.box Pt.cells
  rw [Pt.cut_len hm]
  rfl
theorem Raws.cutx {B b a : Nat} {w wx : World} {x y : Pt} (h : Raws B b a w wx x y) (hb : b < w.heap.size) {m : Nat} (hm : m ≤ x.p.set.length) : Raws B b a w (wx.setCell ⟨w.heap.size, 12, none⟩ (.slice x.A m x.c)) (x.cut m) y := by
  have k : Kept (· = w.heap.size) wx (wx.setCell ⟨w.heap.size, 12, none⟩ (.slice x.A m x.c)) := Kept.setCell (S := (· = w.heap.size)) _ _ rfl _
  have hB := h.feed.1
  have hx : ∀ z, x.A = some z → ¬ z.block = w.heap.size := fun z hz e => by have := (h.lx z hz).2; omega
  have hy : ∀ z, y.A = some z → ¬ z.block = w.heap.size := fun z hz e => by have := (h.ly z hz).2; omega
  exact ⟨box_cut h.rx hm, k.row h.ry (by show ¬ w.heap.size + 1 = w.heap.size; omega), k.row h.r6 (by show ¬ w.heap.size + 2 = w.heap.size; omega), k.row h.r7 (by show ¬ w.heap.size + 3 = w.heap.size; omega), (h.ix.kept k hx).cut hm, h.iy.kept k hy, h.lx, h.ly, by rw [Pt.cut_len hm]; have := h.cx; exact Nat.le_trans hm this, h.cy, h.feed.kept k (by show ¬ b = w.heap.size; omega) (by intro i hi e; omega), h.kept.trans k (fun i hi e => by omega)⟩
theorem Raws.cuty {B b a : Nat} {w wx : World} {x y : Pt} (h : Raws B b a w wx x y) (hb : b < w.heap.size) {m : Nat} (hm : m ≤ y.p.set.length) : Raws B b a w (wx.setCell ⟨w.heap.size + 1, 12, none⟩ (.slice y.A m y.c)) x (y.cut m) := by
  have k : Kept (· = w.heap.size + 1) wx (wx.setCell ⟨w.heap.size + 1, 12, none⟩ (.slice y.A m y.c)) := Kept.setCell (S := (· = w.heap.size + 1)) _ _ rfl _
  have hB := h.feed.1
  have hx : ∀ z, x.A = some z → ¬ z.block = w.heap.size + 1 := fun z hz e => by have := (h.lx z hz).2; omega
  have hy : ∀ z, y.A = some z → ¬ z.block = w.heap.size + 1 := fun z hz e => by have := (h.ly z hz).2; omega
  exact ⟨k.row h.rx (by show ¬ w.heap.size = w.heap.size + 1; omega), box_cut h.ry hm, k.row h.r6 (by show ¬ w.heap.size + 2 = w.heap.size + 1; omega), k.row h.r7 (by show ¬ w.heap.size + 3 = w.heap.size + 1; omega), h.ix.kept k hx, (h.iy.kept k hy).cut hm, h.lx, h.ly, h.cx, by rw [Pt.cut_len hm]; have := h.cy; exact Nat.le_trans hm this, h.feed.kept k (by show ¬ b = w.heap.size + 1; omega) (by intro i hi e; omega), h.kept.trans k (fun i hi e => by omega)⟩

theorem Pd.Fed.fits {nm : ByteArray} {p : Prd} (h : Pd.Fed nm p) (hn : nm.size ≤ 9223372036854775807) : Pd.Fits p := ⟨by rw [h.name]; exact hn, h.v.fit, h.w.fit, fun a ha => (h.set a ha).fit⟩
/-- Two tests in their boxes g and h, the results' boxes with u and v in them. -/
structure Quad (B b a : Nat) (w wx : World) (g h : Nat) (x y u v : Pt) : Prop where
  rx : wx.heap[g]? = some x.box
  ry : wx.heap[h]? = some y.box
  r6 : wx.heap[w.heap.size + 2]? = some u.box
  r7 : wx.heap[w.heap.size + 3]? = some v.box
  g6 : g ≠ w.heap.size + 2 ∧ g ≠ w.heap.size + 3
  h6 : h ≠ w.heap.size + 2 ∧ h ≠ w.heap.size + 3
  ix : IsPt wx x
  iy : IsPt wx y
  ax : ∀ z, x.A = some z → z.block ≠ b ∧ z.block ≠ w.heap.size + 2 ∧ z.block ≠ w.heap.size + 3 ∧ (z.block < B ∨ w.heap.size ≤ z.block)
  ay : ∀ z, y.A = some z → z.block ≠ b ∧ z.block ≠ w.heap.size + 2 ∧ z.block ≠ w.heap.size + 3 ∧ (z.block < B ∨ w.heap.size ≤ z.block)
  feed : IsFeed B wx b a
  kept : Kept (· = b) w wx
  hb : b < w.heap.size
theorem Quad.later {B b a : Nat} {w wx wy : World} {g h : Nat} {x y u v : Pt} (q : Quad B b a w wx g h x y u v) (k : Below wx.heap.size wx wy) : Quad B b a w wy g h x y u v :=
  ⟨below_row k q.rx, below_row k q.ry, below_row k q.r6, below_row k q.r7, q.g6, q.h6, q.ix.later k, q.iy.later k, q.ax, q.ay, q.feed.below k, q.kept.then (Kept.ofBelow k), q.hb⟩
theorem Quad.put6 {B b a : Nat} {w wx : World} {g h : Nat} {x y u v : Pt} (q : Quad B b a w wx g h x y u v) (z : Pt) : Quad B b a w (wx.setRow (w.heap.size + 2) (part u.cells 0 z.cells).toArray) g h x y z v := by
  have k := Kept.setRow wx (w.heap.size + 2) (part u.cells 0 z.cells).toArray
  have hB := q.feed.1
  have hb := q.hb
  exact ⟨k.row q.rx q.g6.1, k.row q.ry q.h6.1, setRow_heap _ _ _ _ _ _ q.r6, k.row q.r7 (by show ¬ w.heap.size + 3 = w.heap.size + 2; omega), q.g6, q.h6, q.ix.kept k (fun z hz => (q.ax z hz).2.1), q.iy.kept k (fun z hz => (q.ay z hz).2.1), q.ax, q.ay, q.feed.kept k (by show ¬ b = w.heap.size + 2; omega) (by intro i hi e; omega), q.kept.trans k (fun i hi e => by omega), hb⟩
theorem Quad.put7 {B b a : Nat} {w wx : World} {g h : Nat} {x y u v : Pt} (q : Quad B b a w wx g h x y u v) (z : Pt) : Quad B b a w (wx.setRow (w.heap.size + 3) (part v.cells 0 z.cells).toArray) g h x y u z := by
  have k := Kept.setRow wx (w.heap.size + 3) (part v.cells 0 z.cells).toArray
  have hB := q.feed.1
  have hb := q.hb
  exact ⟨k.row q.rx q.g6.2, k.row q.ry q.h6.2, k.row q.r6 (by show ¬ w.heap.size + 2 = w.heap.size + 3; omega), setRow_heap _ _ _ _ _ _ q.r7, q.g6, q.h6, q.ix.kept k (fun z hz => (q.ax z hz).2.2.1), q.iy.kept k (fun z hz => (q.ay z hz).2.2.1), q.ax, q.ay, q.feed.kept k (by show ¬ b = w.heap.size + 3; omega) (by intro i hi e; omega), q.kept.trans k (fun i hi e => by omega), hb⟩
theorem Quad.ends {B b a c : Nat} {w wx : World} {g h : Nat} {x y : Pt} (q : Quad B b c w wx g h x y x y) (hc : c ≤ a + 30) : PredsPost B b a w (.returned (.tuple #[x.v, y.v])) wx :=
  ⟨x, y, rfl, q.ix, q.iy, fun z hz => (q.ax z hz).2.2.2, fun z hz => (q.ay z hz).2.2.2, q.feed.more hc, q.kept⟩
theorem Raws.quad {B b a : Nat} {w wx : World} {x y : Pt} (h : Raws B b a w wx x y) (hb : b < w.heap.size) : Quad B b a w wx w.heap.size (w.heap.size + 1) x y zpt zpt := by
  have hB := h.feed.1
  exact ⟨h.rx, h.ry, h.r6, h.r7, ⟨by omega, by omega⟩, ⟨by omega, by omega⟩, h.ix, h.iy, fun z hz => by have := (h.lx z hz).2; omega, fun z hz => by have := (h.ly z hz).2; omega, h.feed, h.kept, hb⟩
theorem Raws.next {B b a a' : Nat} {w wx wy : World} {x y : Pt} (h : Raws B b a w wx x y) (k : Kept (· = b) wx wy) (f : IsFeed B wy b a') (hb : b < w.heap.size) : Raws B b a' w wy x y := by
  have hB := h.feed.1
  exact ⟨k.row h.rx (by show ¬ w.heap.size = b; omega), k.row h.ry (by show ¬ w.heap.size + 1 = b; omega), k.row h.r6 (by show ¬ w.heap.size + 2 = b; omega), k.row h.r7 (by show ¬ w.heap.size + 3 = b; omega), h.ix.kept k (fun z hz e => by have := (h.lx z hz).2; omega), h.iy.kept k (fun z hz e => by have := (h.ly z hz).2; omega), h.lx, h.ly, h.cx, h.cy, f, h.kept.then k⟩
/-- One test that the Feed gave, in its box. -/
structure One (B b a : Nat) (w wx : World) (g : Nat) (x : Pt) : Prop where
  rx : wx.heap[g]? = some x.box
  r6 : wx.heap[w.heap.size + 2]? = some zpt.box
  r7 : wx.heap[w.heap.size + 3]? = some zpt.box
  hg : w.heap.size + 3 < g
  ox : OwnS w.heap.size wx x
  fx : Pd.Fits x.p
  few : x.p.set.length ≤ 4
  feed : IsFeed B wx b a
  kept : Kept (· = b) w wx
  hb : b < w.heap.size
/-- Two such: y is in the box, of z the Set is owned. -/
structure Tw (B b a : Nat) (w wx : World) (g h : Nat) (x y z : Pt) : Prop where
  rx : wx.heap[g]? = some x.box
  ry : wx.heap[h]? = some y.box
  r6 : wx.heap[w.heap.size + 2]? = some zpt.box
  r7 : wx.heap[w.heap.size + 3]? = some zpt.box
  hg : w.heap.size + 3 < g
  hh : g < h
  ox : OwnS w.heap.size wx x
  oz : OwnS w.heap.size wx z
  apart : ∀ i, (Value.slice x.A x.p.set.length x.c).ownBlock = some i → ¬ (Value.slice z.A z.p.set.length z.c).ownBlock = some i
  fx : Pd.Fits x.p
  fz : Pd.Fits z.p
  few : x.p.set.length ≤ 4
  fewz : z.p.set.length ≤ 5
  feed : IsFeed B wx b a
  kept : Kept (· = b) w wx
  hb : b < w.heap.size
theorem One.make {B b a : Nat} {w w1 w2 : World} {x y x' : Pt} (h : Raws B b a w w1 x y) {a' : Nat} (k : Kept (· = b) w1 w2) (f : IsFeed B w2 b a') (hb : b < w.heap.size) (ho : OwnV w1.heap.size w2 (.slice x'.A x'.p.set.length x'.c) x'.p.set) (hf : Pd.Fits x'.p) (few : x'.p.set.length ≤ 4) : One B b a' w (w2.alloc x'.box) w2.heap.size x' := by
  have hn := one_new w2 x'.box
  have hB := h.feed.1
  have s3 : w.heap.size + 3 < w1.heap.size := (Array.getElem?_eq_some_iff.1 h.r7).1
  have hs := h.kept.size
  refine ⟨heap_alloc_new _ _, below_row hn (k.row h.r6 (by show ¬ w.heap.size + 2 = b; omega)), below_row hn (k.row h.r7 (by show ¬ w.heap.size + 3 = b; omega)), Nat.lt_of_lt_of_le s3 k.size, ?_, hf, few, f.below hn, (h.kept.then k).then (Kept.ofBelow hn), hb⟩
  exact (ownw_sub ho hs).later hn
theorem One.next {B b a a' : Nat} {w wx wy : World} {g : Nat} {x : Pt} (h : One B b a w wx g x) (k : Kept (· = b) wx wy) (f : IsFeed B wy b a') : One B b a' w wy g x := by
  have hB := h.feed.1
  have hb := h.hb
  have hg := h.hg
  exact ⟨k.row h.rx (by show ¬ g = b; omega), k.row h.r6 (by show ¬ w.heap.size + 2 = b; omega), k.row h.r7 (by show ¬ w.heap.size + 3 = b; omega), hg, h.ox.kept k (ownw_apart h.ox hb), h.fx, h.few, f, h.kept.then k, hb⟩
theorem Tw.make {B b a : Nat} {w w1 w2 : World} {g : Nat} {x x' : Pt} (h : One B b a w w1 g x) {a' : Nat} (k : Kept (· = b) w1 w2) (f : IsFeed B w2 b a') (ho : OwnV w1.heap.size w2 (.slice x'.A x'.p.set.length x'.c) x'.p.set) (hf : Pd.Fits x'.p) (few : x'.p.set.length ≤ 4) : Tw B b a' w (w2.alloc x'.box) g w2.heap.size x x' x' := by
  have h2 := h.next k f
  have hn := one_new w2 x'.box
  have hg : g < w1.heap.size := (Array.getElem?_eq_some_iff.1 h.rx).1
  refine ⟨below_row hn h2.rx, heap_alloc_new _ _, below_row hn h2.r6, below_row hn h2.r7, h.hg, Nat.lt_of_lt_of_le hg k.size, h2.ox.later hn, (ownw_sub ho h.kept.size).later hn, ?_, h.fx, hf, h.few, by omega, f.below hn, h2.kept.then (Kept.ofBelow hn), h.hb⟩
  intro i hi hi'
  have := ownw_lt h.ox i hi
  have := ownw_base ho i hi'
  omega
theorem Tw.next {B b a a' : Nat} {w wx wy : World} {g h : Nat} {x y z : Pt} (q : Tw B b a w wx g h x y z) (k : Kept (· = b) wx wy) (f : IsFeed B wy b a') : Tw B b a' w wy g h x y z := by
  have hB := q.feed.1
  have hb := q.hb
  have hg := q.hg
  have hh := q.hh
  exact ⟨k.row q.rx (by show ¬ g = b; omega), k.row q.ry (by show ¬ h = b; omega), k.row q.r6 (by show ¬ w.heap.size + 2 = b; omega), k.row q.r7 (by show ¬ w.heap.size + 3 = b; omega), hg, hh, q.ox.kept k (ownw_apart q.ox hb), q.oz.kept k (ownw_apart q.oz hb), q.apart, q.fx, q.fz, q.few, q.fewz, f, q.kept.then k, hb⟩
theorem Tw.later {B b a : Nat} {w wx wy : World} {g h : Nat} {x y z : Pt} (q : Tw B b a w wx g h x y z) (k : Below wx.heap.size wx wy) : Tw B b a w wy g h x y z :=
  ⟨below_row k q.rx, below_row k q.ry, below_row k q.r6, below_row k q.r7, q.hg, q.hh, q.ox.later k, q.oz.later k, q.apart, q.fx, q.fz, q.few, q.fewz, q.feed.below k, q.kept.then (Kept.ofBelow k), q.hb⟩
/-- The box h is turned to z's. -/
theorem Tw.turn {B b a : Nat} {w wx wy : World} {g h : Nat} {x y z : Pt} (q : Tw B b a w wx g h x y z) (k : Kept (· = h) wx wy) {z' : Pt} (hr : wy.heap[h]? = some z'.box) (hA : z'.A = z.A) (hc : z'.c = z.c) (hs : z'.p.set = z.p.set) (hf : Pd.Fits z'.p) : Tw B b a w wy g h x z' z' := by
  have hB := q.feed.1
  have hb := q.hb
  have hg := q.hg
  have hh := q.hh
  have hoz := q.oz.kept k (ownw_not q.oz q.ry val_pred)
  refine ⟨k.row q.rx (by show ¬ g = h; omega), hr, k.row q.r6 (by show ¬ w.heap.size + 2 = h; omega), k.row q.r7 (by show ¬ w.heap.size + 3 = h; omega), hg, hh, q.ox.kept k (ownw_not q.ox q.ry val_pred), ?_, ?_, q.fx, hf, q.few, by rw [hs]; exact q.fewz, q.feed.kept k (by show ¬ b = h; omega) (by intro i hi e; omega), q.kept.trans k (fun i hi e => by omega), hb⟩
  · unfold OwnS
    rw [hA, hc, hs]
    exact hoz
  · rw [hA, hc, hs]
    exact q.apart
theorem Tw.quad {B b a : Nat} {w wx : World} {g h : Nat} {x y : Pt} (q : Tw B b a w wx g h x y y) : Quad B b a w wx g h x y zpt zpt := by
  have hB := q.feed.1
  have hb := q.hb
  have hg := q.hg
  have hh := q.hh
  have key : ∀ u : Pt, OwnS w.heap.size wx u → ∀ z, u.A = some z → z.block ≠ b ∧ z.block ≠ w.heap.size + 2 ∧ z.block ≠ w.heap.size + 3 ∧ (z.block < B ∨ w.heap.size ≤ z.block) := by
    intro u hu z hz
    have hob : (Value.slice u.A u.p.set.length u.c).ownBlock = some z.block := by rw [hz]; rfl
    exact ⟨ownw_apart hu hb _ hob, ownw_not hu q.r6 val_pred _ hob, ownw_not hu q.r7 val_pred _ hob, .inr (ownw_base hu _ hob)⟩
  exact ⟨q.rx, q.ry, q.r6, q.r7, ⟨by omega, by omega⟩, ⟨by omega, by omega⟩, q.ox.is q.fx, q.oz.is q.fz, key x q.ox, key y q.oz, q.feed, q.kept, hb⟩
theorem Quad.more {B b a a' : Nat} {w wx : World} {g h : Nat} {x y u v : Pt} (q : Quad B b a w wx g h x y u v) (ha : a ≤ a') : Quad B b a' w wx g h x y u v :=
  ⟨q.rx, q.ry, q.r6, q.r7, q.g6, q.h6, q.ix, q.iy, q.ax, q.ay, q.feed.more ha, q.kept, q.hb⟩
theorem three_at (w : World) (q : Nat) (hq : q < 3) : ∃ sk : ByteArray, sk.size ≤ 1 ∧
    (Instr.index 64 (Value.agg #[Value.string ⟨#[]⟩, Value.string ⟨#[66]⟩, Value.string ⟨#[98]⟩]) (Value.int IntKind.i64 (q : Int))).run Try.prog w = .ok (.string sk) w := by
  match q, hq with
  | 0, _ => exact ⟨⟨#[]⟩, by decide, by kernel_rfl⟩
  | 1, _ => exact ⟨⟨#[66]⟩, by decide, by kernel_rfl⟩
  | 2, _ => exact ⟨⟨#[98]⟩, by decide, by kernel_rfl⟩
theorem one_of {m : List Pt} {p : Prd} (h : m.map (·.p) = [p]) : ∃ z, m = [z] ∧ z.p = p := by
  match m, h with
  | [z], h => exact ⟨z, rfl, by simpa using h⟩
/-- What is in h is turned to a copy of x. -/
theorem Tw.copy {B b a : Nat} {w wx w7 w8 : World} {g h : Nat} {x y z m : Pt} {v : Value} (q : Tw B b a w wx g h x y z) (h7 : Below wx.heap.size wx w7) (hc : Cop w7 w8 v [m] [x.p]) (hm : m.p = x.p) : Tw B b a w (w8.setRow h (part y.cells 0 m.cells).toArray) g h x m m := by
  have hB := q.feed.1
  have hb := q.hb
  have hg := q.hg
  have hh := q.hh
  have h8 := q.later (below_then h7 hc.below)
  have k := Kept.setRow w8 h (part y.cells 0 m.cells).toArray
  have hom : OwnS w7.heap.size w8 m := hc.sets m (List.mem_singleton.2 rfl)
  have hs : w.heap.size ≤ w7.heap.size := Nat.le_trans q.kept.size h7.size
  refine ⟨k.row h8.rx (by show ¬ g = h; omega), setRow_heap _ _ _ _ _ _ h8.ry, k.row h8.r6 (by show ¬ w.heap.size + 2 = h; omega), k.row h8.r7 (by show ¬ w.heap.size + 3 = h; omega), hg, hh, h8.ox.kept k (ownw_not h8.ox h8.ry val_pred), (ownw_sub hom hs).kept k (ownw_not hom h8.ry val_pred), ?_, q.fx, by rw [hm]; exact q.fx, q.few, by rw [hm]; have := q.few; omega, h8.feed.kept k (by show ¬ b = h; omega) (by intro i hi e; omega), h8.kept.trans k (fun i hi e => by omega), hb⟩
  intro i hi hi'
  have := ownw_lt q.ox i hi
  have := ownw_base hom i hi'
  have := h7.size
  omega
theorem box_app {w : World} {g : Nat} {x : Pt} {v : Val} {A' : Option Addr} {c' : Nat} (hg : w.heap[g]? = some x.box) : (w.setCell ⟨g, 12, none⟩ (.slice A' (x.p.set.length + 1) c')).heap[g]? = some (Pt.box ⟨{ x.p with set := x.p.set ++ [v] }, A', c'⟩) := by
  have := heap_setCell_same w g 12 _ _ (.slice A' (x.p.set.length + 1) c') hg
  rw [this]
  unfold Pt.box Pt.cells
  rw [show (x.p.set ++ [v]).length = x.p.set.length + 1 by simp]
  rfl
/-- The Set of what is in h grows by one. -/
theorem Tw.app {B b a : Nat} {w wx wy : World} {g h : Nat} {x y : Pt} {v : Val} {A' : Option Addr} {c' : Nat} (q : Tw B b a w wx g h x y y) (hv : Fit v) (few : y.p.set.length ≤ 4) (hO : OwnW 5 w.heap.size 24 wy (.slice A' (y.p.set.length + 1) c') (y.p.set.length + 1) (vflat y.p.set ++ vflat [v])) (hK : Kept (fun i => (Value.slice y.A y.p.set.length y.c).ownBlock = some i) wx wy)
    (hnew : ∀ i, (Value.slice A' (y.p.set.length + 1) c').ownBlock = some i → (Value.slice y.A y.p.set.length y.c).ownBlock = some i ∨ wx.heap.size ≤ i) : Tw B b a w wy g h x y ⟨{ y.p with set := y.p.set ++ [v] }, A', c'⟩ := by
  have hB := q.feed.1
  have hb := q.hb
  have hg := q.hg
  have hh := q.hh
  have e : (y.p.set ++ [v]).length = y.p.set.length + 1 := by simp
  have n1 := ownw_not q.oz q.rx val_pred
  have n2 := ownw_not q.oz q.ry val_pred
  have n3 := ownw_not q.oz q.r6 val_pred
  have n4 := ownw_not q.oz q.r7 val_pred
  have n5 := ownw_apart q.oz hb
  have n6 := ownw_base q.oz
  refine ⟨hK.row q.rx (fun e => n1 _ e rfl), hK.row q.ry (fun e => n2 _ e rfl), hK.row q.r6 (fun e => n3 _ e rfl), hK.row q.r7 (fun e => n4 _ e rfl), hg, hh, q.ox.kept hK (fun i hi => q.apart i hi), ?_, ?_, q.fx, ⟨q.fz.nm, q.fz.v, q.fz.w, ?_⟩, q.few, ?_, q.feed.kept hK (fun e => n5 _ e rfl) (fun i hi e => by have := n6 i e; omega), q.kept.trans hK (fun i hi e => by have := n6 i e; omega), hb⟩
  · have := ownv_add (l := y.p.set) (m := [v]) hO
    show OwnV w.heap.size wy (.slice A' (y.p.set ++ [v]).length c') (y.p.set ++ [v])
    rw [e]
    exact this
  · intro i hi hi'
    have hi' : (Value.slice A' (y.p.set ++ [v]).length c').ownBlock = some i := hi'
    rw [e] at hi'
    rcases hnew i hi' with h1 | h1
    · exact q.apart i hi h1
    · have := ownw_lt q.ox i hi
      omega
  · intro u hu
    rcases List.mem_append.1 hu with hu | hu
    · exact q.fz.set u hu
    · rw [List.mem_singleton.1 hu]; exact hv
  · show (y.p.set ++ [v]).length ≤ 5
    rw [e]; omega

set_option maxRecDepth 100000 in
set_option maxHeartbeats 8000000 in
theorem preds_any {B b a : Nat} (w : World) (ha : a < 4611686018427385000) (hf : IsFeed B w b a) {x y : Pt} (ix : IsPt w x) (iy : IsPt w y) (lx : ∀ z, x.A = some z → z.spot = none ∧ z.block < B) (ly : ∀ z, y.A = some z → z.spot = none ∧ z.block < B) (cx : x.p.set.length ≤ x.c) (cy : y.p.set.length ≤ y.c) :
    Calls Try.prog 17 #[pv x.p x.A x.p.set.length x.c, pv y.p y.A y.p.set.length y.c, .pointer (some ⟨b, 0, none⟩)] w (PredsPost B b a w) := by
  have hlt := hf.lt
  obtain ⟨W, hW, h1, h2, h3, h4, h5⟩ := four_new w x.box y.box zpt.box zpt.box
  have hR : Raws B b a w W x y := ⟨h1, h2, h3, h4, ix.later h5, iy.later h5, lx, ly, cx, cy, hf.below h5, Kept.ofBelow h5⟩
  have HW := Lib.hid hW
  have HR := Lib.hid hR
  clear hf hW hR h1 h2 h3 h4 h5 ix iy lx ly cx cy
  have hst := store_float
  go_enter Try.func17, Try.ntmps17
  go_upto_region 1 with fail
  dsimp only [Pt.box, Pt.cells, List.length_nil] at HW
  rw [← HW.out]
  clear HW
  generalize pv x.p x.A x.p.set.length x.c = vx
  generalize pv y.p y.A y.p.set.length y.c = vy
  go_cut [] (fun wx => ∃ x' : Pt, Raws B b a w wx x' y)
  case first =>
    have c12 : W.cell? ⟨w.heap.size, 12, none⟩ = some (.slice x.A x.p.set.length x.c) := cell_of_row _ _ 12 _ _ _ HR.out.rx
    have f12 := frozen_of_row _ _ 12 _ _ HR.out.rx
    have hcx := HR.out.cx
    have hfew := HR.out.ix.is.set.few
    have HX : Hid (∀ n c A, x.p.set.length = n → x.c = c → x.A = A → ∀ m, m ≤ n → ∃ x', Raws B b a w (W.setCell ⟨w.heap.size, 12, none⟩ (.slice A m c)) x' y) := by
      rintro n c A rfl rfl rfl m hm; exact ⟨_, HR.out.cutx hlt hm⟩
    have HL := Lib.hid HR.out.lx
    have HN := Lib.hid HR.out.ix.none_
    clear HR
    obtain ⟨⟨xn, xt, xv, xw, xs⟩, xA, xc⟩ := x
    dsimp only at HX HL HN c12 hcx hfew ⊢
    have HX := Lib.hid (HX.out _ _ _ rfl rfl rfl)
    generalize xs.length = n at HX HN c12 hcx hfew ⊢
    rcases xA with - | ⟨g, o, sp⟩
    · obtain ⟨rfl, rfl⟩ := HN.out rfl
      go_wp2_with fail
      go_meet
      exact HX.out 0 (by omega)
    · obtain rfl : sp = none := (HL.out _ rfl).1
      by_cases hm : (n : Int) ≤ 6
      · go_wp2_with fail
        go_meet
        exact HX.out n (by omega)
      · have hc6 : 6 ≤ xc := by omega
        go_wp2_with fail
        go_meet
        exact HX.out 6 (by omega)
  case rest =>
  obtain ⟨x1, hx1⟩ := hcut
  have HR1 := Lib.hid hx1
  clear HR hx1
  have HR := HR1
  clear HR1
  go_upto_region 2 with fail
  go_cut [] (fun wx => ∃ y' : Pt, Raws B b a w wx x1 y')
  case first =>
    have c12 : wc.cell? ⟨w.heap.size + 1, 12, none⟩ = some (.slice y.A y.p.set.length y.c) := cell_of_row _ _ 12 _ _ _ HR.out.ry
    have f12 := frozen_of_row _ _ 12 _ _ HR.out.ry
    have hcx := HR.out.cy
    have hfew := HR.out.iy.is.set.few
    have HX : Hid (∀ n c A, y.p.set.length = n → y.c = c → y.A = A → ∀ m, m ≤ n → ∃ y', Raws B b a w (wc.setCell ⟨w.heap.size + 1, 12, none⟩ (.slice A m c)) x1 y') := by
      rintro n c A rfl rfl rfl m hm; exact ⟨_, HR.out.cuty hlt hm⟩
    have HL := Lib.hid HR.out.ly
    have HN := Lib.hid HR.out.iy.none_
    clear HR
    obtain ⟨⟨xn, xt, xv, xw, xs⟩, xA, xc⟩ := y
    dsimp only at HX HL HN c12 hcx hfew ⊢
    have HX := Lib.hid (HX.out _ _ _ rfl rfl rfl)
    generalize xs.length = n at HX HN c12 hcx hfew ⊢
    rcases xA with - | ⟨g, o, sp⟩
    · obtain ⟨rfl, rfl⟩ := HN.out rfl
      go_wp2_with fail
      go_meet
      exact HX.out 0 (by omega)
    · obtain rfl : sp = none := (HL.out _ rfl).1
      by_cases hm : (n : Int) ≤ 6
      · go_wp2_with fail
        go_meet
        exact HX.out n (by omega)
      · have hc6 : 6 ≤ xc := by omega
        go_wp2_with fail
        go_meet
        exact HX.out 6 (by omega)
  case rest =>
  obtain ⟨y1, hy1⟩ := hcut
  clear HR
  have HR := Lib.hid hy1
  clear hy1
  go_wp2_with fail
  refine (next_any (a := a) 8 (by omega) (by omega) _ (by omega) HR.out.feed).mono ?_
  rintro e w1 ⟨k, hk, rfl, hF1, hK1, hs1⟩
  replace HR := Lib.hid (HR.out.next hK1 hF1 hlt)
  clear hF1 hK1 hs1
  by_cases hk0 : (k : Int) = 0
  · go_upto_region 4 with fail
    have HQ := Lib.hid (HR.out.quad hlt)
    clear HR
    refine held_begin (fun xw => xw.heap[w.heap.size]? = some x1.box ∧ xw.heap[w.heap.size + 1]? = some y1.box) (by kernel_rfl) ?_
    replace HQ := Lib.hid (HQ.out.later (drew_below _))
    generalize World.drew _ = wd at HQ ⊢
    refine held_read (i := 0) (o := { dst := some 29, op := Op.load 30 (Operand.tmp 3), type := 30, pos := "law.go:40", after := #[], guard := none }) (v := ?_) rfl (by kernel_rfl) (by kernel_rfl) (by kernel_rfl) (fun _ _ _ h => h) (by rfl) ⟨HQ.out.rx, HQ.out.ry⟩ ?_ ?_
    rotate_left
    · (intro x hx; first | (refine load_run (cs := x1.cells) rfl rfl (cells_row hx.1) Try.underlying30 rfl prd_size ?_; rfl) | (refine load_run (cs := y1.cells) rfl rfl (cells_row hx.2) Try.underlying30 rfl prd_size ?_; rfl))
    try simp only [Act.put, List.setIfInBounds_toArray, List.set_cons_zero, List.set_cons_succ]
    refine held_read (i := 1) (o := { dst := some 30, op := Op.load 30 (Operand.tmp 4), type := 30, pos := "law.go:40", after := #[{ on := 2, ground := Ground.gcOnly Departure.lateStores }], guard := none }) (v := ?_) rfl (by kernel_rfl) (by kernel_rfl) (by kernel_rfl) (fun _ _ _ h => h) (by rfl) ⟨HQ.out.rx, HQ.out.ry⟩ ?_ ?_
    rotate_left
    · (intro x hx; first | (refine load_run (cs := x1.cells) rfl rfl (cells_row hx.1) Try.underlying30 rfl prd_size ?_; rfl) | (refine load_run (cs := y1.cells) rfl rfl (cells_row hx.2) Try.underlying30 rfl prd_size ?_; rfl))
    try simp only [Act.put, List.setIfInBounds_toArray, List.set_cons_zero, List.set_cons_succ]
    refine held_call (i := 2) (o := { dst := none, op := Op.store 30 (Operand.tmp 6) (Operand.tmp 29), type := 0, pos := "law.go:40", after := #[{ on := 0, ground := Ground.data }, { on := 0, ground := Ground.phase }, { on := 1, ground := Ground.textOnly Departure.lateStores }], guard := none }) rfl (by kernel_rfl) (by rfl) (fun K hK => ?_)
    refine step_store_part 30 _ _ rfl (w.heap.size + 2) 0 _ x1.cells rfl rfl rfl 30 _ HQ.out.r6 prd_size (Nat.le_refl 13) (Pt.one _) ?_
    have HQ1 := Lib.hid (HQ.out.put6 x1)
    refine hK.out _ _ ⟨HQ1.out.rx, HQ1.out.ry⟩ ?_
    clear hK K HQ
    have HQ := HQ1
    clear HQ1
    generalize World.setRow _ _ _ = w6 at HQ ⊢
    try simp only [Act.put]
    refine held_call (i := 3) (o := { dst := none, op := Op.store 30 (Operand.tmp 7) (Operand.tmp 30), type := 0, pos := "law.go:40", after := #[{ on := 1, ground := Ground.data }, { on := 2, ground := Ground.chain }, { on := 0, ground := Ground.phase }, { on := 1, ground := Ground.phase }, { on := 2, ground := Ground.phase }], guard := none }) rfl (by kernel_rfl) (by rfl) (fun K hK => ?_)
    refine step_store_part 30 _ _ rfl (w.heap.size + 3) 0 _ y1.cells rfl rfl rfl 30 _ HQ.out.r7 prd_size (Nat.le_refl 13) (Pt.one _) ?_
    have HQ1 := Lib.hid (HQ.out.put7 y1)
    refine hK.out _ _ ⟨HQ1.out.rx, HQ1.out.ry⟩ ?_
    clear hK K HQ
    have HQ := HQ1
    clear HQ1
    generalize World.setRow _ _ _ = w6 at HQ ⊢
    try simp only [Act.put]
    refine wpAnyH_done (by kernel_rfl) ?_ _
    go_wp2_with fail
    refine bodyPost_ret (results_two_rows rfl _ _ _ _ _ _ _ _ rfl rfl HQ.out.r6 HQ.out.r7 Try.underlying30 prd_size prd_size) rfl ?_
    exact HQ.out.ends (by omega)
  go_wp2_with fail
  refine (feedpred_any ⟨#[97]⟩ _ (by omega) HR.out.feed).mono ?_
  rintro e w2 ⟨p, A, c, rfl, hfed, hO, hF, hK⟩
  have H1 := Lib.hid (One.make (x' := ⟨p, A, c⟩) HR.out hK hF hlt hO (hfed.fits (by decide)) hfed.few)
  clear HR hO hF hK hfed hk hk0
  go_upto_region 6 with fail
  dsimp only [Pt.box, Pt.cells] at H1
  generalize w2.heap.size = gp at H1 ⊢
  generalize w2.alloc _ = w3 at H1 ⊢
  have H1 : Hid (One B b (a + 1 + 10) w w3 gp ⟨p, A, c⟩) := H1
  go_wp2_with fail
  refine (feedpred_any ⟨#[97]⟩ _ (by omega) H1.out.feed).mono ?_
  rintro e w4 ⟨q, A', c', rfl, hfed, hO, hF, hK⟩
  have HT := Lib.hid (Tw.make (x' := ⟨q, A', c'⟩) H1.out hK hF hO (hfed.fits (by decide)) hfed.few)
  have HY : Hid (q.set.length ≤ 4) := hfed.few
  clear H1 hO hF hK hfed
  go_upto_region 7 with fail
  dsimp only [Pt.box, Pt.cells] at HT
  generalize w4.heap.size = gq at HT ⊢
  generalize w4.alloc _ = w5 at HT ⊢
  have HT : Hid (Tw B b (a + 1 + 10 + 10) w w5 gp gq ⟨p, A, c⟩ ⟨q, A', c'⟩ ⟨q, A', c'⟩) := HT
  go_wp2_with fail
  refine (next_any (a := a + 1 + 10 + 10) 4 (by omega) (by omega) _ (by omega) HT.out.feed).mono ?_
  rintro e w6 ⟨k2, hk2, rfl, hF1, hK1, hs1⟩
  replace HT := Lib.hid (HT.out.next hK1 hF1)
  clear hF1 hK1 hs1
  generalize hx : (⟨p, A, c⟩ : Pt) = xp at HT
  generalize hy : (⟨q, A', c'⟩ : Pt) = y at HT
  have HY : Hid (y.p.set.length ≤ 4) := by subst hy; exact HY.out
  clear hx hy
  go_upto_if 37 with fail
  go_cut [] (fun wx => ∃ y' : Pt, y'.p.set.length ≤ 4 ∧ Tw B b (a + 1 + 10 + 10 + 1) w wx gp gq xp y' y')
  case first =>
    by_cases h0 : (k2 : Int) = 0
    case neg =>
      go_wp2_with fail
      go_meet
      exact ⟨y, HY.out, HT.out⟩
    case pos =>
      have hg := cells_row HT.out.rx
      have HG := Lib.hid hg
      clear hg
      go_wp2_with (first | (refine wpList_load_at rfl 30 _ rfl gp 0 xp.cells _ rfl HG.out Try.underlying30 rfl prd_size ?_; dsimp only [Pt.cells]) | fail)
      have hn := one_new w6 xp.box
      have hps : Ps (w6.alloc xp.box) (some ⟨w6.heap.size, 0, none⟩) 1 [xp] := ⟨new_pt w6 xp, fun z hz => by rw [List.mem_singleton.1 hz]; exact (HT.out.ox.is HT.out.fx).later hn, by omega⟩
      refine (hfilter_any (c := 1) hps (by simp) (fun z hz => by rw [List.mem_singleton.1 hz]; have := HT.out.few; omega)).mono ?_
      rintro e w8 ⟨v, m, rfl, hc⟩
      obtain ⟨z, rfl, hz⟩ := one_of hc.map
      have HC := Lib.hid hc
      obtain ⟨gv, cv, rfl, -, -, hcv, -, hcell⟩ := ownp_at hc.own (by simp)
      have HV : Hid (∀ j u, z.cells[j]? = some u → w8.cell? ⟨gv, 0 + j, none⟩ = some u) := fun j u hj => hcell j u (by simpa [pflat] using hj)
      have HR8 := Lib.hid (below_row (below_then hn hc.below) HT.out.ry)
      have HN := Lib.hid hn
      clear hn hps hc hcell
      go_wp2_with (first | (refine wpList_load_at rfl 30 _ rfl gv 0 z.cells _ rfl HV.out Try.underlying30 rfl prd_size ?_; dsimp only [Pt.cells]) | (refine wpList_store_part rfl 30 _ _ rfl gq 0 _ z.cells rfl rfl rfl 30 y.cells HR8.out prd_size (Nat.le_refl 13) (Pt.one _) ?_) | fail)
      go_meet
      exact ⟨z, by rw [hz]; exact HT.out.few, HT.out.copy HN.out HC.out hz⟩
  case rest =>
  obtain ⟨y2, hy2, hT2⟩ := hcut
  clear HT HY
  have HT := Lib.hid hT2
  have HY := Lib.hid hy2
  clear hT2 hy2
  generalize wc = w7 at HT ⊢
  go_wp2_with fail
  refine (next_any (a := a + 1 + 10 + 10 + 1) 12 (by omega) (by omega) _ (by omega) HT.out.feed).mono ?_
  rintro e w8 ⟨k3, hk3, rfl, hF1, hK1, hs1⟩
  replace HT := Lib.hid (HT.out.next hK1 hF1)
  clear hF1 hK1 hs1
  generalize ha' : a + 1 + 10 + 10 + 1 + 1 = a7 at HT
  have ha7 : a7 + 7 ≤ a + 30 := by omega
  clear ha'
  go_upto_block 0 with fail
  go_cut [] (fun wx => ∃ y' : Pt, Quad B b (a + 30) w wx gp gq xp y' zpt zpt)
  case first =>
    have hk3' : k3 = 0 ∨ k3 = 1 ∨ k3 = 2 ∨ k3 = 3 ∨ k3 = 4 ∨ k3 = 5 ∨ (¬ (k3 : Int) = 0 ∧ ¬ (k3 : Int) = 1 ∧ ¬ (k3 : Int) = 2 ∧ ¬ (k3 : Int) = 3 ∧ ¬ (k3 : Int) = 4 ∧ ¬ (k3 : Int) = 5) := by omega
    clear hk3
    rcases hk3' with rfl | rfl | rfl | rfl | rfl | rfl | ⟨n0, n1, n2, n3, n4, n5⟩
    · go_wp2_with fail
      refine (next_any (a := a7) 12 (by omega) (by omega) _ (by omega) HT.out.feed).mono ?_
      rintro e w9 ⟨q1, hq1, rfl, hF1, hK1, hs1⟩
      replace HT := Lib.hid (HT.out.next hK1 hF1)
      clear hF1 hK1 hs1
      have c1 : w9.cell? ⟨gq, 1, none⟩ = some (.int .i64 y2.p.t) := cell_of_row _ _ 1 _ _ _ HT.out.ry
      have f1 := frozen_of_row _ _ 1 _ _ HT.out.ry
      go_wp2_with fail
      go_meet
      exact ⟨⟨{ y2.p with t := q1 }, y2.A, y2.c⟩, (HT.out.turn (z' := ⟨{ y2.p with t := q1 }, y2.A, y2.c⟩) (Kept.setCell (S := (· = gq)) _ _ rfl _) (heap_setCell_same w9 gq 1 _ _ _ HT.out.ry) rfl rfl rfl ⟨HT.out.fz.nm, HT.out.fz.v, HT.out.fz.w, HT.out.fz.set⟩).quad.more (by omega)⟩
    · have c1 : w8.cell? ⟨gq, 5, none⟩ = some (.string y2.p.v.s) := cell_of_row _ _ 5 _ _ _ HT.out.ry
      have f1 := frozen_of_row _ _ 5 _ _ HT.out.ry
      go_wp2_with fail
      go_meet
      exact ⟨⟨{ y2.p with v := { y2.p.v with s := ⟨#[116, 104, 105, 114, 116, 101, 101, 110, 32, 98, 121, 116, 101, 115]⟩ } }, y2.A, y2.c⟩, (HT.out.turn (z' := ⟨{ y2.p with v := { y2.p.v with s := ⟨#[116, 104, 105, 114, 116, 101, 101, 110, 32, 98, 121, 116, 101, 115]⟩ } }, y2.A, y2.c⟩) (Kept.setCell (S := (· = gq)) _ _ rfl _) (heap_setCell_same w8 gq 5 _ _ _ HT.out.ry) rfl rfl rfl ⟨HT.out.fz.nm, ⟨HT.out.fz.v.lo, HT.out.fz.v.hi, by show (14 : Nat) ≤ 9223372036854775807; omega⟩, HT.out.fz.w, HT.out.fz.set⟩).quad.more (by omega)⟩
    · go_wp2_with fail
      refine (next_any (a := a7) 3 (by omega) (by omega) _ (by omega) HT.out.feed).mono ?_
      rintro e w9 ⟨q1, hq1, rfl, hF1, hK1, hs1⟩
      replace HT := Lib.hid (HT.out.next hK1 hF1)
      clear hF1 hK1 hs1
      obtain ⟨sk, hsk, hix⟩ := three_at w9 q1 (by omega)
      have c1 : w9.cell? ⟨gq, 0, none⟩ = some (.string y2.p.name) := cell_of_row _ _ 0 _ _ _ HT.out.ry
      have f1 := frozen_of_row _ _ 0 _ _ HT.out.ry
      go_wp2_with fail
      go_meet
      exact ⟨⟨{ y2.p with name := sk }, y2.A, y2.c⟩, (HT.out.turn (z' := ⟨{ y2.p with name := sk }, y2.A, y2.c⟩) (Kept.setCell (S := (· = gq)) _ _ rfl _) (heap_setCell_same w9 gq 0 _ _ _ HT.out.ry) rfl rfl rfl ⟨by show sk.size ≤ _; omega, HT.out.fz.v, HT.out.fz.w, HT.out.fz.set⟩).quad.more (by omega)⟩
    · go_wp2_with fail
      refine (feedvalue_any (a := a7) _ (by omega) HT.out.feed).mono ?_
      rintro e w9 ⟨vk, vn, vx, vs, vb, hv1, hv2, hv3, hv4, rfl, hF1, hK1⟩
      replace HT := Lib.hid (HT.out.next hK1 hF1)
      have HS := Lib.hid (Pd.right_small hv1 hv2 hv3 hv4)
      clear hF1 hK1 hv1 hv2 hv3 hv4
      have HR := Lib.hid HT.out.ry
      go_wp2_with (first | (refine wpList_store_part rfl 24 _ _ rfl gq 7 _ [.int .i64 vk, .int .i64 vn, .float .f64 vx, .string vs, .bool vb] rfl rfl rfl 30 y2.cells HR.out val_size (by show 12 ≤ 13; omega) (Val.one5 ⟨vk, vn, vx, vs, vb⟩) ?_) | fail)
      go_meet
      exact ⟨⟨{ y2.p with w := ⟨vk, vn, vx, vs, vb⟩ }, y2.A, y2.c⟩, (HT.out.turn (z' := ⟨{ y2.p with w := ⟨vk, vn, vx, vs, vb⟩ }, y2.A, y2.c⟩) (Kept.setRow _ _ _) (setRow_heap _ _ _ _ _ _ HT.out.ry) rfl rfl rfl ⟨HT.out.fz.nm, HT.out.fz.v, HS.out.fit, HT.out.fz.set⟩).quad.more (by omega)⟩
    · go_upto_region 19 with fail
      have HT3 := HT
      clear HT
      refine held_begin (fun _ => True) (by kernel_rfl) ?_
      replace HT3 := Lib.hid (HT3.out.later (drew_below _))
      generalize World.drew _ = wd at HT3 ⊢
      refine held_read (i := 0) (o := { dst := some 68, op := Op.fieldAddr 30 (Operand.tmp 9) 4, type := 0, pos := "law.go:57", after := #[], guard := none }) (v := ?_) rfl (by kernel_rfl) (by kernel_rfl) (by kernel_rfl) (fun _ _ _ h => h) (by rfl) trivial ?_ ?_
      rotate_left
      · (intro x hx; go_simp; try with_reducible rfl)
      try simp only [Act.put, List.setIfInBounds_toArray, List.set_cons_zero, List.set_cons_succ]
      refine held_read (i := 2) (o := { dst := some 70, op := Op.move (Operand.tmp 2), type := 38, pos := "law.go:57", after := #[], guard := none }) (v := ?_) rfl (by kernel_rfl) (by kernel_rfl) (by kernel_rfl) (fun _ _ _ h => h) (by rfl) trivial ?_ ?_
      rotate_left
      · (intro x hx; go_simp; try with_reducible rfl)
      try simp only [Act.put, List.setIfInBounds_toArray, List.set_cons_zero, List.set_cons_succ]
      refine held_two (i := 1) (j := 3) (o := { dst := some 69, op := Op.load 28 (Operand.tmp 68), type := 28, pos := "law.go:57", after := #[{ on := 0, ground := Ground.data }], guard := none }) (p := { dst := some 71, op := Op.call { callee := Callee.value (Operand.func 19), args := #[Operand.tmp 70], argTypes := #[38] }, type := 24, pos := "law.go:57", after := #[{ on := 2, ground := Ground.data }], guard := none }) rfl rfl (by kernel_rfl) (by rfl) (by rfl) (fun K hK => ?_) (fun K hK => ?_)
      · skip
        have c12 : World.cell? _ ⟨gq, 12, none⟩ = some (.slice y2.A y2.p.set.length y2.c) := cell_of_row _ _ 12 _ _ _ HT3.out.ry
        go_simp
        refine hK.out _ _ trivial ?_
        clear hK K c12
        try simp only [Act.put, List.setIfInBounds_toArray, List.set_cons_zero, List.set_cons_succ]
        refine held_call (i := 3) (o := { dst := some 71, op := Op.call { callee := Callee.value (Operand.func 19), args := #[Operand.tmp 70], argTypes := #[38] }, type := 24, pos := "law.go:57", after := #[{ on := 2, ground := Ground.data }], guard := none }) rfl (by kernel_rfl) (by rfl) (fun K hK => ?_)
        go_simp
        refine (feedvalue_any (a := a7) _ (by omega) HT3.out.feed).mono ?_
        rintro e wv ⟨vk, vn, vx, vs, vb, hv1, hv2, hv3, hv4, rfl, hF4, hK4⟩
        replace HT3 := Lib.hid (HT3.out.next hK4 hF4)
        have HS := Lib.hid (Pd.right_small hv1 hv2 hv3 hv4)
        refine hK.out _ _ trivial ?_
        clear hK K hF4 hK4 hv1 hv2 hv3 hv4
        try simp only [Act.put, List.setIfInBounds_toArray, List.set_cons_zero, List.set_cons_succ]
        refine held_call (i := 4) (o := { dst := some 72, op := Op.buildSlice 28 1 #[(0, Operand.tmp 71)], type := 28, pos := "law.go:57", after := #[{ on := 3, ground := Ground.data }], guard := none }) rfl (by kernel_rfl) (by rfl) (fun K hK => ?_)
        go_simp
        have hn := one_new wv (.cells #[.int .i64 vk, .int .i64 vn, .float .f64 vx, .string vs, .bool vb] 24)
        refine hK.out _ _ trivial ?_
        replace HT3 := Lib.hid (HT3.out.later hn)
        have HN := Lib.hid (new_val wv ⟨vk, vn, vx, vs, vb⟩)
        clear hn hK K
        try dsimp only [vbox] at HN
        generalize wv.alloc (.cells #[.int .i64 vk, .int .i64 vn, .float .f64 vx, .string vs, .bool vb] 24) = w4 at HT3 HN ⊢
        try simp only [Act.put, List.setIfInBounds_toArray, List.set_cons_zero, List.set_cons_succ]
        refine held_call (i := 5) (o := { dst := some 73, op := Op.call { callee := Callee.builtin Builtin.append, args := #[Operand.tmp 69, Operand.tmp 72], argTypes := #[28, 28] }, type := 28, pos := "law.go:57", after := #[{ on := 1, ground := Ground.data }, { on := 4, ground := Ground.data }, { on := 3, ground := Ground.chain }], guard := none }) rfl (by kernel_rfl) (by rfl) (fun K hK => ?_)
        have hy4 := HY.out
        refine step_ownl (k := 5) _ _ 28 rfl Try.underlying28 val_info rfl (by decide) w.heap.size _ _ _ rfl HT3.out.oz _ 1 1 rfl (vflat [⟨vk, vn, vx, vs, vb⟩]) HN.out (vflat_one _) (by decide) (by omega) (by decide) ?_
        intro g6 c6 w6 hO6 hK6 hat
        have HT4 := Lib.hid (HT3.out.app HS.out.fit hy4 hO6 hK6 (fun i hi => by have e : g6 = i := Option.some.inj hi; rcases hat with h | h; exact .inl (e ▸ h); exact .inr (by omega)))
        refine hK.out _ _ trivial ?_
        clear hO6 hK6 hat hK K HT3 HN
        try simp only [Act.put, List.setIfInBounds_toArray, List.set_cons_zero, List.set_cons_succ]
        refine held_read (i := 6) (o := { dst := some 74, op := Op.fieldAddr 30 (Operand.tmp 9) 4, type := 0, pos := "law.go:57", after := #[{ on := 0, ground := Ground.phase }, { on := 1, ground := Ground.phase }, { on := 2, ground := Ground.phase }, { on := 3, ground := Ground.phase }, { on := 4, ground := Ground.phase }, { on := 5, ground := Ground.phase }], guard := none }) (v := ?_) rfl (by kernel_rfl) (by kernel_rfl) (by kernel_rfl) (fun _ _ _ h => h) (by rfl) trivial ?_ ?_
        rotate_left
        · (intro x hx; go_simp; try with_reducible rfl)
        try simp only [Act.put, List.setIfInBounds_toArray, List.set_cons_zero, List.set_cons_succ]
        refine held_call (i := 7) (o := { dst := none, op := Op.store 28 (Operand.tmp 74) (Operand.tmp 73), type := 0, pos := "law.go:57", after := #[{ on := 6, ground := Ground.data }, { on := 5, ground := Ground.data }, { on := 5, ground := Ground.chain }, { on := 0, ground := Ground.phase }, { on := 1, ground := Ground.phase }, { on := 2, ground := Ground.phase }, { on := 3, ground := Ground.phase }, { on := 4, ground := Ground.phase }, { on := 5, ground := Ground.phase }], guard := none }) rfl (by kernel_rfl) (by rfl) (fun K hK => ?_)
        have c12 : World.cell? _ ⟨gq, 12, none⟩ = some (.slice y2.A y2.p.set.length y2.c) := cell_of_row _ _ 12 _ _ _ HT4.out.ry
        have f12 := frozen_of_row _ _ 12 _ _ HT4.out.ry
        go_simp
        refine hK.out _ _ trivial ?_
        clear hK K c12 f12
        try simp only [Act.put]
        refine wpAnyH_done (by kernel_rfl) ?_ _
        go_wp2_with fail
        go_meet
        exact ⟨_, (Tw.turn (z' := ⟨{ y2.p with set := y2.p.set ++ [⟨vk, vn, vx, vs, vb⟩] }, some ⟨g6, 0, none⟩, c6⟩) HT4.out (Kept.setCell (S := (· = gq)) _ _ rfl _) (box_app HT4.out.ry) rfl rfl rfl HT4.out.fz).quad.more (by omega)⟩
      · skip
        go_simp
        refine (feedvalue_any (a := a7) _ (by omega) HT3.out.feed).mono ?_
        rintro e wv ⟨vk, vn, vx, vs, vb, hv1, hv2, hv3, hv4, rfl, hF4, hK4⟩
        replace HT3 := Lib.hid (HT3.out.next hK4 hF4)
        have HS := Lib.hid (Pd.right_small hv1 hv2 hv3 hv4)
        refine hK.out _ _ trivial ?_
        clear hK K hF4 hK4 hv1 hv2 hv3 hv4
        try simp only [Act.put, List.setIfInBounds_toArray, List.set_cons_zero, List.set_cons_succ]
        refine held_two (i := 1) (j := 4) (o := { dst := some 69, op := Op.load 28 (Operand.tmp 68), type := 28, pos := "law.go:57", after := #[{ on := 0, ground := Ground.data }], guard := none }) (p := { dst := some 72, op := Op.buildSlice 28 1 #[(0, Operand.tmp 71)], type := 28, pos := "law.go:57", after := #[{ on := 3, ground := Ground.data }], guard := none }) rfl rfl (by kernel_rfl) (by rfl) (by rfl) (fun K hK => ?_) (fun K hK => ?_)
        · skip
          have c12 : World.cell? _ ⟨gq, 12, none⟩ = some (.slice y2.A y2.p.set.length y2.c) := cell_of_row _ _ 12 _ _ _ HT3.out.ry
          go_simp
          refine hK.out _ _ trivial ?_
          clear hK K c12
          try simp only [Act.put, List.setIfInBounds_toArray, List.set_cons_zero, List.set_cons_succ]
          refine held_call (i := 4) (o := { dst := some 72, op := Op.buildSlice 28 1 #[(0, Operand.tmp 71)], type := 28, pos := "law.go:57", after := #[{ on := 3, ground := Ground.data }], guard := none }) rfl (by kernel_rfl) (by rfl) (fun K hK => ?_)
          go_simp
          have hn := one_new wv (.cells #[.int .i64 vk, .int .i64 vn, .float .f64 vx, .string vs, .bool vb] 24)
          refine hK.out _ _ trivial ?_
          replace HT3 := Lib.hid (HT3.out.later hn)
          have HN := Lib.hid (new_val wv ⟨vk, vn, vx, vs, vb⟩)
          clear hn hK K
          try dsimp only [vbox] at HN
          generalize wv.alloc (.cells #[.int .i64 vk, .int .i64 vn, .float .f64 vx, .string vs, .bool vb] 24) = w4 at HT3 HN ⊢
          try simp only [Act.put, List.setIfInBounds_toArray, List.set_cons_zero, List.set_cons_succ]
          refine held_call (i := 5) (o := { dst := some 73, op := Op.call { callee := Callee.builtin Builtin.append, args := #[Operand.tmp 69, Operand.tmp 72], argTypes := #[28, 28] }, type := 28, pos := "law.go:57", after := #[{ on := 1, ground := Ground.data }, { on := 4, ground := Ground.data }, { on := 3, ground := Ground.chain }], guard := none }) rfl (by kernel_rfl) (by rfl) (fun K hK => ?_)
          have hy4 := HY.out
          refine step_ownl (k := 5) _ _ 28 rfl Try.underlying28 val_info rfl (by decide) w.heap.size _ _ _ rfl HT3.out.oz _ 1 1 rfl (vflat [⟨vk, vn, vx, vs, vb⟩]) HN.out (vflat_one _) (by decide) (by omega) (by decide) ?_
          intro g6 c6 w6 hO6 hK6 hat
          have HT4 := Lib.hid (HT3.out.app HS.out.fit hy4 hO6 hK6 (fun i hi => by have e : g6 = i := Option.some.inj hi; rcases hat with h | h; exact .inl (e ▸ h); exact .inr (by omega)))
          refine hK.out _ _ trivial ?_
          clear hO6 hK6 hat hK K HT3 HN
          try simp only [Act.put, List.setIfInBounds_toArray, List.set_cons_zero, List.set_cons_succ]
          refine held_read (i := 6) (o := { dst := some 74, op := Op.fieldAddr 30 (Operand.tmp 9) 4, type := 0, pos := "law.go:57", after := #[{ on := 0, ground := Ground.phase }, { on := 1, ground := Ground.phase }, { on := 2, ground := Ground.phase }, { on := 3, ground := Ground.phase }, { on := 4, ground := Ground.phase }, { on := 5, ground := Ground.phase }], guard := none }) (v := ?_) rfl (by kernel_rfl) (by kernel_rfl) (by kernel_rfl) (fun _ _ _ h => h) (by rfl) trivial ?_ ?_
          rotate_left
          · (intro x hx; go_simp; try with_reducible rfl)
          try simp only [Act.put, List.setIfInBounds_toArray, List.set_cons_zero, List.set_cons_succ]
          refine held_call (i := 7) (o := { dst := none, op := Op.store 28 (Operand.tmp 74) (Operand.tmp 73), type := 0, pos := "law.go:57", after := #[{ on := 6, ground := Ground.data }, { on := 5, ground := Ground.data }, { on := 5, ground := Ground.chain }, { on := 0, ground := Ground.phase }, { on := 1, ground := Ground.phase }, { on := 2, ground := Ground.phase }, { on := 3, ground := Ground.phase }, { on := 4, ground := Ground.phase }, { on := 5, ground := Ground.phase }], guard := none }) rfl (by kernel_rfl) (by rfl) (fun K hK => ?_)
          have c12 : World.cell? _ ⟨gq, 12, none⟩ = some (.slice y2.A y2.p.set.length y2.c) := cell_of_row _ _ 12 _ _ _ HT4.out.ry
          have f12 := frozen_of_row _ _ 12 _ _ HT4.out.ry
          go_simp
          refine hK.out _ _ trivial ?_
          clear hK K c12 f12
          try simp only [Act.put]
          refine wpAnyH_done (by kernel_rfl) ?_ _
          go_wp2_with fail
          go_meet
          exact ⟨_, (Tw.turn (z' := ⟨{ y2.p with set := y2.p.set ++ [⟨vk, vn, vx, vs, vb⟩] }, some ⟨g6, 0, none⟩, c6⟩) HT4.out (Kept.setCell (S := (· = gq)) _ _ rfl _) (box_app HT4.out.ry) rfl rfl rfl HT4.out.fz).quad.more (by omega)⟩
        · skip
          go_simp
          have hn := one_new wv (.cells #[.int .i64 vk, .int .i64 vn, .float .f64 vx, .string vs, .bool vb] 24)
          refine hK.out _ _ trivial ?_
          replace HT3 := Lib.hid (HT3.out.later hn)
          have HN := Lib.hid (new_val wv ⟨vk, vn, vx, vs, vb⟩)
          clear hn hK K
          try dsimp only [vbox] at HN
          generalize wv.alloc (.cells #[.int .i64 vk, .int .i64 vn, .float .f64 vx, .string vs, .bool vb] 24) = w4 at HT3 HN ⊢
          try simp only [Act.put, List.setIfInBounds_toArray, List.set_cons_zero, List.set_cons_succ]
          refine held_call (i := 1) (o := { dst := some 69, op := Op.load 28 (Operand.tmp 68), type := 28, pos := "law.go:57", after := #[{ on := 0, ground := Ground.data }], guard := none }) rfl (by kernel_rfl) (by rfl) (fun K hK => ?_)
          have c12 : World.cell? _ ⟨gq, 12, none⟩ = some (.slice y2.A y2.p.set.length y2.c) := cell_of_row _ _ 12 _ _ _ HT3.out.ry
          go_simp
          refine hK.out _ _ trivial ?_
          clear hK K c12
          try simp only [Act.put, List.setIfInBounds_toArray, List.set_cons_zero, List.set_cons_succ]
          refine held_call (i := 5) (o := { dst := some 73, op := Op.call { callee := Callee.builtin Builtin.append, args := #[Operand.tmp 69, Operand.tmp 72], argTypes := #[28, 28] }, type := 28, pos := "law.go:57", after := #[{ on := 1, ground := Ground.data }, { on := 4, ground := Ground.data }, { on := 3, ground := Ground.chain }], guard := none }) rfl (by kernel_rfl) (by rfl) (fun K hK => ?_)
          have hy4 := HY.out
          refine step_ownl (k := 5) _ _ 28 rfl Try.underlying28 val_info rfl (by decide) w.heap.size _ _ _ rfl HT3.out.oz _ 1 1 rfl (vflat [⟨vk, vn, vx, vs, vb⟩]) HN.out (vflat_one _) (by decide) (by omega) (by decide) ?_
          intro g6 c6 w6 hO6 hK6 hat
          have HT4 := Lib.hid (HT3.out.app HS.out.fit hy4 hO6 hK6 (fun i hi => by have e : g6 = i := Option.some.inj hi; rcases hat with h | h; exact .inl (e ▸ h); exact .inr (by omega)))
          refine hK.out _ _ trivial ?_
          clear hO6 hK6 hat hK K HT3 HN
          try simp only [Act.put, List.setIfInBounds_toArray, List.set_cons_zero, List.set_cons_succ]
          refine held_read (i := 6) (o := { dst := some 74, op := Op.fieldAddr 30 (Operand.tmp 9) 4, type := 0, pos := "law.go:57", after := #[{ on := 0, ground := Ground.phase }, { on := 1, ground := Ground.phase }, { on := 2, ground := Ground.phase }, { on := 3, ground := Ground.phase }, { on := 4, ground := Ground.phase }, { on := 5, ground := Ground.phase }], guard := none }) (v := ?_) rfl (by kernel_rfl) (by kernel_rfl) (by kernel_rfl) (fun _ _ _ h => h) (by rfl) trivial ?_ ?_
          rotate_left
          · (intro x hx; go_simp; try with_reducible rfl)
          try simp only [Act.put, List.setIfInBounds_toArray, List.set_cons_zero, List.set_cons_succ]
          refine held_call (i := 7) (o := { dst := none, op := Op.store 28 (Operand.tmp 74) (Operand.tmp 73), type := 0, pos := "law.go:57", after := #[{ on := 6, ground := Ground.data }, { on := 5, ground := Ground.data }, { on := 5, ground := Ground.chain }, { on := 0, ground := Ground.phase }, { on := 1, ground := Ground.phase }, { on := 2, ground := Ground.phase }, { on := 3, ground := Ground.phase }, { on := 4, ground := Ground.phase }, { on := 5, ground := Ground.phase }], guard := none }) rfl (by kernel_rfl) (by rfl) (fun K hK => ?_)
          have c12 : World.cell? _ ⟨gq, 12, none⟩ = some (.slice y2.A y2.p.set.length y2.c) := cell_of_row _ _ 12 _ _ _ HT4.out.ry
          have f12 := frozen_of_row _ _ 12 _ _ HT4.out.ry
          go_simp
          refine hK.out _ _ trivial ?_
          clear hK K c12 f12
          try simp only [Act.put]
          refine wpAnyH_done (by kernel_rfl) ?_ _
          go_wp2_with fail
          go_meet
          exact ⟨_, (Tw.turn (z' := ⟨{ y2.p with set := y2.p.set ++ [⟨vk, vn, vx, vs, vb⟩] }, some ⟨g6, 0, none⟩, c6⟩) HT4.out (Kept.setCell (S := (· = gq)) _ _ rfl _) (box_app HT4.out.ry) rfl rfl rfl HT4.out.fz).quad.more (by omega)⟩
    · have hg := cells_row HT.out.rx
      have hv : ∀ j u, xp.p.v.cells[j]? = some u → w8.cell? ⟨gp, 2 + j, none⟩ = some u := by
        intro j u hj
        have hj5 : j < 5 := (List.getElem?_eq_some_iff.1 hj).1
        have := hg (2 + j) u (by
          match j, hj5 with
          | 0, _ | 1, _ | 2, _ | 3, _ | 4, _ => exact hj)
        rw [Nat.zero_add] at this
        exact this
      have HV := Lib.hid hv
      have HR := Lib.hid HT.out.ry
      clear hg hv
      go_wp2_with (first | (refine wpList_load_at rfl 24 _ rfl gp 2 xp.p.v.cells _ rfl HV.out Try.underlying24 rfl val_size ?_; dsimp only [Val.cells]) | (refine wpList_store_part rfl 24 _ _ rfl gq 2 _ xp.p.v.cells rfl rfl rfl 30 y2.cells HR.out val_size (by show 7 ≤ 13; omega) (Val.one5 _) ?_) | fail)
      go_meet
      exact ⟨⟨{ y2.p with v := xp.p.v }, y2.A, y2.c⟩, (HT.out.turn (z' := ⟨{ y2.p with v := xp.p.v }, y2.A, y2.c⟩) (Kept.setRow _ _ _) (setRow_heap _ _ _ _ _ _ HT.out.ry) rfl rfl rfl ⟨HT.out.fz.nm, HT.out.fx.v, HT.out.fz.w, HT.out.fz.set⟩).quad.more (by omega)⟩
    · go_wp2_with fail
      go_meet
      exact ⟨y2, HT.out.quad.more (by omega)⟩
  case rest =>
  obtain ⟨y3, hQ⟩ := hcut
  clear HT HY
  have HQ := Lib.hid hQ
  clear hQ
  generalize wc = w9 at HQ ⊢
  go_upto_region 22 with fail
  refine held_begin (fun xw => xw.heap[gp]? = some xp.box ∧ xw.heap[gq]? = some y3.box) (by kernel_rfl) ?_
  replace HQ := Lib.hid (HQ.out.later (drew_below _))
  generalize World.drew _ = wd at HQ ⊢
  refine held_read (i := 0) (o := { dst := some 80, op := Op.load 30 (Operand.tmp 8), type := 30, pos := "law.go:61", after := #[], guard := none }) (v := ?_) rfl (by kernel_rfl) (by kernel_rfl) (by kernel_rfl) (fun _ _ _ h => h) (by rfl) ⟨HQ.out.rx, HQ.out.ry⟩ ?_ ?_
  rotate_left
  · (intro x hx; first | (refine load_run (cs := xp.cells) rfl rfl (cells_row hx.1) Try.underlying30 rfl prd_size ?_; rfl) | (refine load_run (cs := y3.cells) rfl rfl (cells_row hx.2) Try.underlying30 rfl prd_size ?_; rfl))
  try simp only [Act.put, List.setIfInBounds_toArray, List.set_cons_zero, List.set_cons_succ]
  refine held_read (i := 1) (o := { dst := some 81, op := Op.load 30 (Operand.tmp 9), type := 30, pos := "law.go:61", after := #[{ on := 2, ground := Ground.gcOnly Departure.lateStores }], guard := none }) (v := ?_) rfl (by kernel_rfl) (by kernel_rfl) (by kernel_rfl) (fun _ _ _ h => h) (by rfl) ⟨HQ.out.rx, HQ.out.ry⟩ ?_ ?_
  rotate_left
  · (intro x hx; first | (refine load_run (cs := xp.cells) rfl rfl (cells_row hx.1) Try.underlying30 rfl prd_size ?_; rfl) | (refine load_run (cs := y3.cells) rfl rfl (cells_row hx.2) Try.underlying30 rfl prd_size ?_; rfl))
  try simp only [Act.put, List.setIfInBounds_toArray, List.set_cons_zero, List.set_cons_succ]
  refine held_call (i := 2) (o := { dst := none, op := Op.store 30 (Operand.tmp 6) (Operand.tmp 80), type := 0, pos := "law.go:61", after := #[{ on := 0, ground := Ground.data }, { on := 0, ground := Ground.phase }, { on := 1, ground := Ground.textOnly Departure.lateStores }], guard := none }) rfl (by kernel_rfl) (by rfl) (fun K hK => ?_)
  refine step_store_part 30 _ _ rfl (w.heap.size + 2) 0 _ xp.cells rfl rfl rfl 30 _ HQ.out.r6 prd_size (Nat.le_refl 13) (Pt.one _) ?_
  have HQ1 := Lib.hid (HQ.out.put6 xp)
  refine hK.out _ _ ⟨HQ1.out.rx, HQ1.out.ry⟩ ?_
  clear hK K HQ
  have HQ := HQ1
  clear HQ1
  generalize World.setRow _ _ _ = w6 at HQ ⊢
  try simp only [Act.put]
  refine held_call (i := 3) (o := { dst := none, op := Op.store 30 (Operand.tmp 7) (Operand.tmp 81), type := 0, pos := "law.go:61", after := #[{ on := 1, ground := Ground.data }, { on := 2, ground := Ground.chain }, { on := 0, ground := Ground.phase }, { on := 1, ground := Ground.phase }, { on := 2, ground := Ground.phase }], guard := none }) rfl (by kernel_rfl) (by rfl) (fun K hK => ?_)
  refine step_store_part 30 _ _ rfl (w.heap.size + 3) 0 _ y3.cells rfl rfl rfl 30 _ HQ.out.r7 prd_size (Nat.le_refl 13) (Pt.one _) ?_
  have HQ1 := Lib.hid (HQ.out.put7 y3)
  refine hK.out _ _ ⟨HQ1.out.rx, HQ1.out.ry⟩ ?_
  clear hK K HQ
  have HQ := HQ1
  clear HQ1
  generalize World.setRow _ _ _ = w6 at HQ ⊢
  try simp only [Act.put]
  refine wpAnyH_done (by kernel_rfl) ?_ _
  go_wp2_with fail
  refine bodyPost_ret (results_two_rows rfl _ _ _ _ _ _ _ _ rfl rfl HQ.out.r6 HQ.out.r7 Try.underlying30 prd_size prd_size) rfl ?_
  exact HQ.out.ends (by omega)
end Go.Proofs.Ytddgpbokfglieaa
